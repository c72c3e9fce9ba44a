/- The reference of package token: its reader. -/
import Derived.Test.YtkgcgbpclpmleaaGreatTR19toS10
namespace Go.Ab
open Go.Proofs
set_option linter.unusedSectionVars false
set_option maxRecDepth 100000
variable [Glob]
theorem skipA_zero' {l : List UInt8} (p : Int × Int) (h : sepL l = (0, 0)) : skipA l p = (0, l, p) := by
 unfold skipA
 simp only [skipL]
 rw [h, if_pos (.inl rfl)]
def LeP : Env → Env → Prop
 | [], [] => True
 | (_, x) :: r, [] => x = .s .none ∧ LeP r []
 | (t, x) :: r, (u, y) :: q => t = u ∧ (x = .s .none ∨ x = y) ∧ LeP r q
 | [], _ :: _ => False
theorem LeP.nil : LeP [] [] := trivial
theorem LeP.same {t : Nat} {x : XV} {r q : Env} (h : LeP r q) : LeP ((t, x) :: r) ((t, x) :: q) := ⟨rfl, .inr rfl, h⟩
theorem LeP.eq {t : Nat} {x y : XV} {r q : Env} (he : x = y) (h : LeP r q) : LeP ((t, x) :: r) ((t, y) :: q) := ⟨rfl, .inr he, h⟩
theorem LeP.drop {t : Nat} {y : XV} {r q : Env} (h : LeP r q) : LeP ((t, .s .none) :: r) ((t, y) :: q) := ⟨rfl, .inl rfl, h⟩
theorem LeP.more {t : Nat} {r : Env} (h : LeP r []) : LeP ((t, .s .none) :: r) [] := ⟨rfl, h⟩
theorem LeP.get : ∀ {e e' : Env}, LeP e e' → ∀ t, e.get t = .s .none ∨ e.get t = e'.get t
 | [], [], _, _ => .inr rfl
 | (a, x) :: r, [], h, t => by
  obtain ⟨rfl, h3⟩ := h
  rw [Env.get_cons]
  by_cases he : a = t
  ·rw [if_pos he]; exact .inl rfl
  ·rw [if_neg he]; exact LeP.get h3 t
 | (a, x) :: r, (b, y) :: q, h, t => by
  obtain ⟨rfl, h2, h3⟩ := h
  rw [Env.get_cons, Env.get_cons]
  by_cases he : a = t
  ·rw [if_pos he, if_pos he]; exact h2
  ·rw [if_neg he, if_neg he]; exact LeP.get h3 t
 | [], _ :: _, h, _ => h.elim
theorem Weak.pad {n m : Nat} {e e' : Env} (H : List AO) (h : LeP e' e) : Weak n m e H e' H := fun G0 G a hx hm hS hH hE => by
 refine ⟨G, rfl, hx, hS, hH, fun t => ?_, hE.size, hE.defers⟩
 rcases h.get t with h1 | h1
 ·rw [h1]; trivial
 ·rw [h1]; exact hE.get t
def startV (r : RdV) (t : ByteArray) : Bool := decide ((t.size : Int) ≤ (r.rest.size : Int) - r.file) && decide (r.rest.extract r.file.toNat (r.file + t.size).toNat = t)
def RrOk (r : RdV) : Prop := r.rest.size ≤ 1000000000 ∧ 0 ≤ r.file ∧ r.file ≤ r.rest.size ∧ 0 ≤ r.line ∧ r.line + r.rest.size ≤ 1000000000000 + r.file ∧ 0 ≤ r.column ∧ r.column + r.rest.size ≤ 1000000000000 + r.file
def saysRdS (g : RdV → ByteArray → Option Prop × SV × RdV) : Says := fun args H => match args, H with
 | [.c (.ptr 0 0), .c (.p (.v (.string t)))], [.row [.p (.v (.string s)), .p (.v (.int .i64 f)), .p (.v (.int .i64 l)), .p (.v (.int .i64 c))]] => some ((g ⟨s, f, l, c⟩ t).1, (g ⟨s, f, l, c⟩ t).2.1, [rdO (g ⟨s, f, l, c⟩ t).2.2])
 | _, _ => none
theorem extRdS {P : Program} {T : Table} (hT : TSound P T) (f : FuncId) {fn : Func} (hf : P.funcs[f]? = some fn) (hname : NG9 fn) (hn : 2 ≤ fn.ntmps) (g : RdV → ByteArray → Option Prop × SV × RdV) (ks : List Nat)
  (h : ∀ r t, holdsO (g r t).1 → runF ⟨P, T⟩ fn ks [0] [.c (.ptr 0 0), .c (.p (.v (.string t)))] [rdO r] fun r' H'' => Ends r' H'' (g r t).2.1 [rdO (g r t).2.2]) : TSound P (ext T f (saysRdS g)) :=
 ext_run hT hf hname ks fun args H p r H' hs hp => by
  unfold saysRdS at hs
  split at hs
  ·cases hs
   exact ⟨hn, [0], rfl, id0, h _ _ hp⟩
  ·cases hs
def saysRv (g : RdV → Option Prop × SV) : Says := fun args H => match args, H with
 | [.agg [.p (.v (.string s)), .p (.v (.int .i64 f)), .p (.v (.int .i64 l)), .p (.v (.int .i64 c))]], [] => some ((g ⟨s, f, l, c⟩).1, (g ⟨s, f, l, c⟩).2, [])
 | _, _ => none
theorem extRv {P : Program} {T : Table} (hT : TSound P T) (f : FuncId) {fn : Func} (hf : P.funcs[f]? = some fn) (hname : NG9 fn) (hn : 1 ≤ fn.ntmps) (g : RdV → Option Prop × SV) (ks : List Nat)
  (h : ∀ s f l c, holdsO (g ⟨s, f, l, c⟩).1 → runF ⟨P, T⟩ fn ks [] [.agg [.p (.v (.string s)), .p (.v (.int .i64 f)), .p (.v (.int .i64 l)), .p (.v (.int .i64 c))]] [] fun r' H'' => Ends r' H'' (g ⟨s, f, l, c⟩).2 []) : TSound P (ext T f (saysRv g)) :=
 ext_run hT hf hname ks fun args H p r H' hs hp => by
  unfold saysRv at hs
  split at hs
  ·cases hs
   exact ⟨hn, [], rfl, nK9, h _ _ _ _ hp⟩
  ·cases hs
def T66 : Table := ext T65 43 (saysRdS fun r t => (some (r.rest.size ≤ 1000000000 ∧ 0 ≤ r.file ∧ r.file ≤ r.rest.size ∧ t.size ≤ 1000), .bool (startV r t), r))
def T67 : Table := ext T66 44 (saysRv fun r => (some (r.rest.size ≤ 1000000000 ∧ 0 ≤ r.file ∧ r.file ≤ r.rest.size), .bool (startV r ⟨#[42, 47]⟩)))
theorem t66 : TS9 T66 := by
 refine extRdS t65 43 (fn := Tryz.f43) rfl rfl (by decide) _ [0, 1, 4] fun r t hs => ?_
 obtain ⟨h1, h2, h3, h4⟩ : r.rest.size ≤ 1000000000 ∧ 0 ≤ r.file ∧ r.file ≤ r.rest.size ∧ t.size ≤ 1000 := hs
 obtain ⟨s, f, l, c⟩ := r
 simp only at h1 h2 h3
 have ht : ((t.size : Nat) : Int) ≤ 1000 := by omega
 repeat ((conv => whnf); refine ⟨by first | exact rfl | (unfold inI64; dsimp only; omega) | (intro hg; simp [lit] at hg; first | (unfold inI64; dsimp only; omega) | (dsimp only; omega)), ?_⟩)
 conv => whnf
 exact eR9
theorem t67 : TS9 T67 := by
 refine extRv t66 44 (fn := Tryz.f44) rfl rfl (by decide) _ [0, 1, 2] fun s f l c hs => ?_
 obtain ⟨h1, h2, h3⟩ : s.size ≤ 1000000000 ∧ 0 ≤ f ∧ f ≤ s.size := hs
 repeat ((conv => whnf); refine ⟨⟨h1, h2, h3, by decide⟩, ?_⟩)
 conv => whnf
 exact eR9
def stepR (r : RdV) (n : Int) : RdV := ⟨r.rest, r.file + n, (posL ((r.rest.data.toList.drop r.file.toNat).take n.toNat) (r.line, r.column)).1, (posL ((r.rest.data.toList.drop r.file.toNat).take n.toNat) (r.line, r.column)).2⟩
def T68 : Table := ext T67 32 (saysRdI fun r n => (some (RrOk r ∧ 0 ≤ n ∧ r.file + n ≤ r.rest.size), .tup [], stepR r n))
theorem posL_room : ∀ (l : List UInt8) (p : Int × Int), 0 ≤ p.1 → 0 ≤ p.2 → p.1 ≤ (posL l p).1 ∧ (posL l p).1 ≤ p.1 + l.length ∧ 0 ≤ (posL l p).2 ∧ (posL l p).2 ≤ p.2 + l.length
 | [], p, _, _ => by simp only [posL_nil, zN9]; omega
 | a :: l, p, h1, h2 => by
  rw [posL_cons]
  have h3 : p.1 ≤ (stepP p a).1 ∧ (stepP p a).1 ≤ p.1 + 1 ∧ 0 ≤ (stepP p a).2 ∧ (stepP p a).2 ≤ p.2 + 1 := by unfold stepP; split <;> simp only <;> omega
  have := posL_room l (stepP p a) (by omega) (by omega)
  simp only [zC9]
  omega
theorem posL_snoc (l : List UInt8) (a m : Nat) (p : Int × Int) (h : a + m < l.length) : posL ((l.drop a).take (m + 1)) p = stepP (posL ((l.drop a).take m) p) (l.getD (a + m) 0) := by
 rw [List.take_add_one, posL_append]
 have : (l.drop a)[m]? = some (l.getD (a + m) 0) := by
  rw [List.getElem?_drop, List.getD_eq_getElem?_getD, List.getElem?_eq_getElem h]
  rfl
 rw [this]
 rfl
theorem t68 : TS9 T68 := by
 refine extRdI t67 32 (fn := Tryz.f32) rfl rfl (by decide) _ [0, 1, 5, 24] fun r n hs => ?_
 obtain ⟨⟨h1, h2, h3, h4, h5, h6, h7⟩, h8, h9⟩ : RrOk r ∧ 0 ≤ n ∧ r.file + n ≤ r.rest.size := hs
 obtain ⟨s, f, li, co⟩ := r
 simp only at h1 h2 h3 h4 h5 h6 h7 h9
 obtain ⟨a, rfl⟩ : ∃ a : Nat, f = a := ⟨f.toNat, by omega⟩
 obtain ⟨k, rfl⟩ : ∃ k : Nat, n = k := ⟨n.toNat, by omega⟩
 obtain ⟨l, rfl⟩ : ∃ l, s = B l := ⟨s.data.toList, rfl⟩
 have hB : (B l).size = l.length := rfl
 conv => whnf
 refine loop_weak (σ := Nat) (fun m => [(0, XV.s (.a (.c (.ptr 0 0)))), (1, XV.s (.int .i64 ((k : Int) - m))), (5, nX9), (24, nX9)])
  (fun m => [.row [.str (B l), .int .i64 ((a : Int) + m), .int .i64 (posL ((l.drop a).take m) (li, co)).1, .int .i64 (posL ((l.drop a).take m) (li, co)).2]])
  (fun m => m ≤ k) (fun m => k - m) 0 ?_ (nZ9 _) fun m hI => ?_
 ·have e0 : [AO.row [AC.str (B l), AC.int .i64 (a : Int), AC.int .i64 li, AC.int .i64 co]] = [AO.row [AC.str (B l), AC.int .i64 ((a : Int) + ((0 : Nat) : Int)), AC.int .i64 (posL ((l.drop a).take 0) (li, co)).1, AC.int .i64 (posL ((l.drop a).take 0) (li, co)).2]] := by
   rw [show (a : Int) + ((0 : Nat) : Int) = (a : Int) by omega]
   rfl
  show Weak _ _ _ [AO.row [AC.str (B l), AC.int .i64 (a : Int), AC.int .i64 li, AC.int .i64 co]] _ _
  rw [← e0]
  refine Weak.pad _ ?_
  refine LeP.same (LeP.eq ?_ (LeP.more (LeP.more LeP.nil)))
  show XV.s (SV.int .i64 ((k : Int) - ((0 : Nat) : Int))) = XV.s (SV.int .i64 (k : Int))
  rw [show (k : Int) - ((0 : Nat) : Int) = (k : Int) by omega]
 have hI' : m ≤ k := hI
 have hp := posL_room ((l.drop a).take m) (li, co) h4 h6
 have hpl : ((l.drop a).take m).length ≤ m := by rw [List.length_take]; omega
 conv => whnf
 refine cI9 ?_ ?_<;>intro h
 ·have hlt : m < k := by have : (0 : Int) < (k : Int) - m := oT9 h
                         omega
  have hs := posL_snoc l a m (li, co) (by omega)
  have hbt : byteAt (B l) ((a : Int) + m) = bi (l.getD (a + m) 0) := rfl
  generalize hq : posL ((l.drop a).take m) (li, co) = q at hp hs
  simp only at hp
  repeat ((conv => whnf); refine ⟨by first | (unfold inI64; omega) | omega | exact rfl, ?_⟩)
  conv => whnf
  refine cI9 ?_ ?_<;>intro h10
  ·have h11 : l.getD (a + m) 0 = 10 := (iff_of_eq (byte_iff (l.getD (a + m) 0) 10)).1 (hbt.symm.trans (oT9 h10))
   repeat ((conv => whnf); refine ⟨by (unfold inI64; omega), ?_⟩)
   conv => whnf
   refine hI9 (m + 1) ?_ ?_ ?_ ?_
   ·repeat (first | exact lN9 | refine lD9 ?_ | refine lS9 ?_ | refine LeL.eq (congrArg (fun x => XV.s (SV.int .i64 x)) (by omega : ((k : Int) - ((m + 1 : Nat) : Int)) = (k : Int) - m - 1)) ?_)
   ·show [AO.row [AC.str (B l), AC.int .i64 ((a : Int) + m + 1), AC.int .i64 (q.1 + 1), AC.int .i64 (1)]] = [AO.row [AC.str (B l), AC.int .i64 ((a : Int) + ((m + 1 : Nat) : Int)), AC.int .i64 (posL ((l.drop a).take (m + 1)) (li, co)).1, AC.int .i64 (posL ((l.drop a).take (m + 1)) (li, co)).2]]
    rw [hs, show (a : Int) + ((m + 1 : Nat) : Int) = (a : Int) + m + 1 by omega]
    unfold stepP
    rw [if_pos h11]
   ·exact hlt
   ·show k - (m + 1) < k - m
    omega
  ·have h11 : ¬ l.getD (a + m) 0 = 10 := fun h => oF9 h10 (by rw [hbt, h]; rfl)
   repeat ((conv => whnf); refine ⟨by (unfold inI64; omega), ?_⟩)
   conv => whnf
   refine hI9 (m + 1) ?_ ?_ ?_ ?_
   ·repeat (first | exact lN9 | refine lD9 ?_ | refine lS9 ?_ | refine LeL.eq (congrArg (fun x => XV.s (SV.int .i64 x)) (by omega : ((k : Int) - ((m + 1 : Nat) : Int)) = (k : Int) - m - 1)) ?_)
   ·show [AO.row [AC.str (B l), AC.int .i64 ((a : Int) + m + 1), AC.int .i64 (q.1), AC.int .i64 (q.2 + 1)]] = [AO.row [AC.str (B l), AC.int .i64 ((a : Int) + ((m + 1 : Nat) : Int)), AC.int .i64 (posL ((l.drop a).take (m + 1)) (li, co)).1, AC.int .i64 (posL ((l.drop a).take (m + 1)) (li, co)).2]]
    rw [hs, show (a : Int) + ((m + 1 : Nat) : Int) = (a : Int) + m + 1 by omega]
    unfold stepP
    rw [if_neg h11]
   ·exact hlt
   ·show k - (m + 1) < k - m
    omega
 ·have hm : m = k := by have : ¬ (0 : Int) < (k : Int) - m := oF9 h
                        omega
  subst hm
  conv => whnf
  exact eR9
def skipR (r : RdV) : Int × RdV :=
 let x := skipA (r.rest.data.toList.drop r.file.toNat) (r.line, r.column)
 (x.1, ⟨r.rest, (r.rest.size : Int) - x.2.1.length, x.2.2.1, x.2.2.2⟩)
def T69 : Table := ext T68 30 (saysRd fun r => (some (RrOk r), .int .i64 (skipR r).1, (skipR r).2))
theorem start2 (l : List UInt8) (a : Nat) (li co : Int) (x y : UInt8) (h : a ≤ l.length) : startV ⟨B l, a, li, co⟩ ⟨#[x, y]⟩ = decide ((l.drop a).head? = some x ∧ (l.drop a).tail.head? = some y) := by
 rw [← pref2']
 unfold startV prefB
 have h2 : (ByteArray.mk #[x, y]).size = 2 := rfl
 rw [h2]
 simp only
 rw [B_extract, B_extract, B_size, B_size, List.length_drop, Int.toNat_natCast, show ((a : Int) + ((2 : Nat) : Int)).toNat = a + 2 by omega]
 congr 1
 ·rw [decide_eq_decide]; omega
 ·rw [List.drop_take, show a + 2 - a = 2 by omega]; rfl
theorem skipR_blank (l : List UInt8) (a : Nat) (li co : Int) (h : a < l.length) (hb : spaceB (byteAt (B l) (a : Int)) = true) : skipA (l.drop a) (li, co) = skipA (l.drop (a + 1)) (stepP (li, co) (l.getD a 0)) := by
 rw [drop_get h]
 exact skipA_blank' (l.getD a 0) _ _ hb
theorem amb_space (u : UInt8) : amongB (bi u) ⟨#[32, 9, 13, 10]⟩ = spaceB (bi u) := bytes_all (P := fun c => amongB c ⟨#[32, 9, 13, 10]⟩ = spaceB c) (by decide +kernel) u
theorem stepR_eq (l : List UInt8) (i k : Nat) (x y : Int) : stepR ⟨B l, i, x, y⟩ (k : Int) = ⟨B l, ((i + k : Nat) : Int), (posL ((l.drop i).take k) (x, y)).1, (posL ((l.drop i).take k) (x, y)).2⟩ := by
 show RdV.mk _ _ _ _ = _
 rw [Int.natCast_add]
 rfl
theorem stepR_ok {l : List UInt8} {i : Nat} {x y : Int} (k : Nat) (h : RrOk ⟨B l, i, x, y⟩) (hk : i + k ≤ l.length) : RrOk ⟨B l, ((i + k : Nat) : Int), (posL ((l.drop i).take k) (x, y)).1, (posL ((l.drop i).take k) (x, y)).2⟩ := by
 obtain ⟨h1, h2, h3, h4, h5, h6, h7⟩ := h
 simp only at h1 h2 h3 h4 h5 h6 h7
 have hp := posL_room ((l.drop i).take k) (x, y) h4 h6
 have hl : ((l.drop i).take k).length = k := by rw [List.length_take, List.length_drop]; omega
 have hB : (B l).size = l.length := rfl
 simp only at hp
 exact ⟨h1, by simp only; omega, by simp only; omega, by simp only; omega, by simp only; omega, by simp only; omega, by simp only; omega⟩
theorem sep_line {l : List UInt8} {a : Nat} (h : (l.drop a).head? = some 47 ∧ (l.drop a).tail.head? = some 47) : sepL (l.drop a) = ((tw lineB (l.drop a)).length, 0) ∧ (tw lineB (l.drop a)).length ≠ 0 := by
 refine ⟨by unfold sepL; rw [if_pos h], ?_⟩
 cases hd : l.drop a with
 | nil => rw [hd] at h; cases h.1
 | cons b r =>
  rw [hd] at h
  have hb : b = 47 := by simpa using h.1
  subst hb
  rw [tw_cons_pos (by decide)]
  simp
theorem endAt_drop (l : List UInt8) (i : Nat) (h : i < l.length) (hn : ¬ ((l.drop i).head? = some 42 ∧ (l.drop i).tail.head? = some 47)) : endAt (l.drop i) = (endAt (l.drop (i + 1))).map (· + 1) := by
 rw [drop_get h] at hn ⊢
 conv => lhs; unfold endAt
 rw [if_neg]
 intro h2
 exact hn ⟨by rw [List.head?_cons, h2.1], h2.2⟩
theorem posL_two (l : List UInt8) (i m k : Nat) (p : Int × Int) : posL ((l.drop (i + m)).take k) (posL ((l.drop i).take m) p) = posL ((l.drop i).take (m + k)) p := by
 rw [List.take_add, posL_append, List.drop_drop]
theorem skipA_err {l : List UInt8} {e : Int} (p : Int × Int) (h : sepL l = (0, e)) : skipA l p = (e, l, p) := by
 unfold skipA
 simp only [skipL]
 rw [h, if_pos (.inl rfl)]
theorem skipR_of {l : List UInt8} {a i : Nat} {li co x y e : Int} (h : skipA (l.drop i) (x, y) = skipA (l.drop a) (li, co)) (hi : i ≤ l.length) (he : skipA (l.drop i) (x, y) = (e, l.drop i, (x, y))) :
  skipR ⟨B l, (a : Int), li, co⟩ = (e, ⟨B l, (i : Int), x, y⟩) := by
 have h2 : skipA ((B l).data.toList.drop (((a : Nat) : Int)).toNat) (li, co) = (e, l.drop i, (x, y)) := h.symm.trans he
 unfold skipR
 simp only
 rw [h2]
 simp only
 rw [List.length_drop, B_size, show ((l.length : Nat) : Int) - ((l.length - i : Nat) : Int) = (i : Int) by omega]
theorem head_two {l : List UInt8} {i : Nat} {u v : UInt8} (h : (l.drop i).head? = some u ∧ (l.drop i).tail.head? = some v) : i + 2 ≤ l.length := by
 match hd : l.drop i with
 | [] => rw [hd] at h; cases h.1
 | [a] => rw [hd] at h; cases h.2
 | a :: b :: r =>
  have := congrArg List.length hd
  rw [List.length_drop] at this
  simp only [zC9] at this
  omega
theorem t69 : TS9 T69 := by
 refine extRd t68 30 (fn := Tryz.f30) rfl rfl (by decide) _ [0, 2, 3, 13, 14, 27, 51, 54, 83, 97] fun r hr => ?_
 have hr' : RrOk r := hr
 obtain ⟨s, f, li, co⟩ := r
 obtain ⟨a, rfl⟩ : ∃ a : Nat, f = a := ⟨f.toNat, by have := hr'.2.1; simp only at this; omega⟩
 obtain ⟨l, rfl⟩ : ∃ l, s = B l := ⟨s.data.toList, rfl⟩
 have hB : (B l).size = l.length := rfl
 conv => whnf
 refine lI9 (σ := Nat × Int × Int) (fun _ => [(0, XV.s (.a (.c (.ptr 0 0)))), (2, nX9), (3, nX9), (13, nX9), (14, nX9), (27, nX9), (51, nX9), (54, nX9), (83, nX9), (97, nX9)])
  (fun ⟨i, x, y⟩ => [.row [.str (B l), .int .i64 (i : Int), .int .i64 x, .int .i64 y]])
  (fun ⟨i, x, y⟩ => RrOk ⟨B l, i, x, y⟩ ∧ skipA (l.drop i) (x, y) = skipA (l.drop a) (li, co)) (fun ⟨i, _, _⟩ => l.length - i) (a, li, co) ?_ rfl ⟨hr', rfl⟩ fun ⟨i, x, y⟩ hI => ?_
 ·repeat first|exact lN9|refine lD9 ?_|refine lS9 ?_
 obtain ⟨hq, hsk⟩ := hI
 have hq' := hq
 obtain ⟨h1, h2, h3, h4, h5, h6, h7⟩ := hq
 simp only at h1 h2 h3 h4 h5 h6 h7
 repeat ((conv => whnf); refine ⟨rfl, ?_⟩)
 conv => whnf
 refine cI9 ?_ ?_<;>intro g1
 ·have hlt : i < l.length := by have : (i : Int) < (B l).size := oT9 g1
                                omega
  have ham : amongB (byteAt (B l) (i : Int)) ⟨#[32, 9, 13, 10]⟩ = spaceB (byteAt (B l) (i : Int)) := amb_space (l.getD i 0)
  repeat ((conv => whnf); refine ⟨by first | omega | exact rfl | decide +kernel, ?_⟩)
  conv => whnf
  refine cI9 ?_ ?_<;>intro g2
  ·have g2' : spaceB (byteAt (B l) (i : Int)) = true := ham.symm.trans g2
   repeat ((conv => whnf); refine ⟨⟨hq', by omega, by show (i : Int) + 1 ≤ (B l).size; omega⟩, ?_⟩)
   conv => whnf
   refine hI9 (i + 1, (posL ((l.drop i).take 1) (x, y)).1, (posL ((l.drop i).take 1) (x, y)).2) ?_ ?_ ?_ ?_
   ·repeat first|exact lN9|refine lD9 ?_|refine lS9 ?_
   ·show [rdO (stepR ⟨B l, i, x, y⟩ ((1 : Nat) : Int))] = _
    rw [stepR_eq]
   ·refine ⟨stepR_ok 1 hq' hlt, ?_⟩
    rw [← hsk, skipR_blank l i x y hlt g2', drop_get hlt]
    rfl
   ·show l.length - (i + 1) < l.length - i
    omega
  have g2' : spaceB (byteAt (B l) (i : Int)) = false := ham.symm.trans g2
  have hs1 := start2 l i x y 47 47 (by omega)
  repeat ((conv => whnf); refine ⟨⟨h1, h2, h3, by decide⟩, ?_⟩)
  conv => whnf
  refine cI9 ?_ ?_<;>intro g3
  ·have g3' := oT9 (hs1.symm.trans g3)
   obtain ⟨hse, hse0⟩ := sep_line g3'
   conv => whnf
   refine lI9 (σ := Nat) (fun _ => [(0, XV.s (.a (.c (.ptr 0 0)))), (2, nX9), (3, nX9), (13, nX9), (14, nX9), (27, nX9), (51, nX9), (54, nX9), (83, nX9), (97, nX9)])
    (fun m => [.row [.str (B l), .int .i64 ((i + m : Nat) : Int), .int .i64 (posL ((l.drop i).take m) (x, y)).1, .int .i64 (posL ((l.drop i).take m) (x, y)).2]])
    (fun m => m + (tw lineB (l.drop (i + m))).length = (tw lineB (l.drop i)).length) (fun m => l.length - m) 0 ?_ rfl (Nat.zero_add _) fun m hI2 => ?_
   ·repeat first|exact lN9|refine lD9 ?_|refine lS9 ?_
   have hI2' : m + (tw lineB (l.drop (i + m))).length = (tw lineB (l.drop i)).length := hI2
   have hle := twd_le lineB l i
   have hle2 := twd_le lineB l (i + m)
   have hqm := stepR_ok m hq' (by omega)
   repeat ((conv => whnf); refine ⟨by first | (intro hg; first | (unfold inI64; omega) | omega | exact ⟨by omega, by omega⟩ | (simp [lit] at hg; unfold inI64; omega) | (simp [lit] at hg; omega) | (simp [lit] at hg; exact ⟨by omega, by omega⟩)) | exact rfl, ?_⟩)
   conv => whnf
   refine cI9 ?_ ?_<;>intro g4
   ·simp only [Bool.and_eq_true, decide_eq_true_eq] at g4
    obtain ⟨g5, g6⟩ := g4
    have hlt2 : i + m < l.length := by omega
    have hst := twd_step (p := lineB) hlt2 g6
    repeat ((conv => whnf); refine ⟨⟨hqm, by omega, by show ((i + m : Nat) : Int) + 1 ≤ (B l).size; omega⟩, ?_⟩)
    conv => whnf
    refine hI9 (m + 1) ?_ ?_ ?_ ?_
    ·repeat first|exact lN9|refine lD9 ?_|refine lS9 ?_
    ·show [rdO (stepR ⟨B l, ((i + m : Nat) : Int), _, _⟩ ((1 : Nat) : Int))] = _
     rw [stepR_eq, posL_two, Nat.add_assoc]
    ·show m + 1 + (tw lineB (l.drop (i + (m + 1)))).length = _
     rw [← Nat.add_assoc]
     omega
    ·show l.length - (m + 1) < l.length - m
     omega
   ·have h0 : (tw lineB (l.drop (i + m))).length = 0 := by
     rcases Nat.lt_or_ge (i + m) l.length with h1 | h1
     ·refine twd_stop h1 ?_
      rw [dT9 (by omega : ((i + m : Nat) : Int) < ((B l).size : Nat)), Bool.true_and] at g4
      exact g4
     ·exact twd_end h1
    have hm : (tw lineB (l.drop i)).length = m := by omega
    conv => whnf
    refine hI9 (i + m, (posL ((l.drop i).take m) (x, y)).1, (posL ((l.drop i).take m) (x, y)).2) ?_ rfl ?_ ?_
    ·repeat first|exact lN9|refine lD9 ?_|refine lS9 ?_
    ·refine ⟨hqm, ?_⟩
     rw [← hsk, skipA_sep (x, y) hse hse0, hm, List.drop_drop]
    ·show l.length - (i + m) < l.length - i
     omega
  have g3' := oF9 (hs1.symm.trans g3)
  have hs2 := start2 l i x y 47 42 (by omega)
  repeat ((conv => whnf); refine ⟨⟨h1, h2, h3, by decide⟩, ?_⟩)
  conv => whnf
  refine cI9 ?_ ?_<;>intro g4
  ·have g4' := oT9 (hs2.symm.trans g4)
   have hi2 := head_two g4'
   have hse : sepL (l.drop i) = (match endAt (l.drop (i + 2)) with | some n => (n + 4, 0) | none => (0, 21)) := by
    unfold sepL
    rw [if_neg g3', if_pos g4', List.drop_drop]
    cases endAt (l.drop (i + 2)) <;> rfl
   conv => whnf
   refine lI9 (σ := Nat) (fun n => [(0, XV.s (.a (.c (.ptr 0 0)))), (2, nX9), (3, XV.s (.int .i64 (n : Int))), (13, nX9), (14, nX9), (27, nX9), (51, nX9), (54, nX9), (83, nX9), (97, nX9)])
    (fun _ => [.row [.str (B l), .int .i64 (i : Int), .int .i64 x, .int .i64 y]])
    (fun n => 2 ≤ n ∧ i + n ≤ l.length ∧ endAt (l.drop (i + 2)) = (endAt (l.drop (i + n))).map (· + (n - 2))) (fun n => l.length - n) 2 ?_ rfl ?_ fun n hI2 => ?_
   ·repeat first|exact lN9|refine lD9 ?_|refine lS9 ?_
   ·refine ⟨nR9 _, hi2, ?_⟩
    cases endAt (l.drop (i + 2)) <;> rfl
   obtain ⟨hn, hin, hen⟩ := hI2
   have hs3 := start2 l (i + n) 0 0 42 47 hin
   rw [show ((i + n : Nat) : Int) = (i : Int) + n by omega] at hs3
   repeat ((conv => whnf); refine ⟨by first | (unfold inI64; omega) | exact rfl | (dsimp only; omega), ?_⟩)
   conv => whnf
   refine cI9 ?_ ?_<;>intro g5
   ·simp only [Bool.and_eq_true, Bool.not_eq_true', decide_eq_true_eq] at g5
    obtain ⟨g6, g7⟩ := g5
    have hlt2 : i + n < l.length := by omega
    have g7' := oF9 (hs3.symm.trans g7)
    have hnx := endAt_drop l (i + n) hlt2 g7'
    repeat ((conv => whnf); refine ⟨by (unfold inI64; omega), ?_⟩)
    conv => whnf
    refine hI9 (n + 1) ?_ rfl ?_ ?_
    ·repeat first|exact lN9|refine lD9 ?_|refine lS9 ?_
    ·refine ⟨by omega, by omega, ?_⟩
     rw [hen, hnx, Nat.add_assoc]
     cases endAt (l.drop (i + (n + 1))) with
     | none => rfl
     | some z => show some (z + 1 + (n - 2)) = some (z + (n + 1 - 2)); rw [show z + 1 + (n - 2) = z + (n + 1 - 2) by omega]
    ·show l.length - (n + 1) < l.length - n
     omega
   ·repeat ((conv => whnf); refine ⟨by first | (unfold inI64; omega) | exact rfl, ?_⟩)
    conv => whnf
    refine cI9 ?_ ?_<;>intro g6
    ·have g6' : ((B l).size : Int) ≤ (i : Int) + n := oT9 g6
     have hz : endAt (l.drop (i + n)) = none := by rw [List.drop_eq_nil_of_le (by omega)]; rfl
     rw [hz] at hen
     have hsz : sepL (l.drop i) = (0, 21) := by rw [hse, hen]; rfl
     have hfin := skipR_of hsk (Nat.le_of_lt hlt) (skipA_err (x, y) hsz)
     conv => whnf
     refine eE9 ⟨?_, ?_⟩
     ·show SV.int .i64 21 = SV.int .i64 (skipR ⟨B l, (a : Int), li, co⟩).1
      rw [hfin]
     ·show _ = [rdO (skipR ⟨B l, (a : Int), li, co⟩).2]
      rw [hfin]
    ·have g6' : ¬ ((B l).size : Int) ≤ (i : Int) + n := oF9 g6
     rw [dT9 (by omega : (i : Int) + n < ((B l).size : Nat)), Bool.true_and] at g5
     have g7 : startV ⟨B l, (i : Int) + n, 0, 0⟩ ⟨#[42, 47]⟩ = true := by simpa using g5
     have g7' := oT9 (hs3.symm.trans g7)
     have hin2 := head_two g7'
     have hz : endAt (l.drop (i + n)) = some 0 := by
      rw [drop_get (by omega)] at g7' ⊢
      unfold endAt
      rw [if_pos ⟨by simpa using g7'.1, g7'.2⟩]
     rw [hz] at hen
     have hsz : sepL (l.drop i) = (n + 2, 0) := by
      rw [hse, hen]
      show (0 + (n - 2) + 4, (0 : Int)) = (n + 2, 0)
      rw [show 0 + (n - 2) + 4 = n + 2 by omega]
     repeat ((conv => whnf); refine ⟨by first | exact ⟨hq', by omega, by show (i : Int) + ((n : Int) + 2) ≤ (B l).size; omega⟩ | (unfold inI64; omega), ?_⟩)
     conv => whnf
     refine hI9 (i + (n + 2), (posL ((l.drop i).take (n + 2)) (x, y)).1, (posL ((l.drop i).take (n + 2)) (x, y)).2) ?_ ?_ ?_ ?_
     ·repeat first|exact lN9|refine lD9 ?_|refine lS9 ?_
     ·show [rdO (stepR ⟨B l, (i : Int), x, y⟩ ((n + 2 : Nat) : Int))] = _
      rw [stepR_eq]
     ·refine ⟨stepR_ok (n + 2) hq' (by omega), ?_⟩
      rw [← hsk, skipA_sep (x, y) hsz (by omega), List.drop_drop]
     ·show l.length - (i + (n + 2)) < l.length - i
      omega
  ·have g4' := oF9 (hs2.symm.trans g4)
   have hsz : sepL (l.drop i) = (0, 0) := by
    unfold sepL
    rw [if_neg g3', if_neg g4', twd_stop hlt g2']
   have hfin := skipR_of hsk (Nat.le_of_lt hlt) (skipA_zero' (x, y) hsz)
   conv => whnf
   refine eE9 ⟨?_, ?_⟩
   ·show SV.int .i64 0 = SV.int .i64 (skipR ⟨B l, (a : Int), li, co⟩).1
    rw [hfin]
   ·show _ = [rdO (skipR ⟨B l, (a : Int), li, co⟩).2]
    rw [hfin]
 ·have hge : i = l.length := by have : ¬ (i : Int) < (B l).size := oF9 g1
                                omega
  have hnil : l.drop i = [] := List.drop_eq_nil_of_le (by omega)
  have hfin := skipR_of hsk (by omega) (skipA_zero' (x, y) (by rw [hnil]; rfl))
  conv => whnf
  refine eE9 ⟨?_, ?_⟩
  ·show SV.int .i64 0 = SV.int .i64 (skipR ⟨B l, (a : Int), li, co⟩).1
   rw [hfin]
  ·show _ = [rdO (skipR ⟨B l, (a : Int), li, co⟩).2]
   rw [hfin]
end Go.Ab
