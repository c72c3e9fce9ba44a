/- Package tree: set, Set. -/
import Derived.Test.YtnlifjljmbfomaaGreatTY99toY107
namespace Go.Ab
open Go.Proofs
set_option linter.unusedSectionVars false
set_option maxRecDepth 100000
variable [Base]
def stE (ps : List Pt) (p : Pt) : Int := if prpB p.1 = false then 1 else if ((!fndP ps p.1 && decide (24 ≤ ps.length)) || decide (256 < p.2.size)) = true then 3 else 0
def stP (ps : List Pt) (p : Pt) : List Pt := if fndP ps p.1 = true then ps.set (posV ps p.1) p else wiP (ps, (posV ps p.1 : Nat), p)
def stN (ns : List Nd) (k : Nat) (p : Pt) : List Nd := ns.set k ((ndAt ns k).1, (ndAt ns k).2.1, stP (ndAt ns k).2.2 p)
structure StOk (ns : List Nd) (k : Int) : Prop where
 len : ns.length ≤ 1000000000
 k0 : 0 ≤ k
 k1 : k < (ns.length : Nat)
 ps : SrOk ((ndAt ns k.toNat).2.2, ByteArray.empty)
def saysStX (c : List Nd → Nat → Pt → Prop) (r : List Nd → Nat → Pt → SV) (h : List Nd → Nat → Pt → List AO) : Says := fun args H => match args, H with
 | [.c (.sl _ _ _ _), .c (.p (.v (.int .i64 k))), .agg [.p (.v (.string a)), .p (.v (.string b))]], [.arr _ c0 ns _] => match castD (e := ndC) (e' := c0) ns with
  | some ns => some (some (args = [.c (.sl 0 ndC 0 ns.length), .c (.int .i64 k), ptA (a, b)] ∧ H = hpN ns ∧ StOk ns k ∧ c ns k.toNat (a, b)), r ns k.toNat (a, b), h ns k.toNat (a, b))
  | none => none
 | _, _ => none
theorem st_er : TS9 (ext F5 89 (saysStX (fun ns k p => ¬ stE (ndAt ns k).2.2 p = 0) (fun ns k p => .tup [.c (.p (.v (.slice none 0 0))), .c (.int .i64 (stE (ndAt ns k).2.2 p))]) fun ns _ _ => hpN ns)) := by
 refine ext_run f5 (f := 89) (fn := Tryz.f89) rfl rfl [0, 1, 2, 5, 6, 7, 8, 9, 10, 14, 39, 40] fun args H p r' H' hs hp => ?_
 unfold saysStX at hs
 split at hs
 ·split at hs
  ·rename_i k a b _ _ _ _ _ ns _
   cases hs
   obtain ⟨ha, hH, hok, he⟩ := hp
   rw [ha, hH]
   obtain ⟨h1, h2, h3, h4⟩ := hok
   obtain ⟨k, rfl⟩ : ∃ q : Nat, k = q := ⟨k.toNat, by omega⟩
   rw [Int.toNat_natCast] at h4 he ⊢
   have hob : 0 = 0 ∧ (0 : Int) ≤ (k : Nat) ∧ (k : Int) < (ns.length : Nat) := ⟨rfl, h2, h3⟩
   refine ⟨nB9 rfl, [0], rfl, id0, ?_⟩
   dsimp only
   obtain ⟨E, hE⟩ : ∃ E, stE (ndAt ns k).2.2 (a, b) = E := ⟨_, rfl⟩
   rw [hE] at he ⊢
   unfold stE at hE
   have h4a : SrOk ((ndAt ns k).2.2, a) := h4
   repeat ((conv => whnf); refine ⟨by first | exact ⟨rfl, trivial⟩ | (unfold inI64; omega) | omega | exact ⟨by omega, by omega⟩ | exact rfl | decide +kernel, ?_⟩)
   conv => whnf
   refine cI9 ?_ ?_<;>intro h5
   ·have h6 : prpB a = false := not_b h5
    rw [if_pos h6] at hE
    repeat ((conv => whnf); refine ⟨by first | (unfold inI64; omega) | omega | exact ⟨by omega, by omega⟩ | exact rfl | decide +kernel, ?_⟩)
    conv => whnf
    rw [← hE]
    exact eR9
   have h6 : prpB a = true := not_f h5
   rw [if_neg (ne_f h6)] at hE
   repeat ((conv => whnf); refine ⟨by first | exact hob | exact ⟨rfl, h4a⟩ | (unfold inI64; omega) | omega | exact ⟨by omega, by omega⟩ | (intro hg; first | (unfold inI64; omega) | omega | exact ⟨by omega, by omega⟩ | (simp [lit] at hg; unfold inI64; omega) | (simp [lit] at hg; omega) | (simp [lit] at hg; exact ⟨by omega, by omega⟩)) | (show (_ : Nat) + 1 ≤ 1000000000000; omega) | exact rfl | (unfold inI64; dsimp only; omega) | (dsimp only; omega) | (intro hg; simp [lit] at hg; first | (unfold inI64; dsimp only; omega) | (dsimp only; omega)) | decide +kernel, ?_⟩)
   conv => whnf
   refine cI9 ?_ ?_<;>intro h7
   ·have h8 : ((!fndP (ndAt ns k).2.2 a && decide (24 ≤ (ndAt ns k).2.2.length)) || decide (256 < b.size)) = true := by
     have h9 : ((!fndP (ndAt ns k).2.2 a && decide ((24 : Int) ≤ ((ndAt ns k).2.2.length : Nat))) || decide ((256 : Int) < (b.size : Nat))) = true := h7
     rw [← h9]
     congr 1
     ·congr 1
      exact decide_eq_decide.2 (by omega)
     ·exact decide_eq_decide.2 (by omega)
    rw [if_pos h8] at hE
    repeat ((conv => whnf); refine ⟨by first | (unfold inI64; omega) | omega | exact ⟨by omega, by omega⟩ | exact rfl | decide +kernel, ?_⟩)
    conv => whnf
    rw [← hE]
    exact eR9
   ·exfalso
    have h8 : ((!fndP (ndAt ns k).2.2 a && decide (24 ≤ (ndAt ns k).2.2.length)) || decide (256 < b.size)) = false := by
     have h9 : ((!fndP (ndAt ns k).2.2 a && decide ((24 : Int) ≤ ((ndAt ns k).2.2.length : Nat))) || decide ((256 : Int) < (b.size : Nat))) = false := h7
     rw [← h9]
     congr 1
     ·congr 1
      exact decide_eq_decide.2 (by omega)
     ·exact decide_eq_decide.2 (by omega)
    rw [if_neg (ne_t h8)] at hE
    exact he hE.symm
  ·cases hs
 ·cases hs
theorem st_lim {ps : List Pt} {a b : ByteArray} (h : stE ps (a, b) = 0) : prpB a = true ∧ ((!fndP ps a && decide ((24 : Int) ≤ (ps.length : Nat))) || decide ((256 : Int) < (b.size : Nat))) = false := by
 unfold stE at h
 split at h
 ·cases h
 ·rename_i h1
  split at h
  ·cases h
  ·rename_i h2
   refine ⟨by simpa using h1, ?_⟩
   have h3 : ((!fndP ps a && decide (24 ≤ ps.length)) || decide (256 < b.size)) = false := by simpa using h2
   rw [← h3]
   congr 1
   ·congr 1
    exact decide_eq_decide.2 (by omega)
   ·exact decide_eq_decide.2 (by omega)
theorem st_new : TS9 (ext F5 89 (saysStX (fun ns k p => stE (ndAt ns k).2.2 p = 0 ∧ fndP (ndAt ns k).2.2 p.1 = false) (fun ns _ _ => .tup [.c (.sl 0 ndC 0 ns.length), .c (.int .i64 0)]) fun ns k p => hpN (stN ns k p))) := by
 refine ext_run f5 (f := 89) (fn := Tryz.f89) rfl rfl [0, 1, 2, 5, 6, 7, 8, 9, 10, 14, 39, 40] fun args H p r' H' hs hp => ?_
 unfold saysStX at hs
 split at hs
 ·split at hs
  ·rename_i k a b _ _ _ _ _ ns _
   cases hs
   obtain ⟨ha, hH, hok, he, hf⟩ := hp
   rw [ha, hH]
   obtain ⟨h1, h2, h3, h4⟩ := hok
   obtain ⟨k, rfl⟩ : ∃ q : Nat, k = q := ⟨k.toNat, by omega⟩
   rw [Int.toNat_natCast] at h4 he hf ⊢
   have hob : 0 = 0 ∧ (0 : Int) ≤ (k : Nat) ∧ (k : Int) < (ns.length : Nat) := ⟨rfl, h2, h3⟩
   refine ⟨nB9 rfl, [0], rfl, id0, ?_⟩
   dsimp only
   have h4a : SrOk ((ndAt ns k).2.2, a) := h4
   have hpl := posV_le (ndAt ns k).2.2 a
   obtain ⟨h6, h7⟩ := st_lim he
   have hw : (ndAt ns k).2.2.length ≤ 1000000000 ∧ (0 : Int) ≤ ((posV (ndAt ns k).2.2 a : Nat) : Int) ∧ ((posV (ndAt ns k).2.2 a : Nat) : Int) ≤ ((ndAt ns k).2.2.length : Nat) := ⟨h4a.1, by omega, by omega⟩
   have hf : fndP (ndAt ns k).2.2 a = false := hf
   repeat ((conv => whnf); refine ⟨by first | exact ⟨rfl, trivial⟩ | (unfold inI64; omega) | omega | exact ⟨by omega, by omega⟩ | exact rfl | decide +kernel, ?_⟩)
   conv => whnf
   refine cI9 ?_ ?_<;>intro h5
   ·rw [not_b h5] at h6
    cases h6
   repeat ((conv => whnf); refine ⟨by first | exact hob | exact ⟨rfl, h4a⟩ | (unfold inI64; omega) | omega | exact ⟨by omega, by omega⟩ | (intro hg; first | (unfold inI64; omega) | omega | exact ⟨by omega, by omega⟩ | (simp [lit] at hg; unfold inI64; omega) | (simp [lit] at hg; omega) | (simp [lit] at hg; exact ⟨by omega, by omega⟩)) | (show (_ : Nat) + 1 ≤ 1000000000000; omega) | exact rfl | (unfold inI64; dsimp only; omega) | (dsimp only; omega) | (intro hg; simp [lit] at hg; first | (unfold inI64; dsimp only; omega) | (dsimp only; omega)) | decide +kernel, ?_⟩)
   conv => whnf
   refine cI9 ?_ ?_<;>intro h8
   ·exact Bool.noConfusion (h7.symm.trans h8)
   repeat ((conv => whnf); refine ⟨by first | (unfold inI64; omega) | omega | exact ⟨by omega, by omega⟩ | (intro hg; first | (unfold inI64; omega) | omega | exact ⟨by omega, by omega⟩ | (simp [lit] at hg; unfold inI64; omega) | (simp [lit] at hg; omega) | (simp [lit] at hg; exact ⟨by omega, by omega⟩)) | (show (_ : Nat) + 1 ≤ 1000000000000; omega) | exact rfl | (unfold inI64; dsimp only; omega) | (dsimp only; omega) | (intro hg; simp [lit] at hg; first | (unfold inI64; dsimp only; omega) | (dsimp only; omega)) | decide +kernel, ?_⟩)
   conv => whnf
   refine cI9 ?_ ?_<;>intro h9
   ·have h9 : fndP (ndAt ns k).2.2 a = true := h9
    rw [hf] at h9
    cases h9
   repeat ((conv => whnf); refine ⟨by first | exact hob | exact ⟨rfl, hw⟩ | (unfold inI64; omega) | omega | exact ⟨by omega, by omega⟩ | (intro hg; first | (unfold inI64; omega) | omega | exact ⟨by omega, by omega⟩ | (simp [lit] at hg; unfold inI64; omega) | (simp [lit] at hg; omega) | (simp [lit] at hg; exact ⟨by omega, by omega⟩)) | (show (_ : Nat) + 1 ≤ 1000000000000; omega) | exact rfl | (unfold inI64; dsimp only; omega) | (dsimp only; omega) | (intro hg; simp [lit] at hg; first | (unfold inI64; dsimp only; omega) | (dsimp only; omega)) | decide +kernel, ?_⟩)
   conv => whnf
   refine eE9 ⟨rfl, ?_⟩
   show [AO.arr ndT ndC (ns.set k ((ndAt ns k).1, (ndAt ns k).2.1, wiP ((ndAt ns k).2.2, (posV (ndAt ns k).2.2 a : Nat), (a, b)))) 0] = _
   unfold stN stP
   rw [if_neg (ne_t hf)]
  ·cases hs
 ·cases hs
structure SoOk (ns : List Nd) (h : Nat) (ps : List Pt) (p : Pt) : Prop where
 len : ns.length ≤ 1000000000
 lt : h < ns.length
 pos : 0 < ps.length
 sr : SrOk (ps, ByteArray.empty)
 er : stE ps p = 0
 fd : fndP ps p.1 = true
theorem id2h : ∀ k, k < 2 → [0, 1][k]? = some k := fun k hk => by
 obtain rfl | rfl : k = 0 ∨ k = 1 := by omega
 all_goals rfl
def saysSo (h : Nat) : Says := fun args H => match args, H with
 | [.c (.vs _ _), .c (.p (.v (.int .i64 _))), .agg [.p (.v (.string a)), .p (.v (.string b))]], [.vec _ c0 ns _ _ _, .arr _ c1 ps _] => match castD (e := ndC) (e' := c0) ns, castD (e := ptC) (e' := c1) ps with
  | some ns, some ps => some (some (args = [.c (.vs 0 ns.length), .c (.int .i64 (h : Nat)), ptA (a, b)] ∧ H = hpV2 ns h ps ∧ SoOk ns h ps (a, b)), .tup [.c (.vs 0 ns.length), .c (.int .i64 0)], [.vec ndT ndC ns h 2 (.sl 1 ptC 0 ps.length), .arr ptT ptC (ps.set (posV ps a) (a, b)) 0])
  | _, _ => none
 | _, _ => none
def FS (h : Nat) : Table := ext (F6 h) 72 saysSrS
theorem fs (h : Nat) : TS9 (FS h) := ext_only srS (f6 h)
def F7 (h : Nat) : Table := ext (FS h) 89 (saysSo h)
theorem f7 (h : Nat) : TS9 (F7 h) := by
 refine ext_run (fs h) (f := 89) (fn := Tryz.f89) rfl rfl [0, 1, 2, 5, 6, 7, 8, 9, 10, 14, 39, 40] fun args H p r' H' hs hp => ?_
 unfold saysSo at hs
 split at hs
 ·split at hs
  ·rename_i a b _ _ _ _ _ _ _ _ _ _ _ _ ns ps _ _
   cases hs
   obtain ⟨ha, hH, hok⟩ := hp
   rw [ha, hH]
   obtain ⟨h1, h2, h3, h4, h5, h6⟩ := hok
   have hob : (0 : Int) ≤ (h : Nat) ∧ (h : Int) < (ns.length : Nat) := ⟨by omega, by omega⟩
   have h4a : SrOk (ps, a) := h4
   obtain ⟨h7, h8⟩ := st_lim h5
   have h6 : fndP ps a = true := h6
   have hlt : posV ps a < ps.length := by
    unfold fndP at h6
    exact oT9 (bA9.1 h6).1
   have hob2 : 0 = 0 ∧ (0 : Int) ≤ ((posV ps a : Nat) : Int) ∧ ((posV ps a : Nat) : Int) < (ps.length : Nat) := ⟨rfl, by omega, by omega⟩
   refine ⟨nB9 rfl, [0, 1], rfl, id2h, ?_⟩
   repeat ((conv => whnf); refine ⟨by first | exact ⟨rfl, trivial⟩ | (unfold inI64; omega) | omega | exact ⟨by omega, by omega⟩ | exact rfl | decide +kernel, ?_⟩)
   conv => whnf
   refine cI9 ?_ ?_<;>intro h9
   ·rw [not_b h9] at h7
    cases h7
   repeat ((conv => whnf); refine ⟨by first | exact hob | (unfold inI64; omega) | omega | exact ⟨by omega, by omega⟩ | exact rfl | decide +kernel, ?_⟩)
   conv => whnf
   refine Or.inr ⟨⟨rfl, rfl⟩, ?_⟩
   repeat ((conv => whnf); refine ⟨by first | exact ⟨rfl, rfl, h3, h4a⟩ | (unfold inI64; omega) | omega | exact ⟨by omega, by omega⟩ | (intro hg; first | (unfold inI64; omega) | omega | exact ⟨by omega, by omega⟩ | (simp [lit] at hg; unfold inI64; omega) | (simp [lit] at hg; omega) | (simp [lit] at hg; exact ⟨by omega, by omega⟩)) | (show (_ : Nat) + 1 ≤ 1000000000000; omega) | exact rfl | (unfold inI64; dsimp only; omega) | (dsimp only; omega) | (intro hg; simp [lit] at hg; first | (unfold inI64; dsimp only; omega) | (dsimp only; omega)) | decide +kernel, ?_⟩)
   conv => whnf
   refine cI9 ?_ ?_<;>intro h10
   ·exact Bool.noConfusion (h8.symm.trans h10)
   repeat ((conv => whnf); refine ⟨by first | (unfold inI64; omega) | omega | exact ⟨by omega, by omega⟩ | (intro hg; first | (unfold inI64; omega) | omega | exact ⟨by omega, by omega⟩ | (simp [lit] at hg; unfold inI64; omega) | (simp [lit] at hg; omega) | (simp [lit] at hg; exact ⟨by omega, by omega⟩)) | (show (_ : Nat) + 1 ≤ 1000000000000; omega) | exact rfl | (unfold inI64; dsimp only; omega) | (dsimp only; omega) | (intro hg; simp [lit] at hg; first | (unfold inI64; dsimp only; omega) | (dsimp only; omega)) | decide +kernel, ?_⟩)
   conv => whnf
   refine cI9 ?_ ?_<;>intro h11
   ·repeat ((conv => whnf); refine ⟨by first | exact hob2 | (unfold inI64; omega) | omega | exact ⟨by omega, by omega⟩ | (intro hg; first | (unfold inI64; omega) | omega | exact ⟨by omega, by omega⟩ | (simp [lit] at hg; unfold inI64; omega) | (simp [lit] at hg; omega) | (simp [lit] at hg; exact ⟨by omega, by omega⟩)) | (show (_ : Nat) + 1 ≤ 1000000000000; omega) | exact rfl | (unfold inI64; dsimp only; omega) | (dsimp only; omega) | (intro hg; simp [lit] at hg; first | (unfold inI64; dsimp only; omega) | (dsimp only; omega)) | decide +kernel, ?_⟩)
    conv => whnf
    exact eR9
   ·exact Bool.noConfusion (h6.symm.trans h11)
  ·cases hs
 ·cases hs
theorem ord_asc {ns : List Nd} (h : ordV ns = true) {i : Nat} (hi : i < ns.length) : ascV (ndAt ns i).2.2 = true := by
 have key : ∀ m j, ordGo ns m j = true → ∀ i, j ≤ i → i < j + m → ordAt ns i = true := by
  intro m
  induction m with
  | zero => intro j _ i h1 h2; omega
  | succ m ih =>
   intro j h i h1 h2
   obtain ⟨h3, h4⟩ := bA9.1 (show (ordAt ns j && ordGo ns m (j + 1)) = true from h)
   by_cases hij : i = j
   ·rw [hij]; exact h3
   ·exact ih (j + 1) h4 i (by omega) (by omega)
 have h1 := key _ _ h i (nZ9 _) (by omega)
 unfold ordAt at h1
 cases hx : ascV (ndAt ns i).2.2 with
 | true => rfl
 | false => rw [hx] at h1; simp at h1
theorem vld_st {ns : List Nd} {p : ByteArray} (hv : VldT ns) (hf : (fndV (ns, p)).2 = true) : StOk ns (fndV (ns, p)).1 := by
 obtain ⟨_, _, _, _, h5, h6⟩ := vld_ad hv hf
 have hk : (fndV (ns, p)).1.toNat < ns.length := by omega
 refine ⟨(lim_len hv.lim).1.len, h5, h6, ?_, ord_asc hv.ord hk⟩
 have e : ndAt ns (fndV (ns, p)).1.toNat = ns[(fndV (ns, p)).1.toNat] := by unfold ndAt; simp [hk]
 rw [e]
 exact (lim_len hv.lim).1.at hk
def SetV (a : List Nd × ByteArray × ByteArray × ByteArray) : List Nd × Int :=
 if chkP a.1 = 0 then if (fndV (a.1, a.2.1)).2 = true then if stE (ndAt a.1 (fndV (a.1, a.2.1)).1.toNat).2.2 a.2.2 = 0 then (stN a.1 (fndV (a.1, a.2.1)).1.toNat a.2.2, 0) else ([], stE (ndAt a.1 (fndV (a.1, a.2.1)).1.toNat).2.2 a.2.2) else ([], 4) else ([], chkP a.1)
abbrev rwS (s : ByteArray) : AO := .row [.str s]
theorem id2h' : ∀ k, k < 2 → [0, 1, 4][k]? = some k := fun k hk => by
 obtain rfl | rfl : k = 0 ∨ k = 1 := by omega
 all_goals rfl
theorem id2h'' : ∀ k, k < 2 → [0, 1, 4, 5][k]? = some k := fun k hk => by
 obtain rfl | rfl : k = 0 ∨ k = 1 := by omega
 all_goals rfl
def K0E : Table := ext F5 89 (saysStX (fun ns k p => ¬ stE (ndAt ns k).2.2 p = 0) (fun ns k p => .tup [.c (.p (.v (.slice none 0 0))), .c (.int .i64 (stE (ndAt ns k).2.2 p))]) fun ns _ _ => hpN ns)
theorem k0E : TS9 K0E := st_er
def says1E : Says := fun args H => match args, H with
 | [.c (.sl _ _ _ _), .c (.p (.v (.int .i64 k))), .c (.ptr 1 0), .c (.ptr 2 0)], [.arr _ c0 ns _, .row [.p (.v (.string a))], .row [.p (.v (.string b))]] => match castD (e := ndC) (e' := c0) ns with
  | some ns => some (some (args = [.c (.sl 0 ndC 0 ns.length), .c (.int .i64 k), .c (.ptr 1 0), .c (.ptr 2 0)] ∧ H = [.arr ndT ndC ns 0, rwS a, rwS b] ∧ StOk ns k ∧ ¬ stE (ndAt ns k.toNat).2.2 (a, b) = 0), .tup [.c (.p (.v (.slice none 0 0))), .c (.int .i64 (stE (ndAt ns k.toNat).2.2 (a, b)))], [.arr ndT ndC ns 0, rwS a, rwS b])
  | none => none
 | _, _ => none
def K1E : Table := ext K0E 88 says1E
theorem k1E : TS9 K1E := by
 refine ext_run k0E (f := 88) (fn := Tryz.f88) rfl rfl [0, 1, 2, 3, 6, 7] fun args H p r' H' hs hp => ?_
 unfold says1E at hs
 split at hs
 ·split at hs
  ·rename_i k _ _ _ _ a b _ ns _
   cases hs
   obtain ⟨ha, hH, h1, h2⟩ := hp
   rw [ha, hH]
   refine ⟨nB9 rfl, [0, 1, 2], rfl, id3, ?_⟩
   repeat ((conv => whnf); refine ⟨by first | exact ⟨rfl, rfl, h1, h2⟩ | (unfold inI64; omega) | omega | exact ⟨by omega, by omega⟩ | exact rfl | decide +kernel, ?_⟩)
   conv => whnf
   exact eR9
  ·cases hs
 ·cases hs
def says2E : Says := fun args H => match args, H with
 | [.agg [.p (.l c0 ns)], .c (.p (.v (.string q))), .c (.clo _ _ _)], [.row [.p (.v (.string a))], .row [.p (.v (.string b))]] => match castD (e := ndC) (e' := c0) ns with
  | some ns => some (some (args = [.agg [.p (.l ndC ns)], .c (.str q), .c (.clo false 88 [0, 1])] ∧ H = [rwS a, rwS b] ∧ ¬ (SetV (ns, q, a, b)).2 = 0), treR (SetV (ns, q, a, b)), [rwS a, rwS b])
  | none => none
 | _, _ => none
def K2E : Table := ext (K1E) 82 (says2E)
theorem k2E : TS9 (K2E) := by
 refine ext_run (k1E) (f := 82) (fn := Tryz.f82) rfl rfl [0, 1, 2, 3, 6, 7, 8, 9, 10, 11, 12, 16, 27] fun args H p r' H' hs hp => ?_
 unfold says2E at hs
 split at hs
 ·split at hs
  ·rename_i q _ _ _ a b _ ns _
   cases hs
   obtain ⟨ha, hH, hc⟩ := hp
   rw [ha, hH]
   refine ⟨nB9 rfl, [0, 1], rfl, id2h, ?_⟩
   repeat ((conv => whnf); refine ⟨by first | exact ⟨rfl, trivial⟩ | (unfold inI64; omega) | omega | exact ⟨by omega, by omega⟩ | exact rfl | decide +kernel, ?_⟩)
   conv => whnf
   refine cI9 ?_ ?_<;>intro h
   ·have h1 : ¬ chkP ns = 0 := by
     have h2 : (!decide (chkP ns = 0)) = true := h
     simpa using h2
    repeat ((conv => whnf); refine ⟨by first | (unfold inI64; omega) | omega | exact ⟨by omega, by omega⟩ | exact rfl | decide +kernel, ?_⟩)
    conv => whnf
    exact ends_nil (by unfold SetV; rw [if_neg h1])
   have h1 : chkP ns = 0 := by
    have h2 : (!decide (chkP ns = 0)) = false := h
    simpa using h2
   have hv := chk_vld.1 h1
   repeat ((conv => whnf); refine ⟨by first | exact ⟨rfl, hv⟩ | (unfold inI64; omega) | omega | exact ⟨by omega, by omega⟩ | exact rfl | decide +kernel, ?_⟩)
   conv => whnf
   refine cI9 ?_ ?_<;>intro h3
   ·have h4 : ¬ (fndV (ns, q)).2 = true := ne_t (not_b h3)
    repeat ((conv => whnf); refine ⟨by first | (unfold inI64; omega) | omega | exact ⟨by omega, by omega⟩ | exact rfl | decide +kernel, ?_⟩)
    conv => whnf
    exact ends_nil (by unfold SetV; rw [if_pos h1, if_neg h4])
   have h4 : (fndV (ns, q)).2 = true := not_f h3
   have hok := vld_st hv h4
   obtain ⟨hl, hp0, _⟩ := lim_len hv.lim
   have he : ¬ stE (ndAt ns (fndV (ns, q)).1.toNat).2.2 (a, b) = 0 := fun h5 => hc (by unfold SetV; dsimp only; rw [if_pos h1, if_pos h4, if_pos h5])
   repeat ((conv => whnf); refine ⟨by first | exact ⟨rfl, hl, hp0⟩ | exact ⟨rfl, rfl, hok, he⟩ | (unfold inI64; omega) | omega | exact ⟨by omega, by omega⟩ | exact rfl | decide +kernel, ?_⟩)
   conv => whnf
   exact ends_nil (by unfold SetV; dsimp only; rw [if_pos h1, if_pos h4, if_neg he])
  ·cases hs
 ·cases hs
def says3E : Says := fun args H => match H with
 | [] => match daTSSS args with
  | some a => some (some (args = eaTSSS a ∧ ¬ (SetV a).2 = 0), treR (SetV a), [])
  | none => none
 | _ => none
theorem k3E : TS9 (ext (K2E) 37 (says3E)) := by
 refine ext_run (k2E) (f := 37) (fn := Tryz.f37) rfl rfl [0, 1, 2, 3, 4, 6, 7, 8, 9] fun args H p r' H' hs hp => ?_
 unfold says3E at hs
 split at hs
 ·split at hs
  ·rename_i a _
   cases hs
   obtain ⟨ha, hc⟩ := hp
   rw [ha]
   obtain ⟨ns, q, a, b⟩ := a
   refine ⟨nB9 rfl, [], rfl, nK9, ?_⟩
   show runF _ _ _ _ [.agg [.p (.l ndC ns)], .c (.str q), .c (.str a), .c (.str b)] [] _
   repeat ((conv => whnf); refine ⟨by first | exact ⟨rfl, rfl, hc⟩ | ((conv => whnf); exact ⟨⟨rfl, rfl, rfl⟩, trivial⟩) | exact Early.one (by decide +kernel) (by (conv => whnf); exact ⟨rfl, rfl, rfl⟩) trivial | (unfold inI64; omega) | omega | exact ⟨by omega, by omega⟩ | exact rfl | decide +kernel, ?_⟩)
   conv => whnf
   exact eR9
  ·cases hs
 ·cases hs
def K0N : Table := ext F5 89 (saysStX (fun ns k p => stE (ndAt ns k).2.2 p = 0 ∧ fndP (ndAt ns k).2.2 p.1 = false) (fun ns _ _ => .tup [.c (.sl 0 ndC 0 ns.length), .c (.int .i64 0)]) fun ns k p => hpN (stN ns k p))
theorem k0N : TS9 K0N := st_new
def says1N : Says := fun args H => match args, H with
 | [.c (.sl _ _ _ _), .c (.p (.v (.int .i64 k))), .c (.ptr 1 0), .c (.ptr 2 0)], [.arr _ c0 ns _, .row [.p (.v (.string a))], .row [.p (.v (.string b))]] => match castD (e := ndC) (e' := c0) ns with
  | some ns => some (some (args = [.c (.sl 0 ndC 0 ns.length), .c (.int .i64 k), .c (.ptr 1 0), .c (.ptr 2 0)] ∧ H = [.arr ndT ndC ns 0, rwS a, rwS b] ∧ StOk ns k ∧ stE (ndAt ns k.toNat).2.2 (a, b) = 0 ∧ fndP (ndAt ns k.toNat).2.2 a = false), .tup [.c (.sl 0 ndC 0 ns.length), .c (.int .i64 0)], [.arr ndT ndC (stN ns k.toNat (a, b)) 0, rwS a, rwS b])
  | none => none
 | _, _ => none
def K1N : Table := ext K0N 88 says1N
theorem k1N : TS9 K1N := by
 refine ext_run k0N (f := 88) (fn := Tryz.f88) rfl rfl [0, 1, 2, 3, 6, 7] fun args H p r' H' hs hp => ?_
 unfold says1N at hs
 split at hs
 ·split at hs
  ·rename_i k _ _ _ _ a b _ ns _
   cases hs
   obtain ⟨ha, hH, h1, h2⟩ := hp
   rw [ha, hH]
   refine ⟨nB9 rfl, [0, 1, 2], rfl, id3, ?_⟩
   repeat ((conv => whnf); refine ⟨by first | exact ⟨rfl, rfl, h1, h2⟩ | (unfold inI64; omega) | omega | exact ⟨by omega, by omega⟩ | exact rfl | decide +kernel, ?_⟩)
   conv => whnf
   exact eR9
  ·cases hs
 ·cases hs
def says2N : Says := fun args H => match args, H with
 | [.agg [.p (.l c0 ns)], .c (.p (.v (.string q))), .c (.clo _ _ _)], [.row [.p (.v (.string a))], .row [.p (.v (.string b))]] => match castD (e := ndC) (e' := c0) ns with
  | some ns => some (some (args = [.agg [.p (.l ndC ns)], .c (.str q), .c (.clo false 88 [0, 1])] ∧ H = [rwS a, rwS b] ∧ chkP ns = 0 ∧ (fndV (ns, q)).2 = true ∧ stE (ndAt ns (fndV (ns, q)).1.toNat).2.2 (a, b) = 0 ∧ fndP (ndAt ns (fndV (ns, q)).1.toNat).2.2 a = false), .tup [.agg [.sl 2 ndC 0 ns.length], .c (.int .i64 0)], [rwS a, rwS b, .arr ndT ndC (stN ns (fndV (ns, q)).1.toNat (a, b)) 0])
  | none => none
 | _, _ => none
def K2N : Table := ext (K1N) 82 (says2N)
theorem k2N : TS9 (K2N) := by
 refine ext_run (k1N) (f := 82) (fn := Tryz.f82) rfl rfl [0, 1, 2, 3, 6, 7, 8, 9, 10, 11, 12, 16, 27] fun args H p r' H' hs hp => ?_
 unfold says2N at hs
 split at hs
 ·split at hs
  ·rename_i q _ _ _ a b _ ns _
   cases hs
   obtain ⟨ha, hH, hc⟩ := hp
   rw [ha, hH]
   refine ⟨nB9 rfl, [0, 1, 4], rfl, fun k hk => id2h' k hk, ?_⟩
   obtain ⟨h1, h4, he, hf⟩ := hc
   have hv := chk_vld.1 h1
   have hok := vld_st hv h4
   obtain ⟨hl, hp0, _⟩ := lim_len hv.lim
   repeat ((conv => whnf); refine ⟨by first | exact ⟨rfl, trivial⟩ | (unfold inI64; omega) | omega | exact ⟨by omega, by omega⟩ | exact rfl | decide +kernel, ?_⟩)
   conv => whnf
   refine cI9 ?_ ?_<;>intro h
   ·have h2 : (!decide (chkP ns = 0)) = true := h
    exact absurd h1 (by simpa using h2)
   repeat ((conv => whnf); refine ⟨by first | exact ⟨rfl, hv⟩ | (unfold inI64; omega) | omega | exact ⟨by omega, by omega⟩ | exact rfl | decide +kernel, ?_⟩)
   conv => whnf
   refine cI9 ?_ ?_<;>intro h3
   ·exact absurd h4 (ne_t (not_b h3))
   repeat ((conv => whnf); refine ⟨by first | exact ⟨rfl, hl, hp0⟩ | exact ⟨rfl, rfl, hok, he, hf⟩ | (unfold inI64; omega) | omega | exact ⟨by omega, by omega⟩ | exact rfl | decide +kernel, ?_⟩)
   conv => whnf
   exact eR9
  ·cases hs
 ·cases hs
def says3N : Says := fun args H => match H with
 | [] => match daTSSS args with
  | some a => some (some (args = eaTSSS a ∧ chkP a.1 = 0 ∧ (fndV (a.1, a.2.1)).2 = true ∧ stE (ndAt a.1 (fndV (a.1, a.2.1)).1.toNat).2.2 a.2.2 = 0 ∧ fndP (ndAt a.1 (fndV (a.1, a.2.1)).1.toNat).2.2 a.2.2.1 = false), .tup [.agg [.sl 0 ndC 0 a.1.length], .c (.int .i64 0)], [.arr ndT ndC (stN a.1 (fndV (a.1, a.2.1)).1.toNat a.2.2) 0])
  | none => none
 | _ => none
theorem k3N : TS9 (ext (K2N) 37 (says3N)) := by
 refine ext_run (k2N) (f := 37) (fn := Tryz.f37) rfl rfl [0, 1, 2, 3, 4, 6, 7, 8, 9] fun args H p r' H' hs hp => ?_
 unfold says3N at hs
 split at hs
 ·split at hs
  ·rename_i a _
   cases hs
   obtain ⟨ha, hc⟩ := hp
   rw [ha]
   obtain ⟨ns, q, a, b⟩ := a
   refine ⟨nB9 rfl, [4], rfl, nK9, ?_⟩
   show runF _ _ _ _ [.agg [.p (.l ndC ns)], .c (.str q), .c (.str a), .c (.str b)] [] _
   repeat ((conv => whnf); refine ⟨by first | exact ⟨rfl, rfl, hc⟩ | ((conv => whnf); exact ⟨⟨rfl, rfl, rfl⟩, trivial⟩) | exact Early.one (by decide +kernel) (by (conv => whnf); exact ⟨rfl, rfl, rfl⟩) trivial | (unfold inI64; omega) | omega | exact ⟨by omega, by omega⟩ | exact rfl | decide +kernel, ?_⟩)
   conv => whnf
   exact eR9
  ·cases hs
 ·cases hs
abbrev hpF1 (ns : List Nd) (h : Nat) (a b : ByteArray) (ps : List Pt) : List AO := [.vec ndT ndC ns h 2 (.sl 3 ptC 0 ps.length), rwS a, rwS b, .arr ptT ptC ps 0]
theorem id4h : ∀ k, k < 4 → [0, 1, 2, 3][k]? = some k := id4
def says1F (h : Nat) : Says := fun args H => match args, H with
 | [.c (.vs _ _), .c (.p (.v (.int .i64 _))), .c (.ptr 1 0), .c (.ptr 2 0)], [.vec _ c0 ns _ _ _, .row [.p (.v (.string a))], .row [.p (.v (.string b))], .arr _ c1 ps _] => match castD (e := ndC) (e' := c0) ns, castD (e := ptC) (e' := c1) ps with
  | some ns, some ps => some (some (args = [.c (.vs 0 ns.length), .c (.int .i64 (h : Nat)), .c (.ptr 1 0), .c (.ptr 2 0)] ∧ H = hpF1 ns h a b ps ∧ SoOk ns h ps (a, b)), .tup [.c (.vs 0 ns.length), .c (.int .i64 0)], [.vec ndT ndC ns h 2 (.sl 3 ptC 0 ps.length), rwS a, rwS b, .arr ptT ptC (ps.set (posV ps a) (a, b)) 0])
  | _, _ => none
 | _, _ => none
def K1F (h : Nat) : Table := ext (F7 h) 88 (says1F h)
theorem k1F (h : Nat) : TS9 (K1F h) := by
 refine ext_run (f7 h) (f := 88) (fn := Tryz.f88) rfl rfl [0, 1, 2, 3, 6, 7] fun args H p r' H' hs hp => ?_
 unfold says1F at hs
 split at hs
 ·split at hs
  ·rename_i a b _ _ _ _ _ _ ns ps _ _
   cases hs
   obtain ⟨ha, hH, h1⟩ := hp
   rw [ha, hH]
   refine ⟨nB9 rfl, [0, 1, 2, 3], rfl, id4h, ?_⟩
   repeat ((conv => whnf); refine ⟨by first | exact ⟨rfl, rfl, h1⟩ | (unfold inI64; omega) | omega | exact ⟨by omega, by omega⟩ | exact rfl | decide +kernel, ?_⟩)
   conv => whnf
   exact eR9
  ·cases hs
 ·cases hs
def says2F (h : Nat) : Says := fun args H => match args, H with
 | [.agg [.p (.l c0 ns)], .c (.p (.v (.string q))), .c (.clo _ _ _)], [.row [.p (.v (.string a))], .row [.p (.v (.string b))]] => match castD (e := ndC) (e' := c0) ns with
  | some ns => some (some (args = [.agg [.p (.l ndC ns)], .c (.str q), .c (.clo false 88 [0, 1])] ∧ H = [rwS a, rwS b] ∧ chkP ns = 0 ∧ (fndV (ns, q)).2 = true ∧ stE (ndAt ns (fndV (ns, q)).1.toNat).2.2 (a, b) = 0 ∧ fndP (ndAt ns (fndV (ns, q)).1.toNat).2.2 a = true ∧ (fndV (ns, q)).1.toNat = h), .tup [.agg [.vs 2 ns.length], .c (.int .i64 0)], [rwS a, rwS b, .vec ndT ndC ns h 2 (.sl 3 ptC 0 (ndAt ns h).2.2.length), .arr ptT ptC ((ndAt ns h).2.2.set (posV (ndAt ns h).2.2 a) (a, b)) 0])
  | none => none
 | _, _ => none
def K2F (h : Nat) : Table := ext (K1F h) 82 (says2F h)
theorem k2F (h : Nat) : TS9 (K2F h) := by
 refine ext_run (k1F h) (f := 82) (fn := Tryz.f82) rfl rfl [0, 1, 2, 3, 6, 7, 8, 9, 10, 11, 12, 16, 27] fun args H p r' H' hs hp => ?_
 unfold says2F at hs
 split at hs
 ·split at hs
  ·rename_i q _ _ _ a b _ ns _
   cases hs
   obtain ⟨ha, hH, hc⟩ := hp
   rw [ha, hH]
   refine ⟨nB9 rfl, [0, 1, 4, 5], rfl, fun k hk => id2h'' k hk, ?_⟩
   obtain ⟨h1, h4, he, hf, hh⟩ := hc
   have hv := chk_vld.1 h1
   have hok := vld_st hv h4
   obtain ⟨hl, hp0, _⟩ := lim_len hv.lim
   rw [hh] at he hf
   have hki : (fndV (ns, q)).1 = (h : Nat) := by
    have := hok.k0
    omega
   have hlt : h < ns.length := by
    have := hok.k1
    omega
   have hsr : SrOk ((ndAt ns h).2.2, ByteArray.empty) := hh ▸ hok.ps
   have hpos : 0 < (ndAt ns h).2.2.length := by
    have h9 := hf
    unfold fndP at h9
    have := oT9 (bA9.1 h9).1
    omega
   have hso : SoOk ns h (ndAt ns h).2.2 (a, b) := ⟨hok.len, hlt, hpos, hsr, he, hf⟩
   repeat ((conv => whnf); refine ⟨by first | exact ⟨rfl, trivial⟩ | (unfold inI64; omega) | omega | exact ⟨by omega, by omega⟩ | exact rfl | decide +kernel, ?_⟩)
   conv => whnf
   refine cI9 ?_ ?_<;>intro h
   ·have h2 : (!decide (chkP ns = 0)) = true := h
    exact absurd h1 (by simpa using h2)
   repeat ((conv => whnf); refine ⟨by first | exact ⟨rfl, hv⟩ | (unfold inI64; omega) | omega | exact ⟨by omega, by omega⟩ | exact rfl | decide +kernel, ?_⟩)
   conv => whnf
   refine cI9 ?_ ?_<;>intro h3
   ·exact absurd h4 (ne_t (not_b h3))
   repeat ((conv => whnf); refine ⟨by first | exact ⟨rfl, hl, hlt, hpos⟩ | (unfold inI64; omega) | omega | exact ⟨by omega, by omega⟩ | exact rfl | decide +kernel, ?_⟩)
   conv => whnf
   rw [hki]
   repeat ((conv => whnf); refine ⟨by first | exact ⟨rfl, rfl, hso⟩ | (unfold inI64; omega) | omega | exact ⟨by omega, by omega⟩ | exact rfl | decide +kernel, ?_⟩)
   conv => whnf
   exact eR9
  ·cases hs
 ·cases hs
def says3F (h : Nat) : Says := fun args H => match H with
 | [] => match daTSSS args with
  | some a => some (some (args = eaTSSS a ∧ chkP a.1 = 0 ∧ (fndV (a.1, a.2.1)).2 = true ∧ stE (ndAt a.1 (fndV (a.1, a.2.1)).1.toNat).2.2 a.2.2 = 0 ∧ fndP (ndAt a.1 (fndV (a.1, a.2.1)).1.toNat).2.2 a.2.2.1 = true ∧ (fndV (a.1, a.2.1)).1.toNat = h), .tup [.agg [.vs 0 a.1.length], .c (.int .i64 0)], [.vec ndT ndC a.1 h 2 (.sl 1 ptC 0 (ndAt a.1 h).2.2.length), .arr ptT ptC ((ndAt a.1 h).2.2.set (posV (ndAt a.1 h).2.2 a.2.2.1) a.2.2) 0])
  | none => none
 | _ => none
theorem k3F (h : Nat) : TS9 (ext (K2F h) 37 (says3F h)) := by
 refine ext_run (k2F h) (f := 37) (fn := Tryz.f37) rfl rfl [0, 1, 2, 3, 4, 6, 7, 8, 9] fun args H p r' H' hs hp => ?_
 unfold says3F at hs
 split at hs
 ·split at hs
  ·rename_i a _
   cases hs
   obtain ⟨ha, hc⟩ := hp
   rw [ha]
   obtain ⟨ns, q, a, b⟩ := a
   refine ⟨nB9 rfl, [4, 5], rfl, nK9, ?_⟩
   show runF _ _ _ _ [.agg [.p (.l ndC ns)], .c (.str q), .c (.str a), .c (.str b)] [] _
   repeat ((conv => whnf); refine ⟨by first | exact ⟨rfl, rfl, hc⟩ | ((conv => whnf); exact ⟨⟨rfl, rfl, rfl⟩, trivial⟩) | exact Early.one (by decide +kernel) (by (conv => whnf); exact ⟨rfl, rfl, rfl⟩) trivial | (unfold inI64; omega) | omega | exact ⟨by omega, by omega⟩ | exact rfl | decide +kernel, ?_⟩)
   conv => whnf
   exact eR9
  ·cases hs
 ·cases hs
def says4N : Says := fun args H => match H with
 | [] => match daTSSS args with
  | some a => some (some (args = eaTSSS a ∧ chkP a.1 = 0 ∧ (fndV (a.1, a.2.1)).2 = true ∧ stE (ndAt a.1 (fndV (a.1, a.2.1)).1.toNat).2.2 a.2.2 = 0 ∧ fndP (ndAt a.1 (fndV (a.1, a.2.1)).1.toNat).2.2 a.2.2.1 = false), .tup [.agg [.p (.l ndC (stN a.1 (fndV (a.1, a.2.1)).1.toNat a.2.2))], .c (.int .i64 0)], [])
  | none => none
 | _ => none
theorem stN_len (ns : List Nd) (k : Nat) (p : Pt) : (stN ns k p).length = ns.length := List.length_set ..
theorem vld_pos {ns : List Nd} (h : chkP ns = 0) : 0 < ns.length := (lim_len (chk_vld.1 h).lim).2.1
theorem k4N : TS9 (ext F5 37 says4N) := by
 refine ext_only (?_ : TS9 (ext K2N 37 says4N)) f5
 refine ext_frz2 k3N k2N fun args H p r H' hs hp => ?_
 unfold says4N at hs
 split at hs
 ·split at hs
  ·rename_i a ha
   cases hs
   obtain ⟨h0, h1, h2, h3, h4⟩ := hp
   refine ⟨rfl, rfl, some (args = eaTSSS a ∧ chkP a.1 = 0 ∧ (fndV (a.1, a.2.1)).2 = true ∧ stE (ndAt a.1 (fndV (a.1, a.2.1)).1.toNat).2.2 a.2.2 = 0 ∧ fndP (ndAt a.1 (fndV (a.1, a.2.1)).1.toNat).2.2 a.2.2.1 = false), ndT, ndC, stN a.1 (fndV (a.1, a.2.1)).1.toNat a.2.2, 0, .v (.int .i64 0), ?_, by rw [stN_len]; exact vld_pos h1, ?_, rfl⟩
   rotate_left
   ·unfold says3N
    dsimp only
    rw [ha]
    dsimp only
    rw [stN_len]
   ·exact ⟨h0, h1, h2, h3, h4⟩
  ·cases hs
 ·cases hs
def stF (ns : List Nd) (h : Nat) (p : Pt) : List Nd := ns.set h ((ndAt ns h).1, (ndAt ns h).2.1, (ndAt ns h).2.2.set (posV (ndAt ns h).2.2 p.1) p)
def says4F (h : Nat) : Says := fun args H => match H with
 | [] => match daTSSS args with
  | some a => some (some (args = eaTSSS a ∧ chkP a.1 = 0 ∧ (fndV (a.1, a.2.1)).2 = true ∧ stE (ndAt a.1 (fndV (a.1, a.2.1)).1.toNat).2.2 a.2.2 = 0 ∧ fndP (ndAt a.1 (fndV (a.1, a.2.1)).1.toNat).2.2 a.2.2.1 = true ∧ (fndV (a.1, a.2.1)).1.toNat = h), .tup [.agg [.p (.l ndC (stF a.1 h a.2.2))], .c (.int .i64 0)], [])
  | none => none
 | _ => none
theorem dec_nd (n : Nd) (ps : List Pt) : dec ndC ((enc ndC n).take 2 ++ [.l ptC ps] ++ (enc ndC n).drop (2 + 1)) = some ((n.1, n.2.1, ps), []) := rfl
theorem k4F (h : Nat) : TS9 (ext F5 37 (says4F h)) := by
 refine ext_only (?_ : TS9 (ext (K2F h) 37 (says4F h))) f5
 refine ext_frzV (k3F h) (k2F h) fun args H p r H' hs hp => ?_
 unfold says4F at hs
 split at hs
 ·split at hs
  ·rename_i a ha
   cases hs
   obtain ⟨h0, h1, h2, h3, h4, h5⟩ := hp
   have hpos : 0 < (ndAt a.1 h).2.2.length := by
    have h9 := h4
    rw [h5] at h9
    unfold fndP at h9
    have := oT9 (bA9.1 h9).1
    omega
   refine ⟨rfl, rfl, some (args = eaTSSS a ∧ chkP a.1 = 0 ∧ (fndV (a.1, a.2.1)).2 = true ∧ stE (ndAt a.1 (fndV (a.1, a.2.1)).1.toNat).2.2 a.2.2 = 0 ∧ fndP (ndAt a.1 (fndV (a.1, a.2.1)).1.toNat).2.2 a.2.2.1 = true ∧ (fndV (a.1, a.2.1)).1.toNat = h), ndT, ptT, ndC, ptC, a.1, (ndAt a.1 h).2.2.set (posV (ndAt a.1 h).2.2 a.2.2.1) a.2.2, h, 2, 0, .v (.int .i64 0), _, ?_, by rw [List.length_set]; exact hpos, dec_nd _ _, ?_, rfl⟩
   rotate_left
   ·unfold says3F
    dsimp only
    rw [ha]
    dsimp only
    rw [List.length_set]
   ·exact ⟨h0, h1, h2, h3, h4, h5⟩
  ·cases hs
 ·cases hs
theorem set_some {a : List Nd × ByteArray × ByteArray × ByteArray} (h : (SetV a).2 = 0) : chkP a.1 = 0 ∧ (fndV (a.1, a.2.1)).2 = true ∧ stE (ndAt a.1 (fndV (a.1, a.2.1)).1.toNat).2.2 a.2.2 = 0 ∧ SetV a = (stN a.1 (fndV (a.1, a.2.1)).1.toNat a.2.2, 0) := by
 unfold SetV at *
 split at h
 ·rename_i h1
  rw [if_pos h1]
  split at h
  ·rename_i h2
   rw [if_pos h2]
   split at h
   ·rename_i h3
    rw [if_pos h3]
    exact ⟨h1, h2, h3, rfl⟩
   ·rename_i h3
    exact absurd h h3
  ·cases h
 ·rename_i h1
  exact absurd h h1
def K4 : Table := ext F5 37 (saysG daTSSS eaTSSS fun a => (none, treR (SetV a)))
def saysNF : Says := fun args H => match H with
 | [] => match daTSSS args with
  | some a => some (some (args = eaTSSS a ∧ (SetV a).2 = 0), treR (SetV a), [])
  | none => none
 | _ => none
theorem k4NF : TS9 (ext F5 37 saysNF) := by
 refine ext_case k4N (ext_fam (s' := fun args H => match H with
  | [] => match daTSSS args with
   | some a => some (some (args = eaTSSS a ∧ (SetV a).2 = 0 ∧ fndP (ndAt a.1 (fndV (a.1, a.2.1)).1.toNat).2.2 a.2.2.1 = true), treR (SetV a), [])
   | none => none
  | _ => none) k4F f5 fun args H p r H' hs hp => ?_) f5 fun args H p r H' hs hp => ?_
 ·split at hs
  ·split at hs
   ·rename_i a ha
    cases hs
    obtain ⟨h0, h1, h2⟩ := hp
    obtain ⟨g1, g2, g3, g4⟩ := set_some h1
    refine ⟨(fndV (a.1, a.2.1)).1.toNat, some (args = eaTSSS a ∧ chkP a.1 = 0 ∧ (fndV (a.1, a.2.1)).2 = true ∧ stE (ndAt a.1 (fndV (a.1, a.2.1)).1.toNat).2.2 a.2.2 = 0 ∧ fndP (ndAt a.1 (fndV (a.1, a.2.1)).1.toNat).2.2 a.2.2.1 = true ∧ (fndV (a.1, a.2.1)).1.toNat = (fndV (a.1, a.2.1)).1.toNat), ?_, by unfold says4F; dsimp only; rw [ha]; dsimp only; rw [g4]; unfold stF stN stP; rw [if_pos h2]⟩
    exact ⟨h0, g1, g2, g3, h2, rfl⟩
   ·cases hs
  ·cases hs
 ·unfold saysNF at hs
  split at hs
  ·split at hs
   ·rename_i a ha
    cases hs
    obtain ⟨h0, h1⟩ := hp
    obtain ⟨g1, g2, g3, g4⟩ := set_some h1
    by_cases hf : fndP (ndAt a.1 (fndV (a.1, a.2.1)).1.toNat).2.2 a.2.2.1 = true
    ·exact .inr ⟨some (args = eaTSSS a ∧ (SetV a).2 = 0 ∧ fndP (ndAt a.1 (fndV (a.1, a.2.1)).1.toNat).2.2 a.2.2.1 = true), ⟨h0, h1, hf⟩, rfl⟩
    ·have hf : fndP (ndAt a.1 (fndV (a.1, a.2.1)).1.toNat).2.2 a.2.2.1 = false := by simpa using hf
     refine .inl ⟨some (args = eaTSSS a ∧ chkP a.1 = 0 ∧ (fndV (a.1, a.2.1)).2 = true ∧ stE (ndAt a.1 (fndV (a.1, a.2.1)).1.toNat).2.2 a.2.2 = 0 ∧ fndP (ndAt a.1 (fndV (a.1, a.2.1)).1.toNat).2.2 a.2.2.1 = false), ?_, by unfold says4N; dsimp only; rw [ha]; dsimp only; rw [g4]⟩
     exact ⟨h0, g1, g2, g3, hf⟩
   ·cases hs
  ·cases hs
theorem k4 : TS9 K4 := by
 refine ext_case k4NF (ext_only k3E f5) f5 fun args H p r H' hs hp => ?_
 unfold saysG at hs
 split at hs
 ·split at hs
  ·rename_i a ha
   cases hs
   obtain ⟨h1, _⟩ := hp
   by_cases h0 : (SetV a).2 = 0
   ·refine .inl ⟨_, ?_, by unfold saysNF; dsimp only; rw [ha]⟩
    exact ⟨h1, h0⟩
   ·refine .inr ⟨_, ?_, by unfold says3E; dsimp only; rw [ha]⟩
    exact ⟨h1, h0⟩
  ·cases hs
 ·cases hs
theorem ltC_spec (nm : ByteArray) : ∀ ps : List Pt, (∀ j, j < ltC nm ps → bLt (ptAt ps j).1 nm = true) ∧ (ltC nm ps < ps.length → bLt (ptAt ps (ltC nm ps)).1 nm = false) := by
 intro ps
 induction ps with
 | nil => exact ⟨fun j h => absurd h (nN9 j), fun h => absurd h (nN9 _)⟩
 | cons q r ih =>
  unfold ltC
  split
  ·rename_i h
   refine ⟨fun j hj => ?_, fun hj => ?_⟩
   ·cases j with
    | zero => exact h
    | succ j => exact ih.1 j (by omega)
   ·exact ih.2 (by simpa using hj)
  ·rename_i h
   refine ⟨fun j hj => absurd hj (nN9 j), fun _ => ?_⟩
   simpa using h
theorem pos_ltC (ps : List Pt) (nm : ByteArray) : posV ps nm = ltC nm ps := by
 obtain ⟨h1, h2⟩ := ltC_spec nm ps
 have hle := ltC_le nm ps
 rcases Nat.lt_or_eq_of_le hle with h | h
 ·refine skGo_yes _ _ _ (nZ9 _) (by omega) ?_ fun j _ hj => ?_
  ·show (!bLt (ptAt ps (ltC nm ps)).1 nm) = true
   rw [h2 h]
   rfl
  ·show (!bLt (ptAt ps j).1 nm) = false
   rw [h1 j hj]
   rfl
 ·have := skGo_no (p := fun i => !bLt (ptAt ps i).1 nm) ps.length 0 fun j _ hj => by
   show (!bLt (ptAt ps j).1 nm) = false
   rw [h1 j (by omega)]
   rfl
  rw [Nat.zero_add] at this
  rw [h]
  exact this
end Go.Ab
