/- TreeLimits: the law. -/
import Derived.Test.YtgeoggpkjnnonaaTY110toY111
import Derived.Test.YtgeoggpkjnnonaaTX0toY60
namespace Go.Ab
open Go.Proofs
set_option linter.unusedSectionVars false
set_option maxRecDepth 100000
variable [Base]

abbrev dS : ByteArray := ⟨#[100]⟩
abbrev slS : ByteArray := ⟨#[47]⟩
def limX (i : Nat) : List Nd := (-1, ⟨#[]⟩, []) :: (List.range i).map fun j => (((j : Nat) : Int), dS, [])
def limP : Nat → ByteArray
  | 0 => slS
  | i + 1 => (if i = 0 then limP i else limP i ++ slS) ++ dS
theorem all_lt {p : Nat → Bool} {n : Nat} (h : (List.range n).all p = true) {i : Nat} (hi : i < n) : p i = true := List.all_eq_true.1 h i (List.mem_range.2 hi)
def ckX (i : Nat) : Bool := decide (AddV (limX i, limP i, dS) = (limX (i + 1), 0))
theorem ckX_all : (List.range 8).all ckX = true := by decide +kernel
theorem lx {i : Nat} (h : i < 8) : AddV (limX i, limP i, dS) = (limX (i + 1), 0) := of_decide_eq_true (all_lt ckX_all h)
theorem lx8 : AddV (limX 8, limP 8, dS) = ([], 2) := by decide +kernel
def pnS (i : Nat) : ByteArray := ⟨#[112, UInt8.ofNat (97 + i)]⟩
def limZ (i : Nat) : List Nd := [(-1, ⟨#[]⟩, (List.range i).map fun j => (pnS j, ⟨#[]⟩))]
def ckN (i : Nat) : Bool := decide ((⟨#[112]⟩ : ByteArray) ++ bytesOf [IntKind.wrap .u8 (97 + ((i : Nat) : Int))] = pnS i)
theorem ckN_all : (List.range 24).all ckN = true := by decide +kernel
theorem ln {i : Nat} (h : i < 24) : (⟨#[112]⟩ : ByteArray) ++ bytesOf [IntKind.wrap .u8 (97 + ((i : Nat) : Int))] = pnS i := of_decide_eq_true (all_lt ckN_all h)
def ckZ (i : Nat) : Bool := decide (SetV (limZ i, slS, pnS i, ⟨#[]⟩) = (limZ (i + 1), 0))
theorem ckZ_all : (List.range 24).all ckZ = true := by decide +kernel
theorem lz {i : Nat} (h : i < 24) : SetV (limZ i, slS, pnS i, ⟨#[]⟩) = (limZ (i + 1), 0) := of_decide_eq_true (all_lt ckZ_all h)
theorem lq : SetV (limZ 24, slS, ⟨#[113]⟩, ⟨#[]⟩) = ([], 3) := by decide +kernel
theorem lc : chkP (limZ 24) = 0 := by decide +kernel
theorem lf : fndV (limZ 24, slS) = (0, true) := by decide +kernel
theorem le24 : (ndAt (limZ 24) 0).2.2.length = 24 ∧ fndP (ndAt (limZ 24) 0).2.2 ⟨#[112, 97]⟩ = true ∧ prpB ⟨#[112, 97]⟩ = true := by decide +kernel
theorem bof_size (l : List Int) : (bytesOf l).size = l.length := by
  unfold bytesOf
  show (List.map _ l).toArray.size = _
  simp
theorem limP_size : ∀ i, (limP i).size ≤ 2 * i + 1 := by
  intro i
  induction i with
  | zero => exact Nat.le_refl _
  | succ i ih =>
    unfold limP
    have e1 : dS.size = 1 := rfl
    have e2 : slS.size = 1 := rfl
    rw [ByteArray.size_append, e1]
    split
    · omega
    · rw [ByteArray.size_append, e2]
      omega
theorem lg {v : ByteArray} (h : v.size ≤ 256) : (SetV (limZ 24, slS, ⟨#[112, 97]⟩, v)).2 = 0 := by
  unfold SetV
  dsimp only
  rw [if_pos lc, lf, if_pos rfl]
  have e : stE (ndAt (limZ 24) 0).2.2 (⟨#[112, 97]⟩, v) = 0 := by
    unfold stE
    dsimp only
    rw [le24.2.2, le24.2.1, if_neg (by decide), if_neg]
    simp
    omega
  show (if stE (ndAt (limZ 24) 0).2.2 (⟨#[112, 97]⟩, v) = 0 then ((stN (limZ 24) 0 (⟨#[112, 97]⟩, v), 0) : List Nd × Int) else ([], stE (ndAt (limZ 24) 0).2.2 (⟨#[112, 97]⟩, v))).2 = 0
  rw [if_pos e]
theorem lh {v : ByteArray} (h : 256 < v.size) : (SetV (limZ 24, slS, ⟨#[112, 97]⟩, v)).2 = 3 := by
  unfold SetV
  dsimp only
  rw [if_pos lc, lf, if_pos rfl]
  have e : stE (ndAt (limZ 24) 0).2.2 (⟨#[112, 97]⟩, v) = 3 := by
    unfold stE
    dsimp only
    rw [le24.2.2, if_neg (by decide), if_pos]
    simp [h]
  show (if stE (ndAt (limZ 24) 0).2.2 (⟨#[112, 97]⟩, v) = 0 then ((stN (limZ 24) 0 (⟨#[112, 97]⟩, v), 0) : List Nd × Int) else ([], stE (ndAt (limZ 24) 0).2.2 (⟨#[112, 97]⟩, v))).2 = 3
  rw [e]
  rfl
def G1L : Table := ext K4 6 fun args H => match args, H with | [], [] => some (none, .a (.agg [.p (.l ndC rtL)]), []) | _, _ => none
theorem g1L : TSound Try.prog G1L := by
  refine ext_run k4 (f := 6) (fn := Try.f6) rfl rfl [0] fun args H p r' H' hs hp => ?_
  split at hs
  · cases hs
    refine ⟨Nat.le_of_ble_eq_true rfl, [], rfl, fun k hk => absurd hk (Nat.not_lt_zero k), ?_⟩
    repeat ((conv => whnf); refine ⟨by first | (unfold inI64; omega) | omega | exact ⟨by omega, by omega⟩ | exact rfl | decide +kernel, ?_⟩)
    conv => whnf
    exact ends_eq ⟨rfl, rfl⟩
  · cases hs
theorem id1 : ∀ k, k < 1 → [0][k]? = some k := fun k hk => by
  obtain rfl : k = 0 := by omega
  rfl
theorem sz2 {a b : Nat} (h : a ≤ 1000) (h2 : b ≤ 1000) : ((a + b : Nat) : Int) ≤ 9223372036854775807 := by omega
def saysLim : Says := fun args H => match args, H with
  | [.c (.p (.v (.int .u8 n)))], [] => some (some (0 ≤ n ∧ n ≤ 255), .bool true, [])
  | _, _ => none
def G2L : Table := ext G1L 3 saysLim
theorem g2L : TSound Try.prog G2L := by
  refine ext_run g1L (f := 3) (fn := Try.f3) rfl rfl [0, 2, 3, 4, 5, 6, 7, 9, 10, 11, 12, 13, 15, 17, 19, 22, 32, 35, 48, 63] fun args H p r' H' hs hp => ?_
  unfold saysLim at hs
  split at hs
  · rename_i n
    cases hs
    obtain ⟨hn0, hn1⟩ := hp
    refine ⟨Nat.le_of_ble_eq_true rfl, [], rfl, fun k hk => absurd hk (Nat.not_lt_zero k), ?_⟩
    repeat ((conv => whnf); refine ⟨by first | (unfold inI64; omega) | omega | exact ⟨by omega, by omega⟩ | exact rfl | decide +kernel, ?_⟩)
    conv => whnf
    refine loop_intro (σ := Nat) (fun i => [(0, XV.s (.int .u8 n)), (2, XV.s .none), (3, XV.s (.a (.c (.ptr 0 0)))), (4, XV.s (.str (limP i))), (5, XV.s (.int .i64 (i : Nat))), (6, XV.s .none), (7, XV.s .none), (9, XV.s .none), (10, XV.s .none), (11, XV.s .none), (12, XV.s .none), (13, XV.s .none), (15, XV.s .none), (17, XV.s .none), (19, XV.s .none), (22, XV.s .none), (32, XV.s .none), (35, XV.s .none), (48, XV.s .none), (63, XV.s .none)])
      (fun i => [.row [.p (.l ndC (limX i))]]) (fun i => i ≤ 8) (fun i => 8 - i) 0 ?_ rfl (Nat.zero_le _) (fun i hi => ?_)
    · repeat (first | exact LeL.nil | refine LeL.drop ?_ | refine LeL.same ?_)
    repeat ((conv => whnf); refine ⟨by first | (unfold inI64; omega) | omega | exact ⟨by omega, by omega⟩ | exact rfl | decide +kernel, ?_⟩)
    conv => whnf
    refine cond_intro (fun h1 => ?_) (fun h1 => ?_)
    · have hi8 : i < 8 := by
        have : (i : Int) < 8 := of_decide_eq_true h1
        omega
      repeat ((conv => whnf); refine ⟨by first | exact ⟨rfl, trivial⟩ | (unfold inI64; omega) | omega | exact ⟨by omega, by omega⟩ | exact rfl | decide +kernel, ?_⟩)
      conv => whnf
      rw [lx hi8]
      have hps : (limP i).size ≤ 100 := Nat.le_trans (limP_size i) (by omega)
      repeat ((conv => whnf); refine ⟨by first | (unfold inI64; omega) | omega | exact ⟨by omega, by omega⟩ | (intro hg; first | (unfold inI64; omega) | omega | exact ⟨by omega, by omega⟩ | (simp [lit] at hg; unfold inI64; omega) | (simp [lit] at hg; omega) | (simp [lit] at hg; exact ⟨by omega, by omega⟩)) | (show (_ : Nat) + 1 ≤ 1000000000000; omega) | exact rfl | (unfold inI64; dsimp only; omega) | (dsimp only; omega) | (intro hg; simp [lit] at hg; first | (unfold inI64; dsimp only; omega) | (dsimp only; omega)) | decide +kernel, ?_⟩)
      conv => whnf
      refine cond_intro (fun h2 => ?_) (fun h2 => ?_)
      · have h3 : ¬ i = 0 := by
          have : (0 : Int) < (i : Nat) := of_decide_eq_true h2
          omega
        have hP : limP (i + 1) = limP i ++ slS ++ dS := by
          show (if i = 0 then limP i else limP i ++ slS) ++ dS = _
          rw [if_neg h3]
        have c1 : (((limP i).size + slS.size : Nat) : Int) ≤ 9223372036854775807 := sz2 (Nat.le_trans hps (by decide)) (by decide)
        have c2 : (((limP i ++ slS).size + dS.size : Nat) : Int) ≤ 9223372036854775807 := sz2 (by rw [ByteArray.size_append]; exact Nat.add_le_add (Nat.le_trans hps (show 100 ≤ 999 by decide)) (show slS.size ≤ 1 by decide)) (by decide)
        conv => whnf
        refine ⟨c1, ?_⟩
        conv => whnf
        refine ⟨c2, ?_⟩
        repeat ((conv => whnf); refine ⟨by first | (unfold inI64; omega) | omega | exact ⟨by omega, by omega⟩ | (intro hg; first | (unfold inI64; omega) | omega | exact ⟨by omega, by omega⟩ | (simp [lit] at hg; unfold inI64; omega) | (simp [lit] at hg; omega) | (simp [lit] at hg; exact ⟨by omega, by omega⟩)) | (show (_ : Nat) + 1 ≤ 1000000000000; omega) | exact rfl | (unfold inI64; dsimp only; omega) | (dsimp only; omega) | (intro hg; simp [lit] at hg; first | (unfold inI64; dsimp only; omega) | (dsimp only; omega)) | decide +kernel, ?_⟩)
        conv => whnf
        refine head_keep (i + 1) [0] rfl id1 rfl ?_ hi8 (by omega)
        rw [hP]
        repeat (first | exact KeepL.nil | refine KeepL.drop ?_ | refine KeepL.ren rfl ?_)
      · have h3 : i = 0 := by
          have : ¬ (0 : Int) < (i : Nat) := of_decide_eq_false h2
          omega
        subst h3
        have c2 : (((limP 0).size + dS.size : Nat) : Int) ≤ 9223372036854775807 := by decide
        conv => whnf
        refine ⟨c2, ?_⟩
        repeat ((conv => whnf); refine ⟨by first | (unfold inI64; omega) | omega | exact ⟨by omega, by omega⟩ | (intro hg; first | (unfold inI64; omega) | omega | exact ⟨by omega, by omega⟩ | (simp [lit] at hg; unfold inI64; omega) | (simp [lit] at hg; omega) | (simp [lit] at hg; exact ⟨by omega, by omega⟩)) | (show (_ : Nat) + 1 ≤ 1000000000000; omega) | exact rfl | (unfold inI64; dsimp only; omega) | (dsimp only; omega) | (intro hg; simp [lit] at hg; first | (unfold inI64; dsimp only; omega) | (dsimp only; omega)) | decide +kernel, ?_⟩)
        conv => whnf
        refine head_keep 1 [0] rfl id1 rfl ?_ (by omega) (by omega)
        repeat (first | exact KeepL.nil | refine KeepL.drop ?_ | refine KeepL.ren rfl ?_)
    have hi8 : i = 8 := by
      have : ¬ (i : Int) < 8 := of_decide_eq_false h1
      omega
    subst hi8
    repeat ((conv => whnf); refine ⟨by first | exact ⟨rfl, trivial⟩ | (unfold inI64; omega) | omega | exact ⟨by omega, by omega⟩ | exact rfl | decide +kernel, ?_⟩)
    conv => whnf
    rw [lx8]
    repeat ((conv => whnf); refine ⟨by first | (unfold inI64; omega) | omega | exact ⟨by omega, by omega⟩ | exact rfl | decide +kernel, ?_⟩)
    conv => whnf
    refine loop_intro (σ := Nat) (fun i => [(0, XV.s (.int .u8 n)), (2, XV.s .none), (3, XV.s .none), (4, XV.s .none), (5, XV.s .none), (6, XV.s .none), (7, XV.s .none), (9, XV.s (.int .i64 2)), (10, XV.s (.a (.c (.ptr 2 0)))), (11, XV.s (.int .i64 (i : Nat))), (12, XV.s .none), (13, XV.s .none), (15, XV.s .none), (17, XV.s .none), (19, XV.s .none), (22, XV.s .none), (32, XV.s .none), (35, XV.s .none), (48, XV.s .none), (63, XV.s .none)])
      (fun i => [.row [.p (.l ndC (limX 8))], .row [.p (.l ndC ([] : List Nd))], .row [.p (.l ndC (limZ i))]]) (fun i => i ≤ 24) (fun i => 24 - i) 0 ?_ rfl (Nat.zero_le _) (fun i hi => ?_)
    · repeat (first | exact LeL.nil | refine LeL.drop ?_ | refine LeL.same ?_)
    repeat ((conv => whnf); refine ⟨by first | (unfold inI64; omega) | omega | exact ⟨by omega, by omega⟩ | exact rfl | decide +kernel, ?_⟩)
    conv => whnf
    refine cond_intro (fun h2 => ?_) (fun h2 => ?_)
    · have hi24 : i < 24 := by
        have : (i : Int) < 24 := of_decide_eq_true h2
        omega
      have hN := ln hi24
      have c1 : (((⟨#[112]⟩ : ByteArray).size + (bytesOf [IntKind.wrap .u8 (97 + ((i : Nat) : Int))]).size : Nat) : Int) ≤ 9223372036854775807 := by
        rw [bof_size]
        exact sz2 (by decide) (show 1 ≤ 1000 by decide)
      repeat ((conv => whnf); refine ⟨by first | exact c1 | exact ⟨rfl, trivial⟩ | (unfold inI64; omega) | omega | exact ⟨by omega, by omega⟩ | (intro hg; first | (unfold inI64; omega) | omega | exact ⟨by omega, by omega⟩ | (simp [lit] at hg; unfold inI64; omega) | (simp [lit] at hg; omega) | (simp [lit] at hg; exact ⟨by omega, by omega⟩)) | (show (_ : Nat) + 1 ≤ 1000000000000; omega) | exact rfl | (unfold inI64; dsimp only; omega) | (dsimp only; omega) | (intro hg; simp [lit] at hg; first | (unfold inI64; dsimp only; omega) | (dsimp only; omega)) | decide +kernel, ?_⟩)
      conv => whnf
      rw [hN, lz hi24]
      repeat ((conv => whnf); refine ⟨by first | (unfold inI64; omega) | omega | exact ⟨by omega, by omega⟩ | (intro hg; first | (unfold inI64; omega) | omega | exact ⟨by omega, by omega⟩ | (simp [lit] at hg; unfold inI64; omega) | (simp [lit] at hg; omega) | (simp [lit] at hg; exact ⟨by omega, by omega⟩)) | (show (_ : Nat) + 1 ≤ 1000000000000; omega) | exact rfl | (unfold inI64; dsimp only; omega) | (dsimp only; omega) | (intro hg; simp [lit] at hg; first | (unfold inI64; dsimp only; omega) | (dsimp only; omega)) | decide +kernel, ?_⟩)
      conv => whnf
      refine head_keep (i + 1) [0, 1, 2] rfl id3 rfl ?_ hi24 (by omega)
      repeat (first | exact KeepL.nil | refine KeepL.drop ?_ | refine KeepL.ren rfl ?_)
    have hi24 : i = 24 := by
      have : ¬ (i : Int) < 24 := of_decide_eq_false h2
      omega
    subst hi24
    repeat ((conv => whnf); refine ⟨by first | exact ⟨rfl, trivial⟩ | (unfold inI64; omega) | omega | exact ⟨by omega, by omega⟩ | exact rfl | decide +kernel, ?_⟩)
    conv => whnf
    rw [lq]
    have m1 : (256 : Int) = 256 ∧ 0 < (256 : Int) ∧ (256 : Int) ≤ 1000000 := ⟨rfl, by decide, by decide⟩
    have m2 : 0 = 0 ∧ Int.toNat 256 = (List.replicate (Int.toNat 256) (0 : Int)).length := ⟨rfl, rfl⟩
    repeat ((conv => whnf); refine ⟨by first | exact m1 | exact ⟨rfl, trivial⟩ | exact m2 | (repeat ((conv => whnf); refine ⟨by ((conv => whnf); first | exact ⟨rfl, rfl, rfl⟩ | exact ⟨m2, rfl, rfl, rfl⟩), ?_⟩)); ((conv => whnf); exact trivial) | ((conv => whnf); exact ⟨⟨rfl, rfl, rfl⟩, trivial⟩) | exact Early.one (by decide +kernel) (by (conv => whnf); exact ⟨rfl, rfl, rfl⟩) trivial | (unfold inI64; omega) | omega | exact ⟨by omega, by omega⟩ | (intro hg; first | (unfold inI64; omega) | omega | exact ⟨by omega, by omega⟩ | (simp [lit] at hg; unfold inI64; omega) | (simp [lit] at hg; omega) | (simp [lit] at hg; exact ⟨by omega, by omega⟩)) | (show (_ : Nat) + 1 ≤ 1000000000000; omega) | exact rfl | (unfold inI64; dsimp only; omega) | (dsimp only; omega) | (intro hg; simp [lit] at hg; first | (unfold inI64; dsimp only; omega) | (dsimp only; omega)) | decide +kernel, ?_⟩)
    conv => whnf
    have hg0 := lg (v := bytesOf (List.replicate (Int.toNat 256) (0 : Int))) (by rw [bof_size, List.length_replicate]; decide)
    rw [hg0]
    have hnn : ((257 + n).toNat : Int) = 257 + n := by omega
    have m3 : 257 + n = 257 + n ∧ 0 < 257 + n ∧ 257 + n ≤ 1000000 := ⟨rfl, by omega, by omega⟩
    have m4 : 0 = 0 ∧ (257 + n).toNat = (List.replicate (257 + n).toNat (0 : Int)).length := ⟨rfl, (List.length_replicate ..).symm⟩
    have m5 : inI64 (257 + n) := by unfold inI64; omega
    have m6 : inI64 n := by unfold inI64; omega
    repeat ((conv => whnf); refine ⟨by first | exact m3 | exact m5 | exact m6 | exact ⟨rfl, trivial⟩ | exact m4 | (repeat ((conv => whnf); refine ⟨by ((conv => whnf); first | exact ⟨rfl, rfl, rfl⟩ | exact ⟨m4, rfl, rfl, rfl⟩ | exact ⟨m5, rfl, rfl, rfl⟩ | exact ⟨m6, rfl, rfl, rfl⟩), ?_⟩)); ((conv => whnf); exact trivial) | ((conv => whnf); exact ⟨⟨rfl, rfl, rfl⟩, trivial⟩) | exact Early.one (by decide +kernel) (by (conv => whnf); exact ⟨rfl, rfl, rfl⟩) trivial | (unfold inI64; omega) | omega | exact ⟨by omega, by omega⟩ | (intro hg; first | (unfold inI64; omega) | omega | exact ⟨by omega, by omega⟩ | (simp [lit] at hg; unfold inI64; omega) | (simp [lit] at hg; omega) | (simp [lit] at hg; exact ⟨by omega, by omega⟩)) | (show (_ : Nat) + 1 ≤ 1000000000000; omega) | exact rfl | (unfold inI64; dsimp only; omega) | (dsimp only; omega) | (intro hg; simp [lit] at hg; first | (unfold inI64; dsimp only; omega) | (dsimp only; omega)) | decide +kernel, ?_⟩)
    conv => whnf
    have hh0 := lh (v := bytesOf (List.replicate (257 + n).toNat (0 : Int))) (by rw [bof_size, List.length_replicate]; omega)
    show Ends (.bool ((((decide ((2 : Int) = 2) && decide ((3 : Int) = 3)) && decide ((0 : Int) = 0)) && decide ((SetV (limZ 24, slS, ⟨#[112, 97]⟩, bytesOf (List.replicate (257 + n).toNat (0 : Int)))).2 = 3)) && true)) [] _ _
    rw [hh0]
    exact ends_eq ⟨rfl, rfl⟩
  · cases hs
end Go.Ab
namespace Go.Ab
open Go.RowKit
set_option linter.unusedSectionVars false

/-- The fields of a struct, each behind the one before it. -/
def nestGo (P : Program) (f : TypeId → Option CT) (tot : Nat) : List Field → Nat → Option CT
  | [], _ => none
  | [x], off => match f x.type with
    | some c => if x.offset = off ∧ P.cellsOf x.type = c.width ∧ tot = off + c.width then some c else none
    | none => none
  | x :: r, off => match f x.type, nestGo P f tot r (off + P.cellsOf x.type) with
    | some a, some b => if x.offset = off ∧ P.cellsOf x.type = a.width then some (.pair a b) else none
    | _, _ => none
/-- The shape of a type of numbers, texts, structs and slices. -/
def nestOf (P : Program) : Nat → TypeId → Option CT
  | 0, _ => none
  | d + 1, t => match P.underlying t with
    | some (.int k) => some (.int k)
    | some .bool => some .bool
    | some .string => some .str
    | some (.slice e) => match nestOf P d e with
      | some c => if P.cellsOf e = c.width then some (.list c) else none
      | none => none
    | some (.struct fs) => nestGo P (nestOf P d) (P.cellsOf t) fs.toList 0
    | _ => none

theorem CT.width_pos : ∀ t : CT, 0 < t.width
  | .pair a b => by have := CT.width_pos a; show 0 < a.width + b.width; omega
  | .int _ => Nat.one_pos
  | .bool => Nat.one_pos
  | .str => Nat.one_pos
  | .list _ => Nat.one_pos
  | .fn => Nat.one_pos
  | .map _ _ => Nat.one_pos

variable {H : Type} {enc : TypeId × Value → H} {P : Program} {w : World} {base : Nat} {spare : Nat → Bool} {held : Bool} {I : Cells}

theorem nestGo_tot {f : TypeId → Option CT} {tot : Nat} : ∀ (fs : List Field) (o : Nat) (c : CT), nestGo P f tot fs o = some c → o ≤ tot := by
  intro fs
  induction fs with
  | nil => intro o c h; cases h
  | cons u v ihh =>
    intro o c h
    cases v with
    | nil =>
      simp only [nestGo] at h
      split at h
      · split at h
        · rename_i hc; omega
        · cases h
      · cases h
    | cons v1 v2 =>
      simp only [nestGo] at h
      split at h
      · rename_i hh
        have := ihh _ _ hh
        omega
      · cases h

theorem nestGo_rep {f : TypeId → Option CT} {tot : Nat} {cs : List Value} (htot : tot = cs.length) :
    ∀ (fs : List Field) (off : Nat) (c : CT), nestGo P f tot fs off = some c → off ≤ cs.length →
      (∀ x ∈ fs, ∀ a, f x.type = some a → ∃ z : a.den, Rep I w a z ((cs.drop x.offset).take (P.cellsOf x.type))) → ∃ z : c.den, Rep I w c z (cs.drop off) := by
  intro fs
  induction fs with
  | nil => intro off c h; cases h
  | cons x r ih =>
    intro off c h ho hx
    cases r with
    | nil =>
      simp only [nestGo] at h
      cases hf : f x.type with
      | none => rw [hf] at h; cases h
      | some a =>
        rw [hf] at h
        dsimp only at h
        split at h
        · rename_i hc
          obtain rfl : a = c := Option.some.inj h
          obtain ⟨h1, h2, h3⟩ := hc
          obtain ⟨z, hz⟩ := hx x (by simp) a hf
          refine ⟨z, ?_⟩
          rwa [h1, List.take_of_length_le (by rw [List.length_drop]; omega)] at hz
        · cases h
    | cons y r =>
      simp only [nestGo] at h
      cases hf : f x.type with
      | none => rw [hf] at h; cases h
      | some a =>
        rw [hf] at h
        cases hg : nestGo P f tot (y :: r) (off + P.cellsOf x.type) with
        | none =>
          rw [hg] at h
          cases h
        | some b =>
          rw [hg] at h
          dsimp only at h
          split at h
          · rename_i hc
            cases h
            obtain ⟨h1, h2⟩ := hc
            have hle : off + P.cellsOf x.type ≤ cs.length := by
              have := nestGo_tot _ _ _ hg
              omega
            obtain ⟨z1, hz1⟩ := hx x (by simp) a hf
            obtain ⟨z2, hz2⟩ := ih _ b hg hle fun u hu => hx u (by simp [hu])
            refine ⟨(z1, z2), ⟨(cs.drop off).take (P.cellsOf x.type), cs.drop (off + P.cellsOf x.type), ?_, ?_, hz2⟩⟩
            · rw [← List.drop_drop, List.take_append_drop]
            · rwa [h1] at hz1
          · cases h

theorem choose_list' {α : Type} (n : Nat) (p : Nat → α → Prop) (h : ∀ i, i < n → ∃ z, p i z) : ∃ zs : List α, zs.length = n ∧ ∀ i z, zs[i]? = some z → p i z := by
  induction n with
  | zero => exact ⟨[], rfl, fun i z hz => by simp at hz⟩
  | succ n ih =>
    obtain ⟨zs, h1, h2⟩ := ih fun i hi => h i (by omega)
    obtain ⟨z, hz⟩ := h n (by omega)
    refine ⟨zs ++ [z], by simp [h1], fun i x hx => ?_⟩
    rcases Nat.lt_or_ge i zs.length with hi | hi
    · rw [List.getElem?_append_left hi] at hx
      exact h2 i x hx
    · have e : i = n := by
        have := (List.getElem?_eq_some_iff.1 hx).1
        simp at this
        omega
      subst e
      rw [List.getElem?_append_right (by omega), show i - zs.length = 0 by omega] at hx
      cases hx
      exact hz

theorem addr_add4 (b off n : Nat) : (⟨b, off, none⟩ : Addr).add n = ⟨b, off + n, none⟩ := by unfold Addr.add; split <;> simp_all
theorem cell_nospot {w : World} {a : Addr} {v : Value} (h : w.cell? a = some v) : a.spot = none := by
  unfold World.cell? at h
  split at h
  · split at h
    · cases h
    · rename_i hs
      cases hsp : a.spot with
      | none => rfl
      | some s => rw [hsp] at hs; simp at hs
  · cases h

theorem nest_rep (hI : ∀ b o, b < w.heap.size → I b o) : ∀ (d : Nat) (t : TypeId) (c : CT), nestOf P d t = some c → ∀ (fuel : Nat) (cs : List Value) (y : DataW H × List MemPlace), DataW.trod enc P w base spare held fuel t cs = some y → ∃ z : c.den, Rep I w c z cs := by
  intro d
  induction d with
  | zero => intro t c h; cases h
  | succ d ih =>
    intro t c h fuel cs y hy
    unfold nestOf at h
    split at h
    · rename_i k hu
      cases h
      obtain ⟨n, rfl, _⟩ := DataW.trod_int hu hy
      exact ⟨n, rfl⟩
    · rename_i hu
      cases h
      obtain ⟨b, rfl, _⟩ := DataW.trod_bool hu hy
      exact ⟨b, rfl⟩
    · rename_i hu
      cases h
      obtain ⟨s, rfl, _⟩ := DataW.trod_string hu hy
      exact ⟨s, rfl⟩
    · rename_i e hu
      split at h
      · rename_i c' hc
        split at h
        · rename_i hw
          cases h
          rcases DataW.trod_slice hu hy with ⟨rfl, _⟩ | ⟨a, len, cap, elems, rest, n, _, rfl, _, _, hl, _, hlen, hel, _, _⟩
          · exact ⟨[], .inl ⟨rfl, rfl⟩⟩
          · rcases Nat.eq_zero_or_pos len with h0 | h0
            · subst h0
              exact ⟨[], .inr (.inr ⟨rfl, a, cap, rfl⟩)⟩
            · have hwp := CT.width_pos c'
              have get : ∀ i, i < len → ∃ (cs : List Value) (z : c'.den), cs.length = c'.width ∧ Rep I w c' z cs ∧ ∀ j, j < c'.width → w.cell? ((a.add (i * P.cellsOf e)).add j) = cs[j]? := by
                intro i hi
                have h1 := hel i hi
                rw [List.getElem?_eq_getElem (by omega)] at h1
                obtain ⟨cs, h2, h3⟩ := Option.bind_eq_some_iff.1 h1
                obtain ⟨_, h4, h5⟩ := World.cells?_some h2
                obtain ⟨z, hz⟩ := ih e c' hc n cs _ h3
                exact ⟨cs, z, by rw [h4, hw], hz, fun j hj => h5 j (by rw [hw]; exact hj)⟩
              have hsp : a.spot = none := by
                obtain ⟨cs, _, hcl, _, hcell⟩ := get 0 h0
                have h6 := hcell 0 hwp
                rw [List.getElem?_eq_getElem (by omega)] at h6
                have h7 := cell_nospot h6
                have h8 : (a.add (0 * P.cellsOf e)).add 0 = a := by simp [Addr.add]
                rwa [h8] at h7
              obtain ⟨b, off, sp⟩ := a
              obtain rfl : sp = none := hsp
              have each : ∀ i, i < len → ∃ z : c'.den, ∃ us : List Value, us.length = c'.width ∧ Rep I w c' z us ∧ ∀ j u, us[j]? = some u → w.at' b (off + i * c'.width + j) = some u := by
                intro i hi
                obtain ⟨cs, z, hcl, hz, hcell⟩ := get i hi
                refine ⟨z, cs, hcl, hz, fun j u hj => ?_⟩
                have hjl : j < c'.width := by
                  have := (List.getElem?_eq_some_iff.1 hj).1
                  omega
                have h6 := hcell j hjl
                rw [addr_add4, addr_add4, hj, hw] at h6
                exact h6
              obtain ⟨zs, hz1, hz2⟩ := choose_list' len _ each
              refine ⟨zs, .inr (.inl ⟨b, off, cap, by rw [hz1], by rw [hz1]; exact hl, fun i z hi => ?_⟩)⟩
              obtain ⟨us, _, h2, h3⟩ := hz2 i z hi
              exact ⟨us, h2, fun j u hj => ⟨hI _ _ (cell_lt (h3 j u hj)), h3 j u hj⟩⟩
        · cases h
      · cases h
    · rename_i fs hu
      obtain ⟨xs, n, _, _, hl, hxl, hf⟩ := DataW.trod_struct hu hy
      obtain ⟨z, hz⟩ := nestGo_rep (P := P) hl.symm fs.toList 0 c h (Nat.zero_le _) fun x hx a ha => by
        obtain ⟨i, hi⟩ := List.getElem?_of_mem hx
        have hi' : fs[i]? = some x := by rw [← Array.getElem?_toList]; exact hi
        have h2 := hf i x hi'
        have hil : i < xs.length := by
          have := (Array.getElem?_eq_some_iff.1 hi').1
          omega
        rw [List.getElem?_eq_getElem hil] at h2
        exact ih x.type a ha n _ _ h2
      exact ⟨z, by rwa [List.drop_zero] at hz⟩
    · cases h

/-- A slice that is read, with slices in it: what it holds. -/
theorem nest_slice {t : TypeId} {c : CT} {d : Nat} {v : Value} {y : DataW H} {ps : List MemPlace} (hI : ∀ b o, b < w.heap.size → I b o) (hc : nestOf P d t = some (.list c))
    (h : DataW.Trod enc P w base spare held t v y ps) {a : Option Addr} {len cap : Nat} (hv : v = .slice a len cap) : ∃ zs : List c.den, RepV I w (.l c zs) v := by
  subst hv
  obtain ⟨fuel, hf⟩ := h
  have hcs : (Value.slice a len cap).cells.toList = [.slice a len cap] := rfl
  rw [hcs] at hf
  obtain ⟨zs, hz⟩ := nest_rep hI d t _ hc fuel _ _ hf
  exact ⟨zs, hz⟩
end Go.Ab
