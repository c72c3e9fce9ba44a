/- Trees that are grown: values. -/
import Derived.Test.YtnlifjljmbfomaaTY79toY82
namespace Go.Ab
open Go.Proofs
set_option linter.unusedSectionVars false
set_option maxRecDepth 100000
variable [Base]

def numGo (zs : List Int) : Nat → Int → List Int → List Int × Int
  | 0, n, l => (l, n)
  | m + 1, n, l => numGo zs m (tnN zs n) (l ++ [tnV zs n])
def bytV (zs : List Int) (n : Int) : Int := IntKind.u8.wrap (([0, 1, 65, 255, modV (rawV zs n) 256] : List Int).getD (modV (rawV zs (rawN zs n)) 5).toNat 0)
def bytGo (zs : List Int) : Nat → Int → List Int → List Int × Int
  | 0, n, b => (b, n)
  | m + 1, n, b => bytGo zs m (rawN zs (rawN zs n)) (b ++ [bytV zs n])
def valL : List ByteArray := [⟨#[97, 0]⟩, ⟨#[111, 107, 97, 121, 0]⟩, ⟨#[102, 105, 114, 115, 116, 0, 115, 101, 99, 111, 110, 100, 0]⟩, ⟨#[119, 105, 116, 104, 32, 34, 113, 117, 111, 116, 101, 34, 32, 97, 110, 100, 32, 92, 0]⟩, ⟨#[116, 97, 98, 9, 0]⟩, ⟨#[97, 98, 0, 0]⟩]
def valV (zs : List Int) (n : Int) : ByteArray × Int :=
  if modV (rawV zs n) 7 = 0 then (⟨#[]⟩, rawN zs n)
  else if modV (rawV zs n) 7 = 1 ∨ modV (rawV zs n) 7 = 2 then
    (bytesOf (celO (numGo zs (1 + modV (rawV zs (rawN zs n)) 3).toNat (rawN zs (rawN zs n)) []).1), (numGo zs (1 + modV (rawV zs (rawN zs n)) 3).toNat (rawN zs (rawN zs n)) []).2)
  else if modV (rawV zs n) 7 = 3 then (valL.getD (modV (rawV zs (rawN zs n)) 6).toNat ⟨#[]⟩, rawN zs (rawN zs n))
  else if modV (rawV zs n) 7 = 4 then (⟨#[100, 105, 115, 97, 98, 108, 101, 100, 0]⟩, rawN zs n)
  else (bytesOf (bytGo zs (modV (rawV zs (rawN zs n)) 9).toNat (rawN zs (rawN zs n)) []).1, (bytGo zs (modV (rawV zs (rawN zs n)) 9).toNat (rawN zs (rawN zs n)) []).2)
theorem tnN_ok9 {zs : List Int} {n : Int} (h : tapeOk zs n) : tapeOk zs (tnN zs n) := rawN_ok9 (rawN_ok9 (rawN_ok9 h))
def C28 : Table := ext C27 19 (saysTape fun zs n => (some (tapeOk zs n), .str (valV zs n).1, (valV zs n).2))
theorem c28 : TSound Try.prog C28 := by
  refine extTape c27 19 (fn := Try.f19) rfl rfl (by decide) _ [0, 2, 3, 4, 5, 6, 8, 9, 11, 17, 27, 34, 39] fun zs n hn => ?_
  have h1 : tapeOk zs n := hn
  have h2 := rawN_ok9 h1
  have h3 := rawN_ok9 h2
  dsimp only
  obtain ⟨V, hV⟩ : ∃ V, valV zs n = V := ⟨_, rfl⟩
  have hV2 := hV
  unfold valV at hV2
  rw [hV]
  obtain ⟨k, hk⟩ : ∃ k, modV (rawV zs n) 7 = k := ⟨_, rfl⟩
  rw [hk] at hV2
  have r1 := modV_nonneg (rawV zs (rawN zs n)) 3
  have r2 := modV_lt (rawV zs (rawN zs n)) 3 (by decide)
  have q3 : tapeOk zs (rawN zs n) ∧ (0 : Int) ≤ 1 ∧ (1 : Int) ≤ 3 ∧ (3 : Int) ≤ 4294967295 := ⟨h2, by decide, by decide, by decide⟩
  have id2' : ∀ k, k < 1 → [0, 1][k]? = some k := fun k hk => id2 k (by omega)
  have q1 : tapeOk zs n ∧ (7 : Int) ≤ 4611686018427387904 := ⟨h1, by decide⟩
  repeat ((conv => whnf); refine ⟨by first | exact q1 | (unfold inI64; omega) | omega | exact ⟨by omega, by omega⟩ | exact rfl | decide +kernel, ?_⟩)
  conv => whnf
  rw [hk]
  refine cond_intro (fun e0 => ?_) (fun e0 => ?_)
  · have e0 : k = 0 := of_decide_eq_true e0
    rw [if_pos e0] at hV2
    repeat ((conv => whnf); refine ⟨by first | (unfold inI64; omega) | omega | exact ⟨by omega, by omega⟩ | exact rfl | decide +kernel, ?_⟩)
    conv => whnf
    subst hV2
    exact ends_eq ⟨rfl, rfl⟩
  have e0 : ¬ k = 0 := of_decide_eq_false e0
  rw [if_neg e0] at hV2
  repeat ((conv => whnf); refine ⟨by first | (unfold inI64; omega) | omega | exact ⟨by omega, by omega⟩ | exact rfl | decide +kernel, ?_⟩)
  conv => whnf
  refine cond_intro (fun e1 => ?_) (fun e1 => ?_)
  · have e1 : k = 1 := of_decide_eq_true e1
    have eb : k = 1 ∨ k = 2 := .inl e1
    rw [if_pos eb] at hV2
    repeat ((conv => whnf); refine ⟨by first | exact q3 | (unfold inI64; omega) | omega | exact ⟨by omega, by omega⟩ | exact rfl | decide +kernel, ?_⟩)
    conv => whnf
    refine loop_weak (σ := Nat × Int × Int × List Int) (fun ⟨_, c, _, l⟩ => [(0, XV.s (.a (.c (.ptr 0 0)))), (2, XV.s .none), (3, XV.s (.a (.c (.own 1 (.int .i64) l)))), (4, XV.s (.int .i64 c)), (5, XV.s .none), (6, XV.s .none), (8, XV.s .none), (9, XV.s .none), (11, XV.s .none), (17, XV.s .none), (27, XV.s .none), (34, XV.s .none), (39, XV.s .none)])
      (fun ⟨_, _, x, l⟩ => [tapeO zs x, tokI l.length true]) (fun ⟨m, c, x, l⟩ => c = (m : Nat) ∧ tapeOk zs x ∧ l.length + m ≤ 3 ∧ numGo zs (1 + modV (rawV zs (rawN zs n)) 3).toNat (rawN zs (rawN zs n)) [] = numGo zs m x l) (fun ⟨m, _, _, _⟩ => m) ((1 + modV (rawV zs (rawN zs n)) 3).toNat, 1 + modV (rawV zs (rawN zs n)) 3, rawN zs (rawN zs n), []) ?_ ⟨by omega, h3, by show 0 + (1 + modV (rawV zs (rawN zs n)) 3).toNat ≤ 3; omega, rfl⟩ ?_
    · refine Weak.own 3 ?_
      repeat (first | exact OwnL.nil | refine OwnL.drop ?_ | refine OwnL.same ?_ | refine OwnL.own ?_)
    rintro ⟨m, c, x, l⟩ ⟨hc, hx, hl, hgo⟩
    repeat ((conv => whnf); refine ⟨by first | (unfold inI64; omega) | omega | exact ⟨by omega, by omega⟩ | exact rfl | decide +kernel, ?_⟩)
    conv => whnf
    refine cond_intro (fun hz => ?_) (fun hz => ?_)
    · have hz : 0 < c := of_decide_eq_true hz
      obtain ⟨m, rfl⟩ : ∃ q, m = q + 1 := ⟨m - 1, by omega⟩
      have hcap : l.length + 1 ≤ capBound := Nat.le_trans (m := 1000) (by omega) (by decide)
      have hc1 : inI64 (c - 1) := by unfold inI64; omega
      have hll : l.length + 1 = (l ++ [tnV zs x]).length := by rw [List.length_append]; rfl
      repeat ((conv => whnf); refine ⟨by first | exact hx | exact hcap | exact hc1 | (unfold inI64; omega) | omega | exact ⟨by omega, by omega⟩ | exact rfl | decide +kernel, ?_⟩)
      conv => whnf
      refine head_keep (m, c - 1, tnN zs x, l ++ [tnV zs x]) [0, 1] rfl id2' ?_ ?_ ⟨by omega, tnN_ok9 hx, by rw [← hll]; omega, hgo⟩ (Nat.lt_succ_self m)
      · show some [AO.row _, AO.tok _ _ (l.length + 1) true] = some [AO.row _, AO.tok _ _ (l ++ [tnV zs x]).length true]
        rw [hll]
      · repeat (first | exact KeepL.nil | refine KeepL.drop ?_ | refine KeepL.ren rfl ?_)
    have hz : ¬ 0 < c := of_decide_eq_false hz
    obtain rfl : m = 0 := by omega
    have hgo : numGo zs (1 + modV (rawV zs (rawN zs n)) 3).toNat (rawN zs (rawN zs n)) [] = (l, x) := hgo
    rw [hgo] at hV2
    have q4 : ([.c (.p (.l (.int .i64) l))] : List AV) = [.c (.p (.l (.int .i64) l))] ∧ l.length ≤ 1000 := ⟨rfl, by omega⟩
    repeat ((conv => whnf); refine ⟨by first | exact q4 | (unfold inI64; omega) | omega | exact ⟨by omega, by omega⟩ | exact rfl | decide +kernel, ?_⟩)
    conv => whnf
    subst hV2
    exact ends_eq ⟨rfl, rfl⟩
  have e1 : ¬ k = 1 := of_decide_eq_false e1
  repeat ((conv => whnf); refine ⟨by first | (unfold inI64; omega) | omega | exact ⟨by omega, by omega⟩ | exact rfl | decide +kernel, ?_⟩)
  conv => whnf
  refine cond_intro (fun e2 => ?_) (fun e2 => ?_)
  · have e2 : k = 2 := of_decide_eq_true e2
    have eb : k = 1 ∨ k = 2 := .inr e2
    rw [if_pos eb] at hV2
    repeat ((conv => whnf); refine ⟨by first | exact q3 | (unfold inI64; omega) | omega | exact ⟨by omega, by omega⟩ | exact rfl | decide +kernel, ?_⟩)
    conv => whnf
    refine loop_weak (σ := Nat × Int × Int × List Int) (fun ⟨_, c, _, l⟩ => [(0, XV.s (.a (.c (.ptr 0 0)))), (2, XV.s .none), (3, XV.s (.a (.c (.own 1 (.int .i64) l)))), (4, XV.s (.int .i64 c)), (5, XV.s .none), (6, XV.s .none), (8, XV.s .none), (9, XV.s .none), (11, XV.s .none), (17, XV.s .none), (27, XV.s .none), (34, XV.s .none), (39, XV.s .none)])
      (fun ⟨_, _, x, l⟩ => [tapeO zs x, tokI l.length true]) (fun ⟨m, c, x, l⟩ => c = (m : Nat) ∧ tapeOk zs x ∧ l.length + m ≤ 3 ∧ numGo zs (1 + modV (rawV zs (rawN zs n)) 3).toNat (rawN zs (rawN zs n)) [] = numGo zs m x l) (fun ⟨m, _, _, _⟩ => m) ((1 + modV (rawV zs (rawN zs n)) 3).toNat, 1 + modV (rawV zs (rawN zs n)) 3, rawN zs (rawN zs n), []) ?_ ⟨by omega, h3, by show 0 + (1 + modV (rawV zs (rawN zs n)) 3).toNat ≤ 3; omega, rfl⟩ ?_
    · refine Weak.own 3 ?_
      repeat (first | exact OwnL.nil | refine OwnL.drop ?_ | refine OwnL.same ?_ | refine OwnL.own ?_)
    rintro ⟨m, c, x, l⟩ ⟨hc, hx, hl, hgo⟩
    repeat ((conv => whnf); refine ⟨by first | (unfold inI64; omega) | omega | exact ⟨by omega, by omega⟩ | exact rfl | decide +kernel, ?_⟩)
    conv => whnf
    refine cond_intro (fun hz => ?_) (fun hz => ?_)
    · have hz : 0 < c := of_decide_eq_true hz
      obtain ⟨m, rfl⟩ : ∃ q, m = q + 1 := ⟨m - 1, by omega⟩
      have hcap : l.length + 1 ≤ capBound := Nat.le_trans (m := 1000) (by omega) (by decide)
      have hc1 : inI64 (c - 1) := by unfold inI64; omega
      have hll : l.length + 1 = (l ++ [tnV zs x]).length := by rw [List.length_append]; rfl
      repeat ((conv => whnf); refine ⟨by first | exact hx | exact hcap | exact hc1 | (unfold inI64; omega) | omega | exact ⟨by omega, by omega⟩ | exact rfl | decide +kernel, ?_⟩)
      conv => whnf
      refine head_keep (m, c - 1, tnN zs x, l ++ [tnV zs x]) [0, 1] rfl id2' ?_ ?_ ⟨by omega, tnN_ok9 hx, by rw [← hll]; omega, hgo⟩ (Nat.lt_succ_self m)
      · show some [AO.row _, AO.tok _ _ (l.length + 1) true] = some [AO.row _, AO.tok _ _ (l ++ [tnV zs x]).length true]
        rw [hll]
      · repeat (first | exact KeepL.nil | refine KeepL.drop ?_ | refine KeepL.ren rfl ?_)
    have hz : ¬ 0 < c := of_decide_eq_false hz
    obtain rfl : m = 0 := by omega
    have hgo : numGo zs (1 + modV (rawV zs (rawN zs n)) 3).toNat (rawN zs (rawN zs n)) [] = (l, x) := hgo
    rw [hgo] at hV2
    have q4 : ([.c (.p (.l (.int .i64) l))] : List AV) = [.c (.p (.l (.int .i64) l))] ∧ l.length ≤ 1000 := ⟨rfl, by omega⟩
    repeat ((conv => whnf); refine ⟨by first | exact q4 | (unfold inI64; omega) | omega | exact ⟨by omega, by omega⟩ | exact rfl | decide +kernel, ?_⟩)
    conv => whnf
    subst hV2
    exact ends_eq ⟨rfl, rfl⟩
  have e2 : ¬ k = 2 := of_decide_eq_false e2
  have eb : ¬ (k = 1 ∨ k = 2) := fun h => h.elim e1 e2
  rw [if_neg eb] at hV2
  repeat ((conv => whnf); refine ⟨by first | (unfold inI64; omega) | omega | exact ⟨by omega, by omega⟩ | exact rfl | decide +kernel, ?_⟩)
  conv => whnf
  refine cond_intro (fun e3 => ?_) (fun e3 => ?_)
  · have e3 : k = 3 := of_decide_eq_true e3
    rw [if_pos e3] at hV2
    have q5 : tapeOk zs (rawN zs n) ∧ (6 : Int) ≤ 4611686018427387904 := ⟨h2, by decide⟩
    have q6 : 0 ≤ modV (rawV zs (rawN zs n)) 6 ∧ modV (rawV zs (rawN zs n)) 6 < ((6 : Nat) : Int) := ⟨modV_nonneg _ _, modV_lt _ _ (by decide)⟩
    repeat ((conv => whnf); refine ⟨by first | exact q5 | exact q6 | (unfold inI64; omega) | omega | exact ⟨by omega, by omega⟩ | exact rfl | decide +kernel, ?_⟩)
    conv => whnf
    subst hV2
    exact ends_eq ⟨rfl, rfl⟩
  have e3 : ¬ k = 3 := of_decide_eq_false e3
  rw [if_neg e3] at hV2
  repeat ((conv => whnf); refine ⟨by first | (unfold inI64; omega) | omega | exact ⟨by omega, by omega⟩ | exact rfl | decide +kernel, ?_⟩)
  conv => whnf
  refine cond_intro (fun e4 => ?_) (fun e4 => ?_)
  · have e4 : k = 4 := of_decide_eq_true e4
    rw [if_pos e4] at hV2
    repeat ((conv => whnf); refine ⟨by first | (unfold inI64; omega) | omega | exact ⟨by omega, by omega⟩ | exact rfl | decide +kernel, ?_⟩)
    conv => whnf
    subst hV2
    exact ends_eq ⟨rfl, rfl⟩
  have e4 : ¬ k = 4 := of_decide_eq_false e4
  rw [if_neg e4] at hV2
  have q7 : tapeOk zs (rawN zs n) ∧ (9 : Int) ≤ 4611686018427387904 := ⟨h2, by decide⟩
  have r3 := modV_nonneg (rawV zs (rawN zs n)) 9
  have r4 := modV_lt (rawV zs (rawN zs n)) 9 (by decide)
  repeat ((conv => whnf); refine ⟨by first | exact q7 | (unfold inI64; omega) | omega | exact ⟨by omega, by omega⟩ | exact rfl | decide +kernel, ?_⟩)
  conv => whnf
  refine loop_weak (σ := Nat × Int × Int × List Int) (fun ⟨_, c, _, l⟩ => [(0, XV.s (.a (.c (.ptr 0 0)))), (2, XV.s .none), (3, XV.s .none), (4, XV.s .none), (5, XV.s (.a (.c (.own 1 (.int .u8) l)))), (6, XV.s (.int .i64 c)), (8, XV.s .none), (9, XV.s .none), (11, XV.s .none), (17, XV.s .none), (27, XV.s .none), (34, XV.s .none), (39, XV.s .none)])
    (fun ⟨_, _, x, l⟩ => [tapeO zs x, .tok 5 (.int .u8) l.length true]) (fun ⟨m, c, x, l⟩ => c = (m : Nat) ∧ tapeOk zs x ∧ l.length + m ≤ 9 ∧ bytGo zs (modV (rawV zs (rawN zs n)) 9).toNat (rawN zs (rawN zs n)) [] = bytGo zs m x l) (fun ⟨m, _, _, _⟩ => m) ((modV (rawV zs (rawN zs n)) 9).toNat, modV (rawV zs (rawN zs n)) 9, rawN zs (rawN zs n), []) ?_ ⟨by omega, h3, by show 0 + (modV (rawV zs (rawN zs n)) 9).toNat ≤ 9; omega, rfl⟩ ?_
  · refine Weak.own 5 ?_
    repeat (first | exact OwnL.nil | refine OwnL.drop ?_ | refine OwnL.same ?_ | refine OwnL.own ?_)
  rintro ⟨m, c, x, l⟩ ⟨hc, hx, hl, hgo⟩
  repeat ((conv => whnf); refine ⟨by first | (unfold inI64; omega) | omega | exact ⟨by omega, by omega⟩ | exact rfl | decide +kernel, ?_⟩)
  conv => whnf
  refine cond_intro (fun hz => ?_) (fun hz => ?_)
  · have hz : 0 < c := of_decide_eq_true hz
    obtain ⟨m, rfl⟩ : ∃ q, m = q + 1 := ⟨m - 1, by omega⟩
    have hx2 := rawN_ok9 hx
    have hcap : l.length + 1 ≤ capBound := Nat.le_trans (m := 1000) (by omega) (by decide)
    have hc1 : inI64 (c - 1) := by unfold inI64; omega
    have hll : l.length + 1 = (l ++ [bytV zs x]).length := by rw [List.length_append]; rfl
    have q8 : tapeOk zs x ∧ (256 : Int) ≤ 4611686018427387904 := ⟨hx, by decide⟩
    have q9 : tapeOk zs (rawN zs x) ∧ 1 ≤ 5 ∧ 5 ≤ 1000 := ⟨hx2, by decide, by decide⟩
    repeat ((conv => whnf); refine ⟨by first | exact q8 | exact q9 | exact hcap | exact hc1 | (unfold inI64; omega) | omega | exact ⟨by omega, by omega⟩ | exact rfl | decide +kernel, ?_⟩)
    conv => whnf
    refine head_keep (m, c - 1, rawN zs (rawN zs x), l ++ [bytV zs x]) [0, 1] rfl id2' ?_ ?_ ⟨by omega, rawN_ok9 hx2, by rw [← hll]; omega, hgo⟩ (Nat.lt_succ_self m)
    · show some [AO.row _, AO.tok _ _ (l.length + 1) true] = some [AO.row _, AO.tok _ _ (l ++ [bytV zs x]).length true]
      rw [hll]
    · repeat (first | exact KeepL.nil | refine KeepL.drop ?_ | refine KeepL.ren rfl ?_)
  have hz : ¬ 0 < c := of_decide_eq_false hz
  obtain rfl : m = 0 := by omega
  have hgo : bytGo zs (modV (rawV zs (rawN zs n)) 9).toNat (rawN zs (rawN zs n)) [] = (l, x) := hgo
  rw [hgo] at hV2
  repeat ((conv => whnf); refine ⟨by first | (unfold inI64; omega) | omega | exact ⟨by omega, by omega⟩ | exact rfl | decide +kernel, ?_⟩)
  conv => whnf
  subst hV2
  exact ends_eq ⟨rfl, rfl⟩

/-- A slice in a cell that is appended to no more. -/
theorem Weak.frz {n m : Nat} {e : Env} {H : List AO} (id : Nat) {cs : List AC} (ho : H[id]? = some (.row cs)) (k : Nat) {j : Nat} {c : CT} {zs : List c.den} (hk : cs[k]? = some (.own j c zs)) :
    Weak n m e H e (H.set id (.row (cs.set k (.p (.l c zs))))) := fun G0 G a hx0 hm hS hH hE => by
  subst hH
  obtain ⟨G', hw, hx, hS', hH'⟩ := set_cell hS ho k (.p (.l c zs)) fun vs T v h1 h2 => by
    obtain ⟨vs', T', hheap, _, hall⟩ := hS.objs id _ ho trivial
    rw [hheap] at h1
    cases h1
    have hv := all2_get' hall hk h2
    exact hv.1
  exact ⟨G', hw, hx0.trans hx, hS', hH', fun u => RepX.mono hx (hE.get u), hE.size, hE.defers⟩

def stGo (zs : List Int) : Nat → Int → List Nd → List Nd × Int
  | 0, n, ns => (ns, n)
  | m + 1, n, ns => stGo zs m (rawN zs (nm2 zs n)) (gsV zs n ns)
def slR (zs : List Int) (n : Int) (ns : List Nd) : List Nd × Int := rSetV (ns, gpV zs n ns, pickS propL zs (nm2 zs n), (valV zs (rawN zs (nm2 zs n))).1)
def slV (zs : List Int) (n : Int) (ns : List Nd) : List Nd := if (slR zs n ns).2 = 0 then (slR zs n ns).1 else ns
def slGo (zs : List Int) : Nat → Int → List Nd → List Nd × Int
  | 0, n, ns => (ns, n)
  | m + 1, n, ns => slGo zs m (valV zs (rawN zs (nm2 zs n))).2 (slV zs n ns)
def grA (zs : List Int) (n k : Int) : List Nd × Int := stGo zs (modV (rawV zs n) (k + 1)).toNat (rawN zs n) rtL
def grV (zs : List Int) (n k : Int) : List Nd × Int := slGo zs (modV (rawV zs (grA zs n k).2) (2 * k + 1)).toNat (rawN zs (grA zs n k).2) (grA zs n k).1

theorem num_ok (zs : List Int) : ∀ m n l, tapeOk zs n → tapeOk zs (numGo zs m n l).2 := by
  intro m
  induction m with
  | zero => intro n l h; exact h
  | succ m ih => intro n l h; exact ih _ _ (tnN_ok9 h)
theorem byt_ok (zs : List Int) : ∀ m n l, tapeOk zs n → tapeOk zs (bytGo zs m n l).2 := by
  intro m
  induction m with
  | zero => intro n l h; exact h
  | succ m ih => intro n l h; exact ih _ _ (rawN_ok9 (rawN_ok9 h))
theorem val_ok {zs : List Int} {n : Int} (h : tapeOk zs n) : tapeOk zs (valV zs n).2 := by
  have h2 := rawN_ok9 h
  have h3 := rawN_ok9 h2
  unfold valV
  split
  · exact h2
  · split
    · exact num_ok _ _ _ _ h3
    · split
      · exact h3
      · split
        · exact h2
        · exact byt_ok _ _ _ _ h3
theorem srt_len {ns : List Nd} (hf : FrmT ns) : (srtV ns).length ≤ ns.length := by
  unfold srtV
  rw [List.length_map]
  exact wk_length hf 120 (i := 0) hf.len.1
theorem add_len {a : List Nd × ByteArray × ByteArray} : (rAddV a).1.length ≤ 120 := by
  unfold rAddV
  split
  · exact Nat.zero_le _
  · rename_i h1
    split
    · exact Nat.zero_le _
    · rename_i h2
      split
      · exact Nat.zero_le _
      · split
        · exact Nat.zero_le _
        · split
          · exact Nat.zero_le _
          · rename_i h5
            have hb : (begV (a.1, a.2.1)).2 = 0 := Classical.not_not.1 h1
            obtain ⟨hf, h6, h7⟩ := beg_ok hb
            have hfa := frm_app hf h6 h7 (show namB a.2.2 = true by simpa using h2) (by omega)
            exact Nat.le_trans (srt_len hfa) hfa.len.2
theorem gs_len {zs : List Int} {n : Int} {ns : List Nd} (h : ns.length ≤ 1000) : (gsV zs n ns).length ≤ 1000 := by
  unfold gsV
  split
  · exact Nat.le_trans add_len (by decide)
  · exact h
theorem set_leq (a : List Nd × ByteArray × ByteArray × ByteArray) : (rSetV a).1.length ≤ a.1.length := by
  unfold rSetV
  split
  · exact Nat.zero_le _
  · split
    · exact Nat.zero_le _
    · split
      · exact Nat.zero_le _
      · show (setN _ _ _ _).length ≤ _
        unfold setN
        rw [List.length_set]
        exact Nat.le_refl _
theorem sl_len {zs : List Int} {n : Int} {ns : List Nd} (h : ns.length ≤ 1000) : (slV zs n ns).length ≤ 1000 := by
  unfold slV
  split
  · exact Nat.le_trans (set_leq _) h
  · exact h
def saysGr : Says := fun args H => match args, H with
  | [.c (.ptr 0 0), .c (.p (.v (.int .i64 k)))], [.row [.p (.l (.int .i64) zs), .p (.v (.int .i64 n))]] => some (some (tapeOk zs n ∧ 0 ≤ k ∧ k ≤ 100), .a (.agg [.p (.l ndC (grV zs n k).1)]), [tapeO zs (grV zs n k).2])
  | _, _ => none
def C29 : Table := ext C28 8 saysGr
theorem c29 : TSound Try.prog C29 := by
  refine ext_run c28 (f := 8) (fn := Try.f8) rfl rfl [0, 1, 4, 5, 6, 7, 8, 9, 18, 30, 46] fun args H p r' H' hs hp => ?_
  unfold saysGr at hs
  split at hs
  · rename_i k zs n
    cases hs
    obtain ⟨h1, hk0, hk1⟩ := hp
    have h2 := rawN_ok9 h1
    refine ⟨Nat.le_of_ble_eq_true rfl, [0], rfl, id0, ?_⟩
    obtain ⟨R, hR⟩ : ∃ R, grV zs n k = R := ⟨_, rfl⟩
    rw [hR]
    unfold grV at hR
    have q1 : tapeOk zs n ∧ k + 1 ≤ 4611686018427387904 := ⟨h1, by omega⟩
    have r1 := modV_nonneg (rawV zs n) (k + 1)
    have r2 := modV_lt (rawV zs n) (k + 1) (by omega)
    have o1 : inI64 (k + 1) := by unfold inI64; omega
    repeat ((conv => whnf); refine ⟨by first | exact q1 | exact o1 | (unfold inI64; omega) | omega | exact ⟨by omega, by omega⟩ | exact rfl | decide +kernel, ?_⟩)
    conv => whnf
    refine loop_weak (σ := Nat × Int × Int × List Nd) (fun ⟨_, c, _, _⟩ => [(0, XV.s (.a (.c (.ptr 0 0)))), (1, XV.s (.int .i64 k)), (4, XV.s (.a (.c (.ptr 1 0)))), (5, XV.s (.a (.c (.ptr 3 0)))), (6, XV.s (.int .i64 c)), (7, XV.s .none), (8, XV.s .none), (9, XV.s .none), (18, XV.s .none), (30, XV.s .none), (46, XV.s .none)])
      (fun ⟨_, _, x, ns⟩ => [tapeO zs x, .row [.p (.v (.slice none 0 0))], .tok ndT ndC 1 false, .row [.p (.l ndC ns)]]) (fun ⟨m, c, x, ns⟩ => (c = (m : Nat) ∧ (m : Int) ≤ 1000) ∧ tapeOk zs x ∧ ns.length ≤ 1000 ∧ grA zs n k = stGo zs m x ns) (fun ⟨m, _, _, _⟩ => m) ((modV (rawV zs n) (k + 1)).toNat, modV (rawV zs n) (k + 1), rawN zs n, rtL) ?_ ⟨⟨by omega, by omega⟩, h2, by decide, rfl⟩ ?_
    · refine (Weak.frz 3 rfl 0 rfl).trans (Weak.le _ ?_)
      repeat (first | exact LeL.nil | refine LeL.drop ?_ | refine LeL.same ?_)
    rintro ⟨m, c, x, ns⟩ ⟨⟨hc, hmb⟩, hx, hl, hgo⟩
    repeat ((conv => whnf); refine ⟨by first | (unfold inI64; omega) | omega | exact ⟨by omega, by omega⟩ | exact rfl | decide +kernel, ?_⟩)
    conv => whnf
    refine cond_intro (fun hz => ?_) (fun hz => ?_)
    · have hz : 0 < c := of_decide_eq_true hz
      obtain ⟨m, rfl⟩ : ∃ q, m = q + 1 := ⟨m - 1, by omega⟩
      have hc1 : inI64 (c - 1) := by unfold inI64; omega
      have hpre : ([.c (.ptr 0 0), .agg [.p (.l ndC ns)]] : List AV) = [.c (.ptr 0 0), .agg [.p (.l ndC ns)]] ∧ tapeOk zs x ∧ ns.length ≤ 1000000000 := ⟨rfl, hx, by omega⟩
      repeat ((conv => whnf); refine ⟨by first | exact hpre | exact hc1 | (unfold inI64; omega) | omega | exact ⟨by omega, by omega⟩ | exact rfl | decide +kernel, ?_⟩)
      conv => whnf
      refine head_keep (m, c - 1, rawN zs (nm2 zs x), gsV zs x ns) [0, 1, 2, 3] rfl id4 rfl ?_ ⟨⟨by omega, by omega⟩, rawN_ok9 (rawN_ok9 (rawN_ok9 hx)), gs_len hl, hgo⟩ (Nat.lt_succ_self m)
      repeat (first | exact KeepL.nil | refine KeepL.drop ?_ | refine KeepL.ren rfl ?_)
    have hz : ¬ 0 < c := of_decide_eq_false hz
    obtain rfl : m = 0 := by omega
    have hgo : grA zs n k = (ns, x) := hgo
    rw [hgo] at hR
    have hR : slGo zs (modV (rawV zs x) (2 * k + 1)).toNat (rawN zs x) ns = R := hR
    have q2 : tapeOk zs x ∧ 2 * k + 1 ≤ 4611686018427387904 := ⟨hx, by omega⟩
    have r3 := modV_nonneg (rawV zs x) (2 * k + 1)
    have r4 := modV_lt (rawV zs x) (2 * k + 1) (by omega)
    have o2 : inI64 (2 * k) := by unfold inI64; omega
    have o3 : inI64 (2 * k + 1) := by unfold inI64; omega
    repeat ((conv => whnf); refine ⟨by first | exact q2 | exact o2 | exact o3 | (unfold inI64; omega) | omega | exact ⟨by omega, by omega⟩ | exact rfl | decide +kernel, ?_⟩)
    conv => whnf
    refine loop_intro (σ := Nat × Int × Int × List Nd) (fun ⟨_, c, _, _⟩ => [(0, XV.s (.a (.c (.ptr 0 0)))), (1, XV.s (.int .i64 k)), (4, XV.s (.a (.c (.ptr 1 0)))), (5, XV.s (.a (.c (.ptr 3 0)))), (6, XV.s .none), (7, XV.s (.int .i64 c)), (8, XV.s .none), (9, XV.s .none), (18, XV.s .none), (30, XV.s .none), (46, XV.s .none)])
      (fun ⟨_, _, x, ns⟩ => [tapeO zs x, .row [.p (.v (.slice none 0 0))], .tok ndT ndC 1 false, .row [.p (.l ndC ns)]]) (fun ⟨m, c, x, ns⟩ => (c = (m : Nat) ∧ (m : Int) ≤ 1000) ∧ tapeOk zs x ∧ ns.length ≤ 1000 ∧ R = slGo zs m x ns) (fun ⟨m, _, _, _⟩ => m) ((modV (rawV zs x) (2 * k + 1)).toNat, modV (rawV zs x) (2 * k + 1), rawN zs x, ns) ?_ rfl ⟨⟨by omega, by omega⟩, rawN_ok9 hx, hl, hR.symm⟩ ?_
    · repeat (first | exact LeL.nil | refine LeL.drop ?_ | refine LeL.same ?_)
    clear hR hgo hx hl r3 r4 q2
    rintro ⟨m, c, x, ns⟩ ⟨⟨hc, hmb⟩, hx, hl, hgo⟩
    repeat ((conv => whnf); refine ⟨by first | (unfold inI64; omega) | omega | exact ⟨by omega, by omega⟩ | exact rfl | decide +kernel, ?_⟩)
    conv => whnf
    refine cond_intro (fun hz2 => ?_) (fun hz2 => ?_)
    · have hz2 : 0 < c := of_decide_eq_true hz2
      obtain ⟨m, rfl⟩ : ∃ q, m = q + 1 := ⟨m - 1, by omega⟩
      have hc1 : inI64 (c - 1) := by unfold inI64; omega
      have hx2 : tapeOk zs (nm2 zs x) := rawN_ok9 (rawN_ok9 hx)
      have hx3 := rawN_ok9 hx2
      have hx4 := val_ok hx3
      have hpre : ([.c (.ptr 0 0), .agg [.p (.l ndC ns)]] : List AV) = [.c (.ptr 0 0), .agg [.p (.l ndC ns)]] ∧ tapeOk zs x ∧ ns.length ≤ 1000000000 := ⟨rfl, hx, by omega⟩
      repeat ((conv => whnf); refine ⟨by first | exact hpre | exact hx2 | exact hx3 | exact hc1 | exact ⟨rfl, trivial⟩ | (repeat ((conv => whnf); refine ⟨by ((conv => whnf); first | exact ⟨rfl, rfl, rfl⟩ | exact ⟨rfl, rfl⟩ | exact ⟨by assumption, rfl, rfl, rfl⟩), ?_⟩)); ((conv => whnf); exact trivial) | ((conv => whnf); exact ⟨⟨rfl, rfl, rfl⟩, trivial⟩) | exact Early.one (by decide +kernel) (by (conv => whnf); exact ⟨rfl, rfl, rfl⟩) trivial | (unfold inI64; omega) | omega | exact ⟨by omega, by omega⟩ | exact rfl | decide +kernel, ?_⟩)
      conv => whnf
      refine cond_intro (fun h5 => ?_) (fun h5 => ?_)
      · have h6 : (slR zs x ns).2 = 0 := of_decide_eq_true h5
        have hgo2 : R = slGo zs m (valV zs (rawN zs (nm2 zs x))).2 (slR zs x ns).1 := by
          rw [hgo]
          show slGo zs m _ (slV zs x ns) = _
          rw [show slV zs x ns = (slR zs x ns).1 by unfold slV; rw [if_pos h6]]
        have hl2 : (slR zs x ns).1.length ≤ 1000 := Nat.le_trans (set_leq _) hl
        repeat ((conv => whnf); refine ⟨by first | exact hc1 | (unfold inI64; omega) | omega | exact ⟨by omega, by omega⟩ | exact rfl | decide +kernel, ?_⟩)
        conv => whnf
        refine head_keep (m, c - 1, (valV zs (rawN zs (nm2 zs x))).2, (slR zs x ns).1) [0, 1, 2, 3] rfl id4 rfl ?_ ⟨⟨by omega, by omega⟩, hx4, hl2, hgo2⟩ (Nat.lt_succ_self m)
        repeat (first | exact KeepL.nil | refine KeepL.drop ?_ | refine KeepL.ren rfl ?_)
      have h6 : ¬ (slR zs x ns).2 = 0 := of_decide_eq_false h5
      have hgo2 : R = slGo zs m (valV zs (rawN zs (nm2 zs x))).2 ns := by
        rw [hgo]
        show slGo zs m _ (slV zs x ns) = _
        rw [show slV zs x ns = ns by unfold slV; rw [if_neg h6]]
      repeat ((conv => whnf); refine ⟨by first | exact hc1 | (unfold inI64; omega) | omega | exact ⟨by omega, by omega⟩ | exact rfl | decide +kernel, ?_⟩)
      conv => whnf
      refine head_keep (m, c - 1, (valV zs (rawN zs (nm2 zs x))).2, ns) [0, 1, 2, 3] rfl id4 rfl ?_ ⟨⟨by omega, by omega⟩, hx4, hl, hgo2⟩ (Nat.lt_succ_self m)
      repeat (first | exact KeepL.nil | refine KeepL.drop ?_ | refine KeepL.ren rfl ?_)
    have hz2 : ¬ 0 < c := of_decide_eq_false hz2
    obtain rfl : m = 0 := by omega
    have hgo : R = (ns, x) := hgo
    repeat ((conv => whnf); refine ⟨by first | (unfold inI64; omega) | omega | exact ⟨by omega, by omega⟩ | exact rfl | decide +kernel, ?_⟩)
    conv => whnf
    rw [hgo]
    exact ends_eq ⟨rfl, rfl⟩
  · cases hs

theorem bs_irrefl : ∀ x : List UInt8, Op.bytesLess x x = false
  | [] => rfl
  | a :: x => by
    rw [Op.bytesLess, bs_irrefl x]
    simp
theorem bs_trans : ∀ x y z : List UInt8, Op.bytesLess x y = true → Op.bytesLess y z = true → Op.bytesLess x z = true
  | x, y, [], _, h => by
    cases y <;> cases h
  | x, [], c :: z, h, _ => by
    cases x <;> cases h
  | [], b :: y, c :: z, _, _ => rfl
  | a :: x, b :: y, c :: z, h, k => by
    have ih := bs_trans x y z
    simp only [Op.bytesLess, Bool.or_eq_true, Bool.and_eq_true, decide_eq_true_eq, beq_iff_eq] at h k ⊢
    rcases h with h | ⟨rfl, h⟩
    · rcases k with k | ⟨rfl, k⟩
      · exact .inl (UInt8.lt_trans h k)
      · exact .inl h
    · rcases k with k | ⟨rfl, k⟩
      · exact .inl k
      · exact .inr ⟨rfl, ih h k⟩
theorem bs_total : ∀ x y : List UInt8, Op.bytesLess x y = true ∨ x = y ∨ Op.bytesLess y x = true
  | [], [] => .inr (.inl rfl)
  | [], _ :: _ => .inl rfl
  | _ :: _, [] => .inr (.inr rfl)
  | a :: x, b :: y => by
    have ih := bs_total x y
    simp only [Op.bytesLess, Bool.or_eq_true, Bool.and_eq_true, decide_eq_true_eq, beq_iff_eq, List.cons.injEq]
    by_cases h1 : a < b
    · exact .inl (.inl h1)
    · by_cases h2 : b < a
      · exact .inr (.inr (.inl h2))
      · have hab : a = b := UInt8.le_antisymm (UInt8.not_lt.1 h2) (UInt8.not_lt.1 h1)
        subst hab
        rcases ih with h | h | h
        · exact .inl (.inr ⟨rfl, h⟩)
        · exact .inr (.inl ⟨rfl, h⟩)
        · exact .inr (.inr (.inr ⟨rfl, h⟩))
theorem ba_ext {a b : ByteArray} (h : a.toList = b.toList) : a = b := by
  rw [Lib.toList_data, Lib.toList_data] at h
  obtain ⟨⟨l⟩⟩ := a
  obtain ⟨⟨m⟩⟩ := b
  obtain rfl : l = m := h
  rfl
theorem bLt_irrefl (a : ByteArray) : bLt a a = false := bs_irrefl _
theorem bLt_trans {a b c : ByteArray} (h : bLt a b = true) (k : bLt b c = true) : bLt a c = true := bs_trans _ _ _ h k
theorem bLe_iff {a b : ByteArray} : bLe a b = true ↔ bLt a b = true ∨ a = b := by
  unfold bLe bLt
  rw [Bool.or_eq_true, decide_eq_true_eq]
theorem bLe_total {a b : ByteArray} (h : bLe a b = false) : bLt b a = true := by
  rcases bs_total a.toList b.toList with h1 | h1 | h1
  · have : bLe a b = true := bLe_iff.2 (.inl h1)
    rw [h] at this
    cases this
  · have : bLe a b = true := bLe_iff.2 (.inr (ba_ext h1))
    rw [h] at this
    cases this
  · exact h1
theorem bLe_trans {a b c : ByteArray} (h : bLe a b = true) (k : bLe b c = true) : bLe a c = true := by
  rcases bLe_iff.1 h with h | rfl
  · rcases bLe_iff.1 k with k | rfl
    · exact bLe_iff.2 (.inl (bLt_trans h k))
    · exact bLe_iff.2 (.inl h)
  · exact k

/-- The name of a node. -/
def nmI (ns : List Nd) (c : Int) : ByteArray := (ndAt ns c.toNat).2.1
def SrtC (ns : List Nd) (cs : List Int) : Prop := cs.Pairwise fun a b => bLe (nmI ns a) (nmI ns b) = true
theorem pos_take {ns : List Nd} {nm : ByteArray} : ∀ (cs : List Int), ∀ c ∈ cs.take (posC ns nm cs), bLe (nmI ns c) nm = true := by
  intro cs
  induction cs with
  | nil => intro c hc; cases hc
  | cons a r ih =>
    intro c hc
    unfold posC at hc
    split at hc
    · rename_i h
      rw [List.take_succ_cons] at hc
      rcases List.mem_cons.1 hc with rfl | hc
      · exact h
      · exact ih c hc
    · cases hc
theorem pos_drop {ns : List Nd} {nm : ByteArray} : ∀ (cs : List Int), SrtC ns cs → ∀ c ∈ cs.drop (posC ns nm cs), bLe nm (nmI ns c) = true := by
  intro cs
  induction cs with
  | nil => intro _ c hc; cases hc
  | cons a r ih =>
    intro hs c hc
    obtain ⟨h1, h2⟩ := List.pairwise_cons.1 hs
    unfold posC at hc
    split at hc
    · exact ih h2 c (by simpa using hc)
    · rename_i h
      have ha : bLe nm (nmI ns a) = true := bLe_iff.2 (.inl (bLe_total (Bool.eq_false_iff.2 h)))
      rcases List.mem_cons.1 hc with rfl | hc
      · exact ha
      · exact bLe_trans ha (h1 c hc)
theorem insC_srt {ns : List Nd} {i : Nat} {cs : List Int} (h : SrtC ns cs) : SrtC ns (insC ns i cs) := by
  unfold insC SrtC
  have hn : nmI ns (i : Int) = (ndAt ns i).2.1 := rfl
  have h0 : (cs.take (posC ns (ndAt ns i).2.1 cs) ++ cs.drop (posC ns (ndAt ns i).2.1 cs)).Pairwise fun a b => bLe (nmI ns a) (nmI ns b) = true := by rw [List.take_append_drop]; exact h
  rw [List.pairwise_append] at h0 ⊢
  refine ⟨h0.1, List.pairwise_cons.2 ⟨fun c hc => ?_, h0.2.1⟩, fun a ha b hb => ?_⟩
  · rw [hn]
    exact pos_drop cs h c hc
  · rcases List.mem_cons.1 hb with rfl | hb
    · rw [hn]
      exact pos_take cs a ha
    · exact h0.2.2 a ha b hb
theorem chGo_srt (ns : List Nd) (node : Int) : ∀ (m i : Nat) (cs : List Int), SrtC ns cs → SrtC ns (chGo ns node m i cs) := by
  intro m
  induction m with
  | zero => intro i cs h; exact h
  | succ m ih =>
    intro i cs h
    unfold chGo
    refine ih _ _ ?_
    split
    · exact insC_srt h
    · exact h
theorem chS_srt (ns : List Nd) (node : Int) : SrtC ns (chS ns node) := chGo_srt ns node _ _ _ List.Pairwise.nil

/-! One node after another in a walk. -/
/-- The next one is a child, or the next child of a node above. -/
def Nx (ns : List Nd) (a b : Nat) : Prop := paN ns b = a ∨ ∃ t, 0 < upN ns t a ∧ paN ns (upN ns t a) = paN ns b ∧ bLt (ndAt ns (upN ns t a)).2.1 (ndAt ns b).2.1 = true
def ChN (ns : List Nd) : List Int → Prop
  | [] => True
  | [_] => True
  | a :: b :: r => Nx ns a.toNat b.toNat ∧ ChN ns (b :: r)
theorem chn_app {ns : List Nd} : ∀ (l m : List Int), ChN ns l → ChN ns m → (∀ a b, a ∈ l → m.head? = some b → Nx ns a.toNat b.toNat) → ChN ns (l ++ m) := by
  intro l
  induction l with
  | nil => intro m _ h _; exact h
  | cons a l ih =>
    intro m hl hm hx
    cases l with
    | nil =>
      cases m with
      | nil => trivial
      | cons b m => exact ⟨hx a b (List.mem_cons_self ..) rfl, hm⟩
    | cons c l => exact ⟨hl.1, ih m hl.2 hm fun x b h1 h2 => hx x b (List.mem_cons_of_mem _ h1) h2⟩
/-- No two children of a node have one name. -/
def Dst (ns : List Nd) : Prop := ∀ a b, 0 < a → a < ns.length → 0 < b → b < ns.length → paN ns a = paN ns b → (ndAt ns a).2.1 = (ndAt ns b).2.1 → a = b
theorem chS_strict {ns : List Nd} (hf : FrmT ns) (hd : Dst ns) (i : Nat) : (chS ns (i : Int)).Pairwise fun a b => bLt (nmI ns a) (nmI ns b) = true := by
  refine List.Pairwise.imp_of_mem (fun {a b} ha hb h => ?_) ((chS_srt ns (i : Int)).and (chS_nodup ns (i : Int)))
  obtain ⟨h1, h2⟩ := h
  rcases bLe_iff.1 h1 with h3 | h3
  · exact h3
  · exfalso
    obtain ⟨x, rfl, x1, x2, x3⟩ := chS_mem ha
    obtain ⟨y, rfl, y1, y2, y3⟩ := chS_mem hb
    have e1 := (par_lt hf.par x1 x2).2
    have e2 := (par_lt hf.par y1 y2).2
    rw [x3] at e1
    rw [y3] at e2
    exact h2 (by rw [hd x y x1 x2 y1 y2 (by omega) h3])
theorem wk_head (ns : List Nd) (k : Nat) (c : Int) : (wk (k + 1) ns c).head? = some c := rfl
theorem wk_chain {ns : List Nd} (hf : FrmT ns) (hd : Dst ns) : ∀ k (i : Nat), i < ns.length → ns.length - i ≤ k → ChN ns (wk k ns (i : Int)) := by
  intro k
  induction k with
  | zero => intro i hi hk; omega
  | succ k ih =>
    intro i hi hk
    have hch : ∀ c ∈ chS ns (i : Int), ∃ j : Nat, c = (j : Int) ∧ 0 < j ∧ j < ns.length ∧ paN ns j = i := by
      intro c hc
      obtain ⟨j, e1, e2, e3, e4⟩ := chS_mem hc
      have h5 := (par_lt hf.par e2 e3).2
      rw [e4] at h5
      exact ⟨j, e1, e2, e3, by omega⟩
    have main : ∀ cs : List Int, (∀ c ∈ cs, ∃ j : Nat, c = (j : Int) ∧ 0 < j ∧ j < ns.length ∧ paN ns j = i) → cs.Pairwise (fun a b => bLt (nmI ns a) (nmI ns b) = true) → ChN ns (cs.flatMap fun c => wk k ns c) ∧ ∀ b, (cs.flatMap fun c => wk k ns c).head? = some b → b ∈ cs := by
      intro cs
      induction cs with
      | nil => intro _ _; exact ⟨trivial, fun b hb => by cases hb⟩
      | cons c cs ihc =>
        intro hc hs
        obtain ⟨h1, h2⟩ := List.pairwise_cons.1 hs
        obtain ⟨h3, h4⟩ := ihc (fun x hx => hc x (List.mem_cons_of_mem _ hx)) h2
        obtain ⟨j, rfl, j1, j2, j3⟩ := hc c (List.mem_cons_self ..)
        have hji := (par_lt hf.par j1 j2).1
        obtain ⟨k, rfl⟩ : ∃ q, k = q + 1 := ⟨k - 1, by omega⟩
        rw [List.flatMap_cons]
        refine ⟨chn_app _ _ (ih j j2 (by omega)) h3 fun a b ha hb => ?_, fun b hb => ?_⟩
        · obtain ⟨x, t, rfl, x1, x2⟩ := wk_mem hf (k + 1) j j2 a ha
          have hbm := h4 b hb
          obtain ⟨y, rfl, y1, y2, y3⟩ := hc b (List.mem_cons_of_mem _ hbm)
          refine .inr ⟨t, ?_, ?_, ?_⟩
          · show 0 < upN ns t x
            omega
          · show paN ns (upN ns t x) = paN ns y
            rw [x2, j3, y3]
          · show bLt (ndAt ns (upN ns t x)).2.1 (ndAt ns y).2.1 = true
            rw [x2]
            exact h1 _ hbm
        · have e : (wk (k + 1) ns (j : Int) ++ cs.flatMap fun c => wk (k + 1) ns c).head? = some (j : Int) := rfl
          rw [e] at hb
          cases hb
          exact List.mem_cons_self ..
    obtain ⟨h1, h2⟩ := main _ hch (chS_strict hf hd i)
    show ChN ns ([(i : Int)] ++ (chS ns (i : Int)).flatMap fun c => wk k ns c)
    refine chn_app _ _ trivial h1 fun a b ha hb => ?_
    obtain rfl : a = (i : Int) := by simpa using ha
    obtain ⟨j, rfl, j1, j2, j3⟩ := hch b (h2 b hb)
    exact .inl j3
end Go.Ab
