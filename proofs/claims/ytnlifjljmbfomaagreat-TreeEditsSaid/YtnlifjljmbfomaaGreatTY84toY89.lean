/- Trees that are grown. -/
import Derived.Test.YtnlifjljmbfomaaGreatTY80toY83
namespace Go.Ab
open Go.Proofs
set_option linter.unusedSectionVars false
set_option maxRecDepth 100000
variable [Base]
theorem Weak.frz {n m : Nat} {e : Env} {H : List AO} (id : Nat) {cs : List AC} (ho : H[id]? = some (.row cs)) (k : Nat) {j : Nat} {c : CT} {zs : List c.den} (hk : cs[k]? = some (.own j c zs)) :
  Weak n m e H e (H.set id (.row (cs.set k (.p (.l c zs))))) := fun G0 G a hx0 hm hS hH hE => by
 subst hH
 obtain ⟨G', hw, hx, hS', hH'⟩ := set_cell hS ho k (.p (.l c zs)) fun vs T v h1 h2 => by
  obtain ⟨vs', T', hheap, _, hall⟩ := hS.objs id _ ho trivial
  rw [hheap] at h1
  cases h1
  have hv := all2_get' hall hk h2
  exact hv.1
 exact ⟨G', hw, hx0.trans hx, hS', hH', fun u => RepX.mono hx (hE.get u), hE.size, hE.defers⟩
def stGo (zs : List Int) : Nat → Int → List Nd → List Nd × Int
 | 0, n, ns => (ns, n)
 | m + 1, n, ns => stGo zs m (rawN zs (nm2 zs n)) (gsV zs n ns)
def slR (zs : List Int) (n : Int) (ns : List Nd) : List Nd × Int := rSetV (ns, gpV zs n ns, pickS propL zs (nm2 zs n), (valV zs (rawN zs (nm2 zs n))).1)
def slV (zs : List Int) (n : Int) (ns : List Nd) : List Nd := if (slR zs n ns).2 = 0 then (slR zs n ns).1 else ns
def slGo (zs : List Int) : Nat → Int → List Nd → List Nd × Int
 | 0, n, ns => (ns, n)
 | m + 1, n, ns => slGo zs m (valV zs (rawN zs (nm2 zs n))).2 (slV zs n ns)
def grA (zs : List Int) (n k : Int) : List Nd × Int := stGo zs (modV (rawV zs n) (k + 1)).toNat (rawN zs n) rtL
def grV (zs : List Int) (n k : Int) : List Nd × Int := slGo zs (modV (rawV zs (grA zs n k).2) (2 * k + 1)).toNat (rawN zs (grA zs n k).2) (grA zs n k).1
theorem num_ok (zs : List Int) : ∀ m n l, tapeOk zs n → tapeOk zs (numGo zs m n l).2 := by
 intro m
 induction m with
 | zero => intro n l h; exact h
 | succ m ih => intro n l h; exact ih _ _ (tnN_ok9 h)
theorem byt_ok (zs : List Int) : ∀ m n l, tapeOk zs n → tapeOk zs (bytGo zs m n l).2 := by
 intro m
 induction m with
 | zero => intro n l h; exact h
 | succ m ih => intro n l h; exact ih _ _ (rawN_ok9 (rawN_ok9 h))
theorem val_ok {zs : List Int} {n : Int} (h : tapeOk zs n) : tapeOk zs (valV zs n).2 := by
 have h2 := rawN_ok9 h
 have h3 := rawN_ok9 h2
 unfold valV
 split
 ·exact h2
 ·split
  ·exact num_ok _ _ _ _ h3
  ·split
   ·exact h3
   ·split
    ·exact h2
    ·exact byt_ok _ _ _ _ h3
theorem srt_len {ns : List Nd} (hf : FrmT ns) : (srtV ns).length ≤ ns.length := by
 unfold srtV
 rw [List.length_map]
 exact wk_length hf 120 (i := 0) hf.len.1
theorem add_len {a : List Nd × ByteArray × ByteArray} : (rAddV a).1.length ≤ 120 := by
 unfold rAddV
 split
 ·exact nZ9 _
 ·rename_i h1
  split
  ·exact nZ9 _
  ·rename_i h2
   split
   ·exact nZ9 _
   ·split
    ·exact nZ9 _
    ·split
     ·exact nZ9 _
     ·rename_i h5
      have hb : (begV (a.1, a.2.1)).2 = 0 := Classical.not_not.1 h1
      obtain ⟨hf, h6, h7⟩ := beg_ok hb
      have hfa := frm_app hf h6 h7 (show namB a.2.2 = true by simpa using h2) (by omega)
      exact Nat.le_trans (srt_len hfa) hfa.len.2
theorem gs_len {zs : List Int} {n : Int} {ns : List Nd} (h : ns.length ≤ 1000) : (gsV zs n ns).length ≤ 1000 := by
 unfold gsV
 split
 ·exact Nat.le_trans add_len (by decide)
 ·exact h
theorem set_leq (a : List Nd × ByteArray × ByteArray × ByteArray) : (rSetV a).1.length ≤ a.1.length := by
 unfold rSetV
 split
 ·exact nZ9 _
 ·split
  ·exact nZ9 _
  ·split
   ·exact nZ9 _
   ·show (setN _ _ _ _).length ≤ _
    unfold setN
    rw [List.length_set]
    exact nR9 _
def saysGr : Says := fun args H => match args, H with
 | [.c (.ptr 0 0), .c (.p (.v (.int .i64 k)))], [.row [.p (.l (.int .i64) zs), .p (.v (.int .i64 n))]] => some (some (tapeOk zs n ∧ 0 ≤ k ∧ k ≤ 100), .a (.agg [.p (.l ndC (grV zs n k).1)]), [tapeO zs (grV zs n k).2])
 | _, _ => none
def C29 : Table := ext C28 11 saysGr
theorem c29 : TS9 C29 := by
 refine ext_run c28 (f := 11) (fn := Tryz.f11) rfl rfl [0, 1, 4, 5, 6, 7, 8, 9, 18, 30, 46] fun args H p r' H' hs hp => ?_
 unfold saysGr at hs
 split at hs
 ·rename_i k zs n
  cases hs
  obtain ⟨h1, hk0, hk1⟩ := hp
  have h2 := rawN_ok9 h1
  refine ⟨nB9 rfl, [0], rfl, id0, ?_⟩
  obtain ⟨R, hR⟩ : ∃ R, grV zs n k = R := ⟨_, rfl⟩
  rw [hR]
  unfold grV at hR
  have q1 : tapeOk zs n ∧ k + 1 ≤ 4611686018427387904 := ⟨h1, by omega⟩
  have r1 := mN9 (rawV zs n) (k + 1)
  have r2 := modV_lt (rawV zs n) (k + 1) (by omega)
  have o1 : inI64 (k + 1) := by unfold inI64; omega
  repeat ((conv => whnf); refine ⟨by first | exact q1 | exact o1 | (unfold inI64; omega) | omega | exact ⟨by omega, by omega⟩ | exact rfl | decide +kernel, ?_⟩)
  conv => whnf
  refine loop_weak (σ := Nat × Int × Int × List Nd) (fun ⟨_, c, _, _⟩ => [(0, XV.s (.a (.c (.ptr 0 0)))), (1, XV.s (.int .i64 k)), (4, XV.s (.a (.c (.ptr 1 0)))), (5, XV.s (.a (.c (.ptr 3 0)))), (6, XV.s (.int .i64 c)), (7, nX9), (8, nX9), (9, nX9), (18, nX9), (30, nX9), (46, nX9)])
   (fun ⟨_, _, x, ns⟩ => [tapeO zs x, .row [.p (.v (.slice none 0 0))], .tok ndT ndC 1 false, .row [.p (.l ndC ns)]]) (fun ⟨m, c, x, ns⟩ => (c = (m : Nat) ∧ (m : Int) ≤ 1000) ∧ tapeOk zs x ∧ ns.length ≤ 1000 ∧ grA zs n k = stGo zs m x ns) (fun ⟨m, _, _, _⟩ => m) ((modV (rawV zs n) (k + 1)).toNat, modV (rawV zs n) (k + 1), rawN zs n, rtL) ?_ ⟨⟨by omega, by omega⟩, h2, by decide, rfl⟩ ?_
  ·refine (Weak.frz 3 rfl 0 rfl).trans (Weak.le _ ?_)
   repeat first|exact lN9|refine lD9 ?_|refine lS9 ?_
  rintro ⟨m, c, x, ns⟩ ⟨⟨hc, hmb⟩, hx, hl, hgo⟩
  repeat ((conv => whnf); refine ⟨by first | (unfold inI64; omega) | omega | exact ⟨by omega, by omega⟩ | exact rfl | decide +kernel, ?_⟩)
  conv => whnf
  refine cI9 ?_ ?_<;>intro hz
  ·have hz : 0 < c := oT9 hz
   obtain ⟨m, rfl⟩ : ∃ q, m = q + 1 := ⟨m - 1, by omega⟩
   have hc1 : inI64 (c - 1) := by unfold inI64; omega
   have hpre : ([.c (.ptr 0 0), .agg [.p (.l ndC ns)]] : List AV) = [.c (.ptr 0 0), .agg [.p (.l ndC ns)]] ∧ tapeOk zs x ∧ ns.length ≤ 1000000000 := ⟨rfl, hx, by omega⟩
   repeat ((conv => whnf); refine ⟨by first | exact hpre | exact hc1 | (unfold inI64; omega) | omega | exact ⟨by omega, by omega⟩ | exact rfl | decide +kernel, ?_⟩)
   conv => whnf
   refine kI9 (m, c - 1, rawN zs (nm2 zs x), gsV zs x ns) [0, 1, 2, 3] rfl id4 rfl ?_ ⟨⟨by omega, by omega⟩, rawN_ok9 (rawN_ok9 (rawN_ok9 hx)), gs_len hl, hgo⟩ (nS9 m)
   repeat first|exact kN9|refine kD9 ?_|refine kR9 rfl ?_
  have hz : ¬ 0 < c := oF9 hz
  obtain rfl : m = 0 := by omega
  have hgo : grA zs n k = (ns, x) := hgo
  rw [hgo] at hR
  have hR : slGo zs (modV (rawV zs x) (2 * k + 1)).toNat (rawN zs x) ns = R := hR
  have q2 : tapeOk zs x ∧ 2 * k + 1 ≤ 4611686018427387904 := ⟨hx, by omega⟩
  have r3 := mN9 (rawV zs x) (2 * k + 1)
  have r4 := modV_lt (rawV zs x) (2 * k + 1) (by omega)
  have o2 : inI64 (2 * k) := by unfold inI64; omega
  have o3 : inI64 (2 * k + 1) := by unfold inI64; omega
  repeat ((conv => whnf); refine ⟨by first | exact q2 | exact o2 | exact o3 | (unfold inI64; omega) | omega | exact ⟨by omega, by omega⟩ | exact rfl | decide +kernel, ?_⟩)
  conv => whnf
  refine lI9 (σ := Nat × Int × Int × List Nd) (fun ⟨_, c, _, _⟩ => [(0, XV.s (.a (.c (.ptr 0 0)))), (1, XV.s (.int .i64 k)), (4, XV.s (.a (.c (.ptr 1 0)))), (5, XV.s (.a (.c (.ptr 3 0)))), (6, nX9), (7, XV.s (.int .i64 c)), (8, nX9), (9, nX9), (18, nX9), (30, nX9), (46, nX9)])
   (fun ⟨_, _, x, ns⟩ => [tapeO zs x, .row [.p (.v (.slice none 0 0))], .tok ndT ndC 1 false, .row [.p (.l ndC ns)]]) (fun ⟨m, c, x, ns⟩ => (c = (m : Nat) ∧ (m : Int) ≤ 1000) ∧ tapeOk zs x ∧ ns.length ≤ 1000 ∧ R = slGo zs m x ns) (fun ⟨m, _, _, _⟩ => m) ((modV (rawV zs x) (2 * k + 1)).toNat, modV (rawV zs x) (2 * k + 1), rawN zs x, ns) ?_ rfl ⟨⟨by omega, by omega⟩, rawN_ok9 hx, hl, hR.symm⟩ ?_
  ·repeat first|exact lN9|refine lD9 ?_|refine lS9 ?_
  clear hR hgo hx hl r3 r4 q2
  rintro ⟨m, c, x, ns⟩ ⟨⟨hc, hmb⟩, hx, hl, hgo⟩
  repeat ((conv => whnf); refine ⟨by first | (unfold inI64; omega) | omega | exact ⟨by omega, by omega⟩ | exact rfl | decide +kernel, ?_⟩)
  conv => whnf
  refine cI9 ?_ ?_<;>intro hz2
  ·have hz2 : 0 < c := oT9 hz2
   obtain ⟨m, rfl⟩ : ∃ q, m = q + 1 := ⟨m - 1, by omega⟩
   have hc1 : inI64 (c - 1) := by unfold inI64; omega
   have hx2 : tapeOk zs (nm2 zs x) := rawN_ok9 (rawN_ok9 hx)
   have hx3 := rawN_ok9 hx2
   have hx4 := val_ok hx3
   have hpre : ([.c (.ptr 0 0), .agg [.p (.l ndC ns)]] : List AV) = [.c (.ptr 0 0), .agg [.p (.l ndC ns)]] ∧ tapeOk zs x ∧ ns.length ≤ 1000000000 := ⟨rfl, hx, by omega⟩
   repeat ((conv => whnf); refine ⟨by first | exact hpre | exact hx2 | exact hx3 | exact hc1 | exact ⟨rfl, trivial⟩ | (repeat ((conv => whnf); refine ⟨by ((conv => whnf); first | exact ⟨rfl, rfl, rfl⟩ | exact ⟨rfl, rfl⟩ | exact ⟨by assumption, rfl, rfl, rfl⟩), ?_⟩)); ((conv => whnf); exact trivial) | ((conv => whnf); exact ⟨⟨rfl, rfl, rfl⟩, trivial⟩) | exact Early.one (by decide +kernel) (by (conv => whnf); exact ⟨rfl, rfl, rfl⟩) trivial | (unfold inI64; omega) | omega | exact ⟨by omega, by omega⟩ | exact rfl | decide +kernel, ?_⟩)
   conv => whnf
   refine cI9 ?_ ?_<;>intro h5
   ·have h6 : (slR zs x ns).2 = 0 := oT9 h5
    have hgo2 : R = slGo zs m (valV zs (rawN zs (nm2 zs x))).2 (slR zs x ns).1 := by
     rw [hgo]
     show slGo zs m _ (slV zs x ns) = _
     rw [show slV zs x ns = (slR zs x ns).1 by unfold slV; rw [if_pos h6]]
    have hl2 : (slR zs x ns).1.length ≤ 1000 := Nat.le_trans (set_leq _) hl
    repeat ((conv => whnf); refine ⟨by first | exact hc1 | (unfold inI64; omega) | omega | exact ⟨by omega, by omega⟩ | exact rfl | decide +kernel, ?_⟩)
    conv => whnf
    refine kI9 (m, c - 1, (valV zs (rawN zs (nm2 zs x))).2, (slR zs x ns).1) [0, 1, 2, 3] rfl id4 rfl ?_ ⟨⟨by omega, by omega⟩, hx4, hl2, hgo2⟩ (nS9 m)
    repeat first|exact kN9|refine kD9 ?_|refine kR9 rfl ?_
   have h6 : ¬ (slR zs x ns).2 = 0 := oF9 h5
   have hgo2 : R = slGo zs m (valV zs (rawN zs (nm2 zs x))).2 ns := by
    rw [hgo]
    show slGo zs m _ (slV zs x ns) = _
    rw [show slV zs x ns = ns by unfold slV; rw [if_neg h6]]
   repeat ((conv => whnf); refine ⟨by first | exact hc1 | (unfold inI64; omega) | omega | exact ⟨by omega, by omega⟩ | exact rfl | decide +kernel, ?_⟩)
   conv => whnf
   refine kI9 (m, c - 1, (valV zs (rawN zs (nm2 zs x))).2, ns) [0, 1, 2, 3] rfl id4 rfl ?_ ⟨⟨by omega, by omega⟩, hx4, hl, hgo2⟩ (nS9 m)
   repeat first|exact kN9|refine kD9 ?_|refine kR9 rfl ?_
  have hz2 : ¬ 0 < c := oF9 hz2
  obtain rfl : m = 0 := by omega
  have hgo : R = (ns, x) := hgo
  repeat ((conv => whnf); refine ⟨by first | (unfold inI64; omega) | omega | exact ⟨by omega, by omega⟩ | exact rfl | decide +kernel, ?_⟩)
  conv => whnf
  rw [hgo]
  exact eR9
 ·cases hs
theorem bs_irrefl : ∀ x : List UInt8, Op.bytesLess x x = false
 | [] => rfl
 | a :: x => by
  rw [Op.bytesLess, bs_irrefl x]
  simp
theorem bs_trans : ∀ x y z : List UInt8, Op.bytesLess x y = true → Op.bytesLess y z = true → Op.bytesLess x z = true
 | x, y, [], _, h => by
  cases y <;> cases h
 | x, [], c :: z, h, _ => by
  cases x <;> cases h
 | [], b :: y, c :: z, _, _ => rfl
 | a :: x, b :: y, c :: z, h, k => by
  have ih := bs_trans x y z
  simp only [Op.bytesLess, Bool.or_eq_true, Bool.and_eq_true, decide_eq_true_eq, beq_iff_eq] at h k ⊢
  rcases h with h | ⟨rfl, h⟩
  ·rcases k with k | ⟨rfl, k⟩
   ·exact .inl (UInt8.lt_trans h k)
   ·exact .inl h
  ·rcases k with k | ⟨rfl, k⟩
   ·exact .inl k
   ·exact .inr ⟨rfl, ih h k⟩
theorem bs_total : ∀ x y : List UInt8, Op.bytesLess x y = true ∨ x = y ∨ Op.bytesLess y x = true
 | [], [] => .inr (.inl rfl)
 | [], _ :: _ => .inl rfl
 | _ :: _, [] => .inr (.inr rfl)
 | a :: x, b :: y => by
  have ih := bs_total x y
  simp only [Op.bytesLess, Bool.or_eq_true, Bool.and_eq_true, decide_eq_true_eq, beq_iff_eq, List.cons.injEq]
  by_cases h1 : a < b
  ·exact .inl (.inl h1)
  ·by_cases h2 : b < a
   ·exact .inr (.inr (.inl h2))
   ·have hab : a = b := UInt8.le_antisymm (UInt8.not_lt.1 h2) (UInt8.not_lt.1 h1)
    subst hab
    rcases ih with h | h | h
    ·exact .inl (.inr ⟨rfl, h⟩)
    ·exact .inr (.inl ⟨rfl, h⟩)
    ·exact .inr (.inr (.inr ⟨rfl, h⟩))
theorem ba_ext {a b : ByteArray} (h : a.toList = b.toList) : a = b := by
 rw [Lib.toList_data, Lib.toList_data] at h
 obtain ⟨⟨l⟩⟩ := a
 obtain ⟨⟨m⟩⟩ := b
 obtain rfl : l = m := h
 rfl
theorem bLt_irrefl (a : ByteArray) : bLt a a = false := bs_irrefl _
theorem bLt_trans {a b c : ByteArray} (h : bLt a b = true) (k : bLt b c = true) : bLt a c = true := bs_trans _ _ _ h k
theorem bLe_iff {a b : ByteArray} : bLe a b = true ↔ bLt a b = true ∨ a = b := by
 unfold bLe bLt
 rw [Bool.or_eq_true, decide_eq_true_eq]
theorem bLe_total {a b : ByteArray} (h : bLe a b = false) : bLt b a = true := by
 rcases bs_total a.toList b.toList with h1 | h1 | h1
 ·have : bLe a b = true := bLe_iff.2 (.inl h1)
  rw [h] at this
  cases this
 ·have : bLe a b = true := bLe_iff.2 (.inr (ba_ext h1))
  rw [h] at this
  cases this
 ·exact h1
theorem bLe_trans {a b c : ByteArray} (h : bLe a b = true) (k : bLe b c = true) : bLe a c = true := by
 rcases bLe_iff.1 h with h | rfl
 ·rcases bLe_iff.1 k with k | rfl
  ·exact bLe_iff.2 (.inl (bLt_trans h k))
  ·exact bLe_iff.2 (.inl h)
 ·exact k
def nmI (ns : List Nd) (c : Int) : ByteArray := (ndAt ns c.toNat).2.1
def SrtC (ns : List Nd) (cs : List Int) : Prop := cs.Pairwise fun a b => bLe (nmI ns a) (nmI ns b) = true
theorem pos_take {ns : List Nd} {nm : ByteArray} : ∀ (cs : List Int), ∀ c ∈ cs.take (posC ns nm cs), bLe (nmI ns c) nm = true := by
 intro cs
 induction cs with
 | nil => intro c hc; cases hc
 | cons a r ih =>
  intro c hc
  unfold posC at hc
  split at hc
  ·rename_i h
   rw [List.take_succ_cons] at hc
   rcases List.mem_cons.1 hc with rfl | hc
   ·exact h
   ·exact ih c hc
  ·cases hc
theorem pos_drop {ns : List Nd} {nm : ByteArray} : ∀ (cs : List Int), SrtC ns cs → ∀ c ∈ cs.drop (posC ns nm cs), bLe nm (nmI ns c) = true := by
 intro cs
 induction cs with
 | nil => intro _ c hc; cases hc
 | cons a r ih =>
  intro hs c hc
  obtain ⟨h1, h2⟩ := List.pairwise_cons.1 hs
  unfold posC at hc
  split at hc
  ·exact ih h2 c (by simpa using hc)
  ·rename_i h
   have ha : bLe nm (nmI ns a) = true := bLe_iff.2 (.inl (bLe_total (Bool.eq_false_iff.2 h)))
   rcases List.mem_cons.1 hc with rfl | hc
   ·exact ha
   ·exact bLe_trans ha (h1 c hc)
theorem insC_srt {ns : List Nd} {i : Nat} {cs : List Int} (h : SrtC ns cs) : SrtC ns (insC ns i cs) := by
 unfold insC SrtC
 have hn : nmI ns (i : Int) = (ndAt ns i).2.1 := rfl
 have h0 : (cs.take (posC ns (ndAt ns i).2.1 cs) ++ cs.drop (posC ns (ndAt ns i).2.1 cs)).Pairwise fun a b => bLe (nmI ns a) (nmI ns b) = true := by rw [List.take_append_drop]; exact h
 rw [List.pairwise_append] at h0 ⊢
 refine ⟨h0.1, List.pairwise_cons.2 ⟨fun c hc => ?_, h0.2.1⟩, fun a ha b hb => ?_⟩
 ·rw [hn]
  exact pos_drop cs h c hc
 ·rcases List.mem_cons.1 hb with rfl | hb
  ·rw [hn]
   exact pos_take cs a ha
  ·exact h0.2.2 a ha b hb
theorem chGo_srt (ns : List Nd) (node : Int) : ∀ (m i : Nat) (cs : List Int), SrtC ns cs → SrtC ns (chGo ns node m i cs) := by
 intro m
 induction m with
 | zero => intro i cs h; exact h
 | succ m ih =>
  intro i cs h
  unfold chGo
  refine ih _ _ ?_
  split
  ·exact insC_srt h
  ·exact h
theorem chS_srt (ns : List Nd) (node : Int) : SrtC ns (chS ns node) := chGo_srt ns node _ _ _ List.Pairwise.nil
def Nx (ns : List Nd) (a b : Nat) : Prop := paN ns b = a ∨ ∃ t, 0 < upN ns t a ∧ paN ns (upN ns t a) = paN ns b ∧ bLt (ndAt ns (upN ns t a)).2.1 (ndAt ns b).2.1 = true
def ChN (ns : List Nd) : List Int → Prop
 | [] => True
 | [_] => True
 | a :: b :: r => Nx ns a.toNat b.toNat ∧ ChN ns (b :: r)
theorem chn_app {ns : List Nd} : ∀ (l m : List Int), ChN ns l → ChN ns m → (∀ a b, a ∈ l → m.head? = some b → Nx ns a.toNat b.toNat) → ChN ns (l ++ m) := by
 intro l
 induction l with
 | nil => intro m _ h _; exact h
 | cons a l ih =>
  intro m hl hm hx
  cases l with
  | nil =>
   cases m with
   | nil => trivial
   | cons b m => exact ⟨hx a b (List.mem_cons_self ..) rfl, hm⟩
  | cons c l => exact ⟨hl.1, ih m hl.2 hm fun x b h1 h2 => hx x b (List.mem_cons_of_mem _ h1) h2⟩
def Dst (ns : List Nd) : Prop := ∀ a b, 0 < a → a < ns.length → 0 < b → b < ns.length → paN ns a = paN ns b → (ndAt ns a).2.1 = (ndAt ns b).2.1 → a = b
theorem chS_strict {ns : List Nd} (hf : FrmT ns) (hd : Dst ns) (i : Nat) : (chS ns (i : Int)).Pairwise fun a b => bLt (nmI ns a) (nmI ns b) = true := by
 refine List.Pairwise.imp_of_mem (fun {a b} ha hb h => ?_) ((chS_srt ns (i : Int)).and (chS_nodup ns (i : Int)))
 obtain ⟨h1, h2⟩ := h
 rcases bLe_iff.1 h1 with h3 | h3
 ·exact h3
 ·exfalso
  obtain ⟨x, rfl, x1, x2, x3⟩ := chS_mem ha
  obtain ⟨y, rfl, y1, y2, y3⟩ := chS_mem hb
  have e1 := (par_lt hf.par x1 x2).2
  have e2 := (par_lt hf.par y1 y2).2
  rw [x3] at e1
  rw [y3] at e2
  exact h2 (by rw [hd x y x1 x2 y1 y2 (by omega) h3])
theorem wk_chain {ns : List Nd} (hf : FrmT ns) (hd : Dst ns) : ∀ k (i : Nat), i < ns.length → ns.length - i ≤ k → ChN ns (wk k ns (i : Int)) := by
 intro k
 induction k with
 | zero => intro i hi hk; omega
 | succ k ih =>
  intro i hi hk
  have hch : ∀ c ∈ chS ns (i : Int), ∃ j : Nat, c = (j : Int) ∧ 0 < j ∧ j < ns.length ∧ paN ns j = i := by
   intro c hc
   obtain ⟨j, e1, e2, e3, e4⟩ := chS_mem hc
   have h5 := (par_lt hf.par e2 e3).2
   rw [e4] at h5
   exact ⟨j, e1, e2, e3, by omega⟩
  have main : ∀ cs : List Int, (∀ c ∈ cs, ∃ j : Nat, c = (j : Int) ∧ 0 < j ∧ j < ns.length ∧ paN ns j = i) → cs.Pairwise (fun a b => bLt (nmI ns a) (nmI ns b) = true) → ChN ns (cs.flatMap fun c => wk k ns c) ∧ ∀ b, (cs.flatMap fun c => wk k ns c).head? = some b → b ∈ cs := by
   intro cs
   induction cs with
   | nil => intro _ _; exact ⟨trivial, fun b hb => by cases hb⟩
   | cons c cs ihc =>
    intro hc hs
    obtain ⟨h1, h2⟩ := List.pairwise_cons.1 hs
    obtain ⟨h3, h4⟩ := ihc (fun x hx => hc x (List.mem_cons_of_mem _ hx)) h2
    obtain ⟨j, rfl, j1, j2, j3⟩ := hc c (List.mem_cons_self ..)
    have hji := (par_lt hf.par j1 j2).1
    obtain ⟨k, rfl⟩ : ∃ q, k = q + 1 := ⟨k - 1, by omega⟩
    rw [List.flatMap_cons]
    refine ⟨chn_app _ _ (ih j j2 (by omega)) h3 fun a b ha hb => ?_, fun b hb => ?_⟩
    ·obtain ⟨x, t, rfl, x1, x2⟩ := wk_mem hf (k + 1) j j2 a ha
     have hbm := h4 b hb
     obtain ⟨y, rfl, y1, y2, y3⟩ := hc b (List.mem_cons_of_mem _ hbm)
     refine .inr ⟨t, ?_, ?_, ?_⟩
     ·show 0 < upN ns t x
      omega
     ·show paN ns (upN ns t x) = paN ns y
      rw [x2, j3, y3]
     ·show bLt (ndAt ns (upN ns t x)).2.1 (ndAt ns y).2.1 = true
      rw [x2]
      exact h1 _ hbm
    ·have e : (wk (k + 1) ns (j : Int) ++ cs.flatMap fun c => wk (k + 1) ns c).head? = some (j : Int) := rfl
     rw [e] at hb
     cases hb
     exact List.mem_cons_self ..
  obtain ⟨h1, h2⟩ := main _ hch (chS_strict hf hd i)
  show ChN ns ([(i : Int)] ++ (chS ns (i : Int)).flatMap fun c => wk k ns c)
  refine chn_app _ _ trivial h1 fun a b ha hb => ?_
  obtain rfl : a = (i : Int) := by simpa using ha
  obtain ⟨j, rfl, j1, j2, j3⟩ := hch b (h2 b hb)
  exact .inl j3
theorem insC_all {ns : List Nd} {i : Nat} {cs : List Int} : (i : Int) ∈ insC ns i cs ∧ ∀ c ∈ cs, c ∈ insC ns i cs := by
 unfold insC
 refine ⟨List.mem_append.2 (.inr (List.mem_cons_self ..)), fun c hc => ?_⟩
 have h : c ∈ cs.take (posC ns (ndAt ns i).2.1 cs) ++ cs.drop (posC ns (ndAt ns i).2.1 cs) := by rw [List.take_append_drop]; exact hc
 rcases List.mem_append.1 h with h | h
 ·exact List.mem_append.2 (.inl h)
 ·exact List.mem_append.2 (.inr (List.mem_cons_of_mem _ h))
theorem chGo_keep (ns : List Nd) (node : Int) : ∀ (m i : Nat) (cs : List Int) (c : Int), c ∈ cs → c ∈ chGo ns node m i cs := by
 intro m
 induction m with
 | zero => intro i cs c h; exact h
 | succ m ih =>
  intro i cs c h
  unfold chGo
  refine ih _ _ _ ?_
  split
  ·exact insC_all.2 c h
  ·exact h
theorem chGo_all (ns : List Nd) (node : Int) : ∀ (m i : Nat) (cs : List Int) (j : Nat), i ≤ j → j < i + m → ¬ j = 0 → (ndAt ns j).1 = node → (j : Int) ∈ chGo ns node m i cs := by
 intro m
 induction m with
 | zero => intro i cs j h1 h2; omega
 | succ m ih =>
  intro i cs j h1 h2 h3 h4
  unfold chGo
  by_cases hj : j = i
  ·subst hj
   refine chGo_keep _ _ _ _ _ _ ?_
   rw [if_pos ⟨h4, h3⟩]
   exact insC_all.1
  ·exact ih _ _ _ (by omega) (by omega) h3 h4
theorem chS_all {ns : List Nd} (hf : FrmT ns) {j : Nat} (h0 : 0 < j) (hj : j < ns.length) : (j : Int) ∈ chS ns ((paN ns j : Nat) : Int) :=
 chGo_all ns _ _ _ _ _ (nZ9 _) (by omega) (by omega) (par_lt hf.par h0 hj).2.symm
theorem up_succ (ns : List Nd) (t j : Nat) : upN ns (t + 1) j = paN ns (upN ns t j) := by rw [upN_add]; rfl
theorem up_zero {ns : List Nd} (hf : FrmT ns) : ∀ t, upN ns t 0 = 0 := fun t => Nat.le_zero.1 (up_le hf t 0)
theorem up_root {ns : List Nd} (hf : FrmT ns) : ∀ (b j : Nat), j ≤ b → j < ns.length → ∃ t, upN ns t j = 0 := by
 intro b
 induction b with
 | zero => intro j h _; exact ⟨0, Nat.le_zero.1 h⟩
 | succ b ih =>
  intro j h hj
  by_cases h0 : 0 < j
  ·have h1 := (par_lt hf.par h0 hj).1
   obtain ⟨t, ht⟩ := ih (paN ns j) (by omega) (by omega)
   exact ⟨t + 1, ht⟩
  ·exact ⟨0, by show j = 0; omega⟩
theorem wk_all {ns : List Nd} (hf : FrmT ns) : ∀ t j i k, j < ns.length → upN ns t j = i → ns.length - i ≤ k → (j : Int) ∈ wk k ns (i : Int) := by
 intro t
 induction t with
 | zero =>
  intro j i k hj hu hk
  have hu : j = i := hu
  subst hu
  obtain ⟨k, rfl⟩ : ∃ q, k = q + 1 := ⟨k - 1, by omega⟩
  exact List.mem_cons_self ..
 | succ t ih =>
  intro j i k hj hu hk
  rw [up_succ] at hu
  obtain ⟨c, hc⟩ : ∃ c, upN ns t j = c := ⟨_, rfl⟩
  rw [hc] at hu
  have hcj : c ≤ j := by rw [← hc]; exact up_le hf t j
  by_cases h0 : 0 < c
  ·have hlt := (par_lt hf.par h0 (by omega)).1
   obtain ⟨k, rfl⟩ : ∃ q, k = q + 1 := ⟨k - 1, by omega⟩
   have hm := chS_all hf h0 (by omega)
   rw [hu] at hm
   exact List.mem_cons_of_mem _ (List.mem_flatMap.2 ⟨_, hm, ih j c k hj hc (by omega)⟩)
  ·obtain rfl : c = 0 := by omega
   have hp := par_le hf 0
   obtain rfl : i = 0 := by omega
   exact ih j 0 k hj hc hk
abbrev wkT (ns : List Nd) : List Int := wk 120 ns 0
theorem wkT_all {ns : List Nd} (hf : FrmT ns) {j : Nat} (hj : j < ns.length) : (j : Int) ∈ wkT ns := by
 obtain ⟨t, ht⟩ := up_root hf j j (nR9 _) hj
 have := hf.len
 exact wk_all hf t j 0 120 hj ht (by omega)
theorem wkT_nodup {ns : List Nd} (hf : FrmT ns) : (wkT ns).Nodup := wk_nodup hf 120 0 hf.len.1
theorem wkT_chain {ns : List Nd} (hf : FrmT ns) (hd : Dst ns) : ChN ns (wkT ns) := wk_chain hf hd 120 0 hf.len.1 (by have := hf.len; omega)
theorem atGo_out : ∀ (l : List Int) (i : Nat) (z : List Int) (x : Nat), (∀ c ∈ l, ¬ c.toNat = x) → (atGo l i z).getD x 0 = z.getD x 0 := by
 intro l
 induction l with
 | nil => intro i z x _; rfl
 | cons a l ih =>
  intro i z x h
  unfold atGo
  rw [ih _ _ _ fun c hc => h c (List.mem_cons_of_mem _ hc)]
  have := h a (List.mem_cons_self ..)
  simp only [List.getD_eq_getElem?_getD, List.getElem?_set]
  rw [if_neg this]
theorem atGo_at : ∀ (l : List Int) (i : Nat) (z : List Int), l.Nodup → (∀ c ∈ l, 0 ≤ c ∧ c < (z.length : Nat)) → ∀ j (hj : j < l.length), (atGo l i z).getD (l[j]).toNat 0 = ((i + j : Nat) : Int) := by
 intro l
 induction l with
 | nil => intro i z _ _ j hj; cases hj
 | cons a l ih =>
  intro i z hd hr j hj
  obtain ⟨h1, h2⟩ := List.nodup_cons.1 hd
  have ha := hr a (List.mem_cons_self ..)
  unfold atGo
  cases j with
  | zero =>
   show (atGo l (i + 1) (z.set a.toNat (i : Int))).getD a.toNat 0 = _
   rw [atGo_out _ _ _ _ fun c hc he => by
    have hcr := hr c (List.mem_cons_of_mem _ hc)
    have : c = a := by omega
    exact h1 (this ▸ hc)]
   simp only [List.getD_eq_getElem?_getD, List.getElem?_set]
   rw [if_pos trivial, if_pos (by omega)]
   rfl
  | succ j =>
   have := ih (i + 1) (z.set a.toNat (i : Int)) h2 (fun c hc => by rw [List.length_set]; exact hr c (List.mem_cons_of_mem _ hc)) j (by simpa using hj)
   show (atGo l (i + 1) (z.set a.toNat (i : Int))).getD (l[j]'(by simpa using hj)).toNat 0 = _
   rw [this]
   congr 1
   omega
theorem atW_at {ns : List Nd} (hf : FrmT ns) {j : Nat} (hj : j < (wkT ns).length) : (atW ns).getD ((wkT ns)[j]).toNat 0 = (j : Int) := by
 have := atGo_at (wkT ns) 0 (List.replicate ns.length 0) (wkT_nodup hf) (fun c hc => by rw [List.length_replicate]; exact wk_in hf hc) j hj
 rw [Nat.zero_add] at this
 exact this
theorem chn_at {ns : List Nd} : ∀ (l : List Int), ChN ns l → ∀ i (h : i + 1 < l.length), Nx ns (l[i]'(by omega)).toNat (l[i + 1]).toNat := by
 intro l
 induction l with
 | nil => intro _ i h; cases h
 | cons a l ih =>
  intro hc i h
  cases l with
  | nil => simp at h
  | cons b l =>
   cases i with
   | zero => exact hc.1
   | succ i => exact ih hc.2 i (by simpa using h)
theorem wkT_pos {ns : List Nd} : 0 < (wkT ns).length := Nat.succ_pos _
theorem wkT_zero {ns : List Nd} : (wkT ns)[0]'wkT_pos = 0 := rfl
theorem wkT_le {ns : List Nd} (hf : FrmT ns) : (wkT ns).length ≤ ns.length := wk_length hf 120 (i := 0) hf.len.1
theorem wkT_in {ns : List Nd} (hf : FrmT ns) {i : Nat} (hi : i < (wkT ns).length) : 0 ≤ (wkT ns)[i] ∧ (wkT ns)[i] < (ns.length : Nat) := wk_in hf (List.getElem_mem hi)
theorem wkT_gt {ns : List Nd} (hf : FrmT ns) {i : Nat} (h0 : 0 < i) (hi : i < (wkT ns).length) : 0 < (wkT ns)[i] := by
 have h1 := wkT_in hf hi
 rcases Int.lt_or_eq_of_le h1.1 with h | h
 ·exact h
 ·exfalso
  have h2 : (wkT ns)[0]'wkT_pos = (wkT ns)[i] := by rw [wkT_zero]; exact h
  exact (List.pairwise_iff_getElem.1 (wkT_nodup hf)) 0 i wkT_pos hi h0 h2
theorem anc_before {ns : List Nd} (hf : FrmT ns) (hd : Dst ns) : ∀ i (hi : i < (wkT ns).length), ∀ t, ∃ j, ∃ (hj : j < (wkT ns).length), j ≤ i ∧ (wkT ns)[j] = ((upN ns t ((wkT ns)[i]).toNat : Nat) : Int) := by
 intro i
 induction i with
 | zero =>
  intro hi t
  refine ⟨0, hi, nR9 _, ?_⟩
  have e : ((wkT ns)[0]).toNat = 0 := rfl
  rw [e, up_zero hf]
  rfl
 | succ i ih =>
  intro hi t
  have hi2 : i < (wkT ns).length := by omega
  cases t with
  | zero =>
   refine ⟨i + 1, hi, nR9 _, ?_⟩
   have := wkT_in hf hi
   show _ = ((((wkT ns)[i + 1]).toNat : Nat) : Int)
   omega
  | succ t =>
   have hnx := chn_at _ (wkT_chain hf hd) i hi
   have e : upN ns (t + 1) ((wkT ns)[i + 1]).toNat = upN ns t (paN ns ((wkT ns)[i + 1]).toNat) := rfl
   rw [e]
   rcases hnx with h | ⟨u, h1, h2, h3⟩
   ·rw [h]
    obtain ⟨j, hj, h4, h5⟩ := ih hi2 t
    exact ⟨j, hj, by omega, h5⟩
   ·rw [← h2, ← up_succ, ← upN_add]
    obtain ⟨j, hj, h4, h5⟩ := ih hi2 (u + 1 + t)
    exact ⟨j, hj, by omega, h5⟩
theorem srt_length (ns : List Nd) : (srtV ns).length = (wkT ns).length := by
 unfold srtV
 rw [List.length_map]
theorem srt_at {ns : List Nd} {i : Nat} (hi : i < (wkT ns).length) : ndAt (srtV ns) i = mvN ns (wkT ns)[i] := by
 unfold ndAt srtV
 simp [hi]
theorem srt_par {ns : List Nd} (hf : FrmT ns) (hd : Dst ns) {i : Nat} (h0 : 0 < i) (hi : i < (wkT ns).length) : ∃ j, ∃ (hj : j < (wkT ns).length), j < i ∧ (wkT ns)[j] = ((paN ns ((wkT ns)[i]).toNat : Nat) : Int) ∧ (ndAt (srtV ns) i).1 = (j : Int) := by
 obtain ⟨j, hj, h1, h2⟩ := anc_before hf hd i hi 1
 have h2 : (wkT ns)[j] = ((paN ns ((wkT ns)[i]).toNat : Nat) : Int) := h2
 have hg := wkT_gt hf h0 hi
 have hin := wkT_in hf hi
 have hpl := (par_lt hf.par (j := ((wkT ns)[i]).toNat) (by omega) (by omega)).1
 refine ⟨j, hj, ?_, h2, ?_⟩
 ·rcases Nat.lt_or_eq_of_le h1 with h | h
  ·exact h
  ·subst h
   omega
 ·rw [srt_at hi]
  unfold mvN
  rw [if_pos hg]
  have h3 := atW_at hf hj
  have h4 : ((wkT ns)[j]).toNat = (paI ns ((wkT ns)[i]).toNat).toNat := by
   rw [h2]
   rfl
  rw [h4] at h3
  exact h3
theorem srt_nam {ns : List Nd} {i : Nat} (hi : i < (wkT ns).length) : (ndAt (srtV ns) i).2 = (ndAt ns ((wkT ns)[i]).toNat).2 := by
 rw [srt_at hi]
 unfold mvN
 split <;> rfl
theorem frm_of : ∀ (l : List Nd) (i : Nat), (∀ k (hk : k < l.length), ndFrm (i + k) l[k] = true) → frmGo i l = true := by
 intro l
 induction l with
 | nil => intro i _; rfl
 | cons n r ih =>
  intro i h
  have h0 := h 0 (Nat.succ_pos _)
  show (ndFrm i n && frmGo (i + 1) r) = true
  rw [ih (i + 1) fun k hk => by
   have := h (k + 1) (by simpa using hk)
   rw [show i + 1 + k = i + (k + 1) by omega]
   exact this]
  rw [Nat.add_zero] at h0
  have h0 : ndFrm i n = true := h0
  rw [h0]
  rfl
theorem srt_lim {ns : List Nd} (hf : FrmT ns) : limV (srtV ns) = true := by
 have h := hf.lim
 unfold limV at h ⊢
 simp only [Bool.and_eq_true, Bool.not_eq_true', decide_eq_false_iff_not, decide_eq_true_eq, List.all_eq_true] at h ⊢
 have h1 := wkT_le hf
 have h2 := wkT_pos (ns := ns)
 rw [srt_length]
 refine ⟨⟨by omega, by omega⟩, fun x hx => ?_⟩
 obtain ⟨i, hi, rfl⟩ := nd_mem hx
 rw [srt_length] at hi
 have h3 := wkT_in hf hi
 have h4 := h.2 (ndAt ns ((wkT ns)[i]).toNat) (by
  unfold ndAt
  rw [List.getD_eq_getElem?_getD, List.getElem?_eq_getElem (by omega)]
  exact List.getElem_mem _)
 unfold ndLim at h4 ⊢
 rw [srt_nam hi]
 exact h4
theorem nd_at' {ns : List Nd} {i : Nat} (hi : i < ns.length) : ndAt ns i = ns[i] := by unfold ndAt; simp [hi]
theorem frm_ps {ns : List Nd} (h : frmV ns = true) {i : Nat} (hi : i < ns.length) : (ndAt ns i).2.2.all ptFrm = true := by
 have h1 := frm_nd h hi
 unfold ndFrm at h1
 exact (bA9.1 h1).2
theorem srt_frm {ns : List Nd} (hf : FrmT ns) (hd : Dst ns) : FrmT (srtV ns) := by
 refine ⟨srt_lim hf, frm_of _ _ fun k hk => ?_⟩
 rw [Nat.zero_add, ← nd_at' hk]
 rw [srt_length] at hk
 have hin := wkT_in hf hk
 by_cases h0 : 0 < k
 ·obtain ⟨j, hj, h1, _, h3⟩ := srt_par hf hd h0 hk
  have hg := wkT_gt hf h0 hk
  have h4 := frm_nam hf.frm (i := ((wkT ns)[k]).toNat) (by omega) (by omega)
  have h5 := frm_ps hf.frm (i := ((wkT ns)[k]).toNat) (by omega)
  unfold ndFrm
  rw [srt_nam hk, h3, h4, h5, dF9 (show ¬ ((k : Nat) : Int) = 0 by omega), dF9 (show ¬ ((j : Nat) : Int) < 0 by omega), dF9 (show ¬ ((k : Nat) : Int) ≤ (j : Nat) by omega)]
  simp
 ·obtain rfl : k = 0 := by omega
  have h1 := frm_nd hf.frm hf.len.1
  have e : ndAt (srtV ns) 0 = ndAt ns 0 := by
   rw [srt_at hk]
   rfl
  rw [e]
  exact h1
theorem wkT_inj {ns : List Nd} (hf : FrmT ns) {i j : Nat} (hi : i < (wkT ns).length) (hj : j < (wkT ns).length) (h : (wkT ns)[i] = (wkT ns)[j]) : i = j := by
 rcases Nat.lt_trichotomy i j with h1 | h1 | h1
 ·exact absurd h ((List.pairwise_iff_getElem.1 (wkT_nodup hf)) i j hi hj h1)
 ·exact h1
 ·exact absurd h.symm ((List.pairwise_iff_getElem.1 (wkT_nodup hf)) j i hj hi h1)
theorem srt_pa0 {ns : List Nd} (hf : FrmT ns) : paN (srtV ns) 0 = 0 ∧ paN ns 0 = 0 := by
 have h := par_le hf 0
 have e : ndAt (srtV ns) 0 = ndAt ns 0 := by
  rw [srt_at wkT_pos]
  rfl
 refine ⟨?_, by omega⟩
 unfold paN paI
 rw [e]
 exact Nat.le_zero.1 h
theorem gw {ns : List Nd} {i : Nat} (hi : i < (wkT ns).length) : (wkT ns).getD i 0 = (wkT ns)[i] := by simp [hi]
theorem srt_pa {ns : List Nd} (hf : FrmT ns) (hd : Dst ns) {i : Nat} (hi : i < (wkT ns).length) : ∃ (h : paN (srtV ns) i < (wkT ns).length), (wkT ns)[paN (srtV ns) i] = ((paN ns ((wkT ns)[i]).toNat : Nat) : Int) := by
 by_cases h0 : 0 < i
 ·obtain ⟨j, hj, _, h2, h3⟩ := srt_par hf hd h0 hi
  have e : paN (srtV ns) i = j := by
   unfold paN paI
   rw [h3]
   rfl
  refine ⟨by rw [e]; exact hj, ?_⟩
  simp only [e]
  exact h2
 ·obtain rfl : i = 0 := by omega
  obtain ⟨h1, h2⟩ := srt_pa0 hf
  refine ⟨by rw [h1]; exact hi, ?_⟩
  simp only [h1]
  show _ = ((paN ns 0 : Nat) : Int)
  rw [h2]
  rfl
theorem srt_up {ns : List Nd} (hf : FrmT ns) (hd : Dst ns) : ∀ (t i : Nat), i < (wkT ns).length → ∃ (h : upN (srtV ns) t i < (wkT ns).length), (wkT ns)[upN (srtV ns) t i] = ((upN ns t ((wkT ns).getD i 0).toNat : Nat) : Int) := by
 intro t
 induction t with
 | zero =>
  intro i hi
  refine ⟨hi, ?_⟩
  have := wkT_in hf hi
  show (wkT ns)[i] = ((((wkT ns).getD i 0).toNat : Nat) : Int)
  rw [gw hi]
  omega
 | succ t ih =>
  intro i hi
  obtain ⟨h1, h2⟩ := srt_pa hf hd hi
  obtain ⟨h3, h4⟩ := ih (paN (srtV ns) i) h1
  refine ⟨h3, ?_⟩
  rw [gw h1, h2] at h4
  rw [gw hi]
  exact h4
theorem flw_up {ns : List Nd} (hf : FrmT ns) (n : Nd) : ∀ t k j, j < k → j < ns.length → 0 < upN ns t j → (ndAt ns (upN ns t j)).1 = n.1 → (∀ s, s ≤ t → 0 < upN ns s j → (ndAt ns (upN ns s j)).1 = n.1 → bLe (ndAt ns (upN ns s j)).2.1 n.2.1 = true) → flwGo ns n k j = true := by
 intro t
 induction t with
 | zero =>
  intro k j hk hj h0 hp hs
  obtain ⟨k, rfl⟩ : ∃ q, k = q + 1 := ⟨k - 1, by omega⟩
  have h0 : 0 < j := h0
  have hp : (ndAt ns j).1 = n.1 := hp
  unfold flwGo
  rw [if_neg (by omega), if_pos hp]
  exact hs 0 (nR9 _) h0 hp
 | succ t ih =>
  intro k j hk hj h0 hp hs
  obtain ⟨k, rfl⟩ : ∃ q, k = q + 1 := ⟨k - 1, by omega⟩
  have hj0 : 0 < j := Nat.lt_of_lt_of_le h0 (up_le hf _ _)
  unfold flwGo
  rw [if_neg (by omega)]
  by_cases hq : (ndAt ns j).1 = n.1
  ·rw [if_pos hq]
   exact hs 0 (nZ9 _) hj0 hq
  ·rw [if_neg hq]
   have hlt := (par_lt hf.par hj0 hj).1
   exact ih k (paN ns j) (by omega) (by omega) h0 hp fun s h1 h2 h3 => hs (s + 1) (by omega) h2 h3
theorem srt_flw {ns : List Nd} (hf : FrmT ns) (hd : Dst ns) {i : Nat} (h0 : 0 < i) (hi : i < (wkT ns).length) : flwV (srtV ns) i = true := by
 have hfs := srt_frm hf hd
 obtain ⟨j, hj, h1, h2, h3⟩ := srt_par hf hd h0 hi
 obtain ⟨i, rfl⟩ : ∃ q, i = q + 1 := ⟨i - 1, by omega⟩
 have hi2 : i < (wkT ns).length := by omega
 have hnx := chn_at _ (wkT_chain hf hd) i hi
 unfold flwV
 rw [h3]
 rcases hnx with h | ⟨t, t1, t2, t3⟩
 ·have hw := wkT_in hf hi2
  have e : j = i := wkT_inj hf hj hi2 (by rw [h2, h]; omega)
  have hjj : ((j : Nat) : Int) = ((i + 1 : Nat) : Int) - 1 := by omega
  exact if_pos hjj
 ·split
  ·rfl
  ·obtain ⟨c1, c2⟩ := srt_up hf hd t i hi2
   rw [gw hi2] at c2
   obtain ⟨c, hc⟩ : ∃ c, upN (srtV ns) t i = c := ⟨_, rfl⟩
   simp only [hc] at c1 c2
   have hc0 : 0 < c := by
    rcases Nat.eq_zero_or_pos c with h | h
    ·subst h
     have : (0 : Int) = ((upN ns t ((wkT ns)[i]).toNat : Nat) : Int) := c2
     omega
    ·exact h
   obtain ⟨j', hj', g1, g2, g3⟩ := srt_par hf hd hc0 c1
   have ew : ((wkT ns)[c]).toNat = upN ns t ((wkT ns)[i]).toNat := by rw [c2]; rfl
   have e : j' = j := wkT_inj hf hj' hj (by rw [g2, h2, ew, t2])
   subst e
   have hle : bLe (ndAt (srtV ns) c).2.1 (ndAt (srtV ns) (i + 1)).2.1 = true := by
    rw [srt_nam c1, srt_nam hi, ew]
    exact bLe_iff.2 (.inl t3)
   refine flw_up hfs _ t (i + 1) i (by omega) (by rw [srt_length]; omega) (by rw [hc]; exact hc0) (by rw [hc, g3, h3]) fun s s1 s2 s3 => ?_
   rw [h3] at s3
   have hsl : upN (srtV ns) s i < (srtV ns).length := by
    have := up_le hfs s i
    rw [srt_length]
    omega
   have es : upN (srtV ns) s i = c := by
    refine up_same hfs (i := j') s2 hsl hc0 (by rw [srt_length]; exact c1) ?_ ?_ rfl hc
    ·unfold paN paI
     rw [s3]
     rfl
    ·unfold paN paI
     rw [g3]
     rfl
   rw [es]
   exact hle
theorem dp_up {ns : List Nd} (hf : FrmT ns) : ∀ k j, j < k → j < ns.length → upN ns (dpGo ns k j) j = 0 ∧ ∀ t, t < dpGo ns k j → 0 < upN ns t j := by
 intro k
 induction k with
 | zero => intro j h; omega
 | succ k ih =>
  intro j hk hj
  by_cases h0 : j = 0
  ·subst h0
   refine ⟨rfl, fun t ht => ?_⟩
   have : dpGo ns (k + 1) 0 = 0 := rfl
   omega
  ·have hlt := (par_lt hf.par (by omega) hj).1
   have e : dpGo ns (k + 1) j = dpGo ns k (paN ns j) + 1 := by
    show (if j = 0 then 0 else _) = _
    rw [if_neg h0]
   obtain ⟨h1, h2⟩ := ih (paN ns j) (by omega) (by omega)
   rw [e]
   refine ⟨h1, fun t ht => ?_⟩
   cases t with
   | zero => show 0 < j; omega
   | succ t => exact h2 t (by omega)
theorem dp_of {ns : List Nd} (hf : FrmT ns) {j d : Nat} (hj : j < ns.length) (h1 : upN ns d j = 0) (h2 : ∀ t, t < d → 0 < upN ns t j) : dpV ns j = d := by
 obtain ⟨h3, h4⟩ := dp_up hf (j + 1) j (nS9 j) hj
 unfold dpV
 rcases Nat.lt_trichotomy (dpGo ns (j + 1) j) d with h | h | h
 ·have := h2 _ h
  omega
 ·exact h
 ·have := h4 _ h
  omega
theorem srt_dp {ns : List Nd} (hf : FrmT ns) (hd : Dst ns) {i : Nat} (hi : i < (wkT ns).length) : dpV (srtV ns) i = dpV ns ((wkT ns)[i]).toNat := by
 have hin := wkT_in hf hi
 obtain ⟨h3, h4⟩ := dp_up hf (((wkT ns)[i]).toNat + 1) ((wkT ns)[i]).toNat (nS9 _) (by omega)
 refine dp_of (srt_frm hf hd) (by rw [srt_length]; exact hi) ?_ fun t ht => ?_
 ·obtain ⟨c1, c2⟩ := srt_up hf hd (dpV ns ((wkT ns)[i]).toNat) i hi
  rw [gw hi, show upN ns (dpV ns ((wkT ns)[i]).toNat) ((wkT ns)[i]).toNat = 0 from h3] at c2
  exact wkT_inj hf c1 wkT_pos c2
 ·obtain ⟨c1, c2⟩ := srt_up hf hd t i hi
  rw [gw hi] at c2
  have h5 := h4 t ht
  rcases Nat.eq_zero_or_pos (upN (srtV ns) t i) with h | h
  ·exfalso
   have e : (wkT ns)[upN (srtV ns) t i] = (wkT ns)[0]'wkT_pos := by simp only [h]
   rw [c2] at e
   have e2 : ((upN ns t ((wkT ns)[i]).toNat : Nat) : Int) = 0 := e
   omega
  ·exact h
theorem srt_dst {ns : List Nd} (hf : FrmT ns) (hd : Dst ns) : Dst (srtV ns) := by
 intro a b a0 a1 b0 b1 hp hn
 rw [srt_length] at a1 b1
 obtain ⟨ca, c2⟩ := srt_pa hf hd a1
 obtain ⟨cb, d2⟩ := srt_pa hf hd b1
 have ga := wkT_gt hf a0 a1
 have gb := wkT_gt hf b0 b1
 have ia := wkT_in hf a1
 have ib := wkT_in hf b1
 have e : (wkT ns)[paN (srtV ns) a] = (wkT ns)[paN (srtV ns) b] := by simp only [hp]
 rw [c2, d2] at e
 rw [srt_nam a1, srt_nam b1] at hn
 have := hd ((wkT ns)[a]).toNat ((wkT ns)[b]).toNat (by omega) (by omega) (by omega) (by omega) (by omega) hn
 exact wkT_inj hf a1 b1 (by omega)
end Go.Ab
