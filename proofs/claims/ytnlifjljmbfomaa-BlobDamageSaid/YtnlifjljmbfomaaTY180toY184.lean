/- Package blob: the reader reads a tree. -/
import Derived.Test.YtnlifjljmbfomaaTY176toY179
namespace Go.Ab
open Go.Proofs
set_option linter.unusedSectionVars false
set_option maxRecDepth 100000
variable [Glob8]

/-- The reader's state: place, growth, nodes, properties of the last one, the open node, its level, the list of the first node. -/
abbrev RS := Int × Nat × List Nd × List Pt × Int × Int × Option (List Pt)
def rsStep (b : List Int) (nm : ByteArray) : RS → RS
  | (a, v, ns, ps, op, lv, g) =>
    if bnV b a.toNat = 1 then (txE b (a + 4), v + 1, fxN ns ps ++ [(op, txS b (a + 4), [])], [], ns.length, lv + 1, some (g.getD ps))
    else if bnV b a.toNat = 2 then (a + 4, v, ns, ps, (ndAt ns op.toNat).1, lv - 1, g)
    else (prE b (a + 4), v, ns, ps ++ [prP b (a + 4) nm], op, lv, g)
def rsIt (b : List Int) (nm : ByteArray) : Nat → RS → RS
  | 0, s => s
  | m + 1, s => rsIt b nm m (rsStep b nm s)
def rsOk (b : List Int) (nm : ByteArray) : Nat → RS → Prop
  | 0, (a, _, ns, _, op, _, _) => op = -1 ∧ NumOk b a ∧ bnV b a.toNat = 9 ∧ a + 4 = (b.length : Nat) ∧ 0 < ns.length
  | m + 1, (a, v, ns, ps, op, lv, g) => ElOk b a nm ns op lv ∧ ps.length < 100000 ∧ rsOk b nm m (rsStep b nm (a, v, ns, ps, op, lv, g))
def rsH (b : List Int) (nm : ByteArray) (pl e : Int) : RS → List AO
  | (a, v, ns, ps, op, lv, none) => hqG b a nm v ns.length op lv pl e (gvO v ns ps) (ptO ps)
  | (a, v, ns, ps, op, lv, some q) => [.row [.p (.l u8C b), .int .i64 a, .str nm, .gs 1 v ns.length, .int .i64 op, .int .i64 lv, .int .i64 pl, .int .i64 e], .gvec ndT ndC ns (ns.length - 1) 2 (.own 3 ptC ps) v, ptO q, ptO ps]
def rs0 (b : List Int) (a : Int) : RS := (txE b (a + 4), 0, [(-1, txS b (a + 4), [])], [], 0, 1, none)
def rsE : RS → RS
  | (a, r) => (a + 4, r)
theorem el_1 {b a nm v ns ps op lv pl e} (h : bnV b (Int.toNat a) = 1) : elH b a nm v ns ps op lv pl e = [.row [.p (.l u8C b), .int .i64 (txE b (a + 4)), .str nm, .gs 1 (v + 1) (ns.length + 1), .int .i64 ns.length, .int .i64 (lv + 1), .int .i64 pl, .int .i64 e], .gvec ndT ndC (fxN ns ps ++ [(op, txS b (a + 4), [])]) ns.length 2 (.own 3 ptC []) (v + 1), ptO ps, ptO []] := by
  unfold elH; exact if_pos h
theorem el_2 {b a nm v ns ps op lv pl e} (h : bnV b (Int.toNat a) = 2) : elH b a nm v ns ps op lv pl e = hqG b (a + 4) nm v ns.length (ndAt ns op.toNat).1 (lv - 1) pl e (gvO v ns ps) (ptO ps) := by
  unfold elH; rw [if_neg (by rw [h]; decide), if_pos h]
theorem el_3 {b a nm v ns ps op lv pl e} (h : bnV b (Int.toNat a) = 3) : elH b a nm v ns ps op lv pl e = hqG b (prE b (a + 4)) nm v ns.length op lv pl e (gvO v ns (ps ++ [prP b (a + 4) nm])) (ptO (ps ++ [prP b (a + 4) nm])) := by
  unfold elH; rw [if_neg (by rw [h]; decide), if_neg (by rw [h]; decide)]
theorem rsH_new {b nm pl e a v lv q} {ns : List Nd} {ps : List Pt} {y : Nd} : rsH b nm pl e (a, v, fxN ns ps ++ [y], [], ((ns.length : Nat) : Int), lv, some q) = [.row [.p (.l u8C b), .int .i64 a, .str nm, .gs 1 v (ns.length + 1), .int .i64 ns.length, .int .i64 lv, .int .i64 pl, .int .i64 e], .gvec ndT ndC (fxN ns ps ++ [y]) ns.length 2 (.own 3 ptC []) v, ptO q, ptO []] := by
  have hl : (fxN ns ps ++ [y]).length = ns.length + 1 := by simp [fxN]
  simp only [rsH, hl]
  rfl
theorem id4x : ∀ k, k < 3 → [0, 1, 2, 4][k]? = some k := fun k hk => by
  match k, hk with
  | 0, _ => rfl
  | 1, _ => rfl
  | 2, _ => rfl
attribute [local irreducible] elH
def saysRdM (m : Nat) : Says := fun args H => match args, H with
  | [.c (.ptr 0 0)], [.row [.p (.l (.int .u8) b), .p (.v (.int .i64 a)), .p (.v (.string nm)), .p (.v (.slice none 0 0)), .p (.v (.int .i64 op)), .p (.v (.int .i64 lv)), .p (.v (.int .i64 pl)), .p (.v (.int .i64 e))]] => some (some ((NumOk b a ∧ bnV b a.toNat = 1) ∧ TxOk b (a + 4) ∧ op = -1 ∧ lv = 0 ∧ rsOk b nm m (rs0 b a)), .bool true, rsH b nm pl e (rsE (rsIt b nm m (rs0 b a))))
  | _, _ => none
theorem rd_m (m : Nat) : TSound Try.prog (ext BD9 22 (saysRdM m)) := by
  refine ext_run bD9 (f := 22) (fn := Try.f22) rfl rfl [0, 2, 10, 15, 18, 21, 31] fun args H p r H' hs hp => ?_
  unfold saysRdM at hs
  split at hs
  · rename_i b a nm op lv pl e
    cases hs
    obtain ⟨hx1, hx2, rfl, rfl, hok⟩ := hp
    have hx3 : TxOk b (a + 4) ∧ 0 ≤ (0 : Int) ∧ (0 : Int) ≤ 8 := ⟨hx2, by decide, by decide⟩
    obtain ⟨F, hF⟩ : ∃ F, rsIt b nm m (rs0 b a) = F := ⟨_, rfl⟩
    rw [hF]
    obtain ⟨fa, fv, fns, fps, fop, flv, fg⟩ := F
    cases fg with
    | none =>
      refine ⟨Nat.le_of_ble_eq_true rfl, [0, 1, 2], rfl, fun k hk => by obtain rfl : k = 0 := Nat.lt_one_iff.1 hk; rfl, ?_⟩
      repeat ((conv => whnf); refine ⟨by first | exact hx1 | exact fun _ => hx3 | exact hx3 | ((conv => whnf); exact ⟨⟨rfl, rfl, rfl⟩, trivial⟩) | exact Early.one (by decide +kernel) (by (conv => whnf); exact ⟨rfl, rfl, rfl⟩) trivial | (unfold inI64; omega) | omega | exact ⟨by omega, by omega⟩ | exact rfl | decide +kernel, ?_⟩)
      conv => whnf
      refine loop_intro (σ := Nat × RS) (fun _ => [(0, XV.s (.a (.c (.ptr 0 0)))), (2, XV.s .none), (10, XV.s .none), (15, XV.s .none), (18, XV.s .none), (21, XV.s .none), (31, XV.s .none)])
        (fun x => rsH b nm pl e x.2) (fun x => rsOk b nm x.1 x.2 ∧ rsIt b nm x.1 x.2 = (fa, fv, fns, fps, fop, flv, none)) (fun x => x.1) (m, rs0 b a) ?_ rfl ⟨hok, hF⟩ ?_
      · repeat (first | exact LeL.nil | refine LeL.drop ?_ | refine LeL.same ?_)
      clear hF hok
      rintro ⟨m, a, v, ns, ps, op, lv, _ | q⟩ ⟨hok, hit⟩
      · cases m with
        | zero =>
          obtain ⟨rfl, hn, h9, hl, hpos⟩ := hok
          cases hit
          have hg : GsOk fv fns.length (gvO fv fns fps) (ptO fps) := ⟨fns, fps, rfl, hpos, rfl, rfl⟩
          have hw : (NumOk b fa ∧ bnV b fa.toNat = 9) ∧ GsOk fv fns.length (gvO fv fns fps) (ptO fps) := ⟨⟨hn, h9⟩, hg⟩
          repeat ((conv => whnf); refine ⟨by first | exact hw | ((conv => whnf); exact ⟨⟨rfl, rfl, rfl⟩, trivial⟩) | exact Early.one (by decide +kernel) (by (conv => whnf); exact ⟨rfl, rfl, rfl⟩) trivial | (unfold inI64; omega) | omega | exact ⟨by omega, by omega⟩ | exact rfl | decide +kernel, ?_⟩)
          conv => whnf
          refine cond_intro (fun h => ?_) (fun h => ?_)
          · exfalso
            have : fa + 4 < (b.length : Nat) := of_decide_eq_true h
            omega
          repeat ((conv => whnf); refine ⟨by first | (unfold inI64; omega) | omega | exact ⟨by omega, by omega⟩ | exact rfl | decide +kernel, ?_⟩)
          conv => whnf
          exact ends_eq ⟨rfl, rfl⟩
        | succ m =>
          obtain ⟨hz, hps, hok⟩ := hok
          have ho := hz.o0
          have hit : rsIt b nm m (rsStep b nm (a, v, ns, ps, op, lv, none)) = _ := hit
          have hq : ElOk b a nm ns op lv ∧ ns.length = ns.length ∧ ndT = ndT ∧ ns.length - 1 = ns.length - 1 ∧ 2 = 2 ∧ v = v ∧ ps.length < 100000 ∧ ptO ps = ptO ps := ⟨hz, rfl, rfl, rfl, rfl, rfl, hps, rfl⟩
          repeat ((conv => whnf); refine ⟨by first | (unfold inI64; omega) | omega | exact ⟨by omega, by omega⟩ | exact rfl | decide +kernel, ?_⟩)
          conv => whnf
          refine cond_intro (fun h => ?_) (fun h => ?_)
          · rcases hz.kd with hk | hk | hk
            · have hst : rsStep b nm (a, v, ns, ps, op, lv, none) = (txE b (a + 4), v + 1, fxN ns ps ++ [(op, txS b (a + 4), [])], [], ((ns.length : Nat) : Int), lv + 1, some ps) := if_pos hk
              rw [hst] at hok hit
              repeat ((conv => whnf); refine ⟨by first | exact hq | ((conv => whnf); exact ⟨⟨rfl, rfl, rfl⟩, trivial⟩) | exact Early.one (by decide +kernel) (by (conv => whnf); exact ⟨rfl, rfl, rfl⟩) trivial | (unfold inI64; omega) | omega | exact ⟨by omega, by omega⟩ | exact rfl | decide +kernel, ?_⟩)
              conv => whnf
              rw [el_1 hk]
              repeat ((conv => whnf); refine ⟨by first | (unfold inI64; omega) | omega | exact ⟨by omega, by omega⟩ | exact rfl | decide +kernel, ?_⟩)
              conv => whnf
              refine head_intro (m, txE b (a + 4), v + 1, fxN ns ps ++ [(op, txS b (a + 4), [])], [], ((ns.length : Nat) : Int), lv + 1, some ps) ?_ rsH_new.symm ⟨hok, hit⟩ (Nat.lt_succ_self m)
              repeat (first | exact LeL.nil | refine LeL.drop ?_ | refine LeL.same ?_)
            · have hst : rsStep b nm (a, v, ns, ps, op, lv, none) = (a + 4, v, ns, ps, (ndAt ns op.toNat).1, lv - 1, none) := by
                show ite _ _ _ = _
                rw [if_neg (by rw [hk]; decide), if_pos hk]
              rw [hst] at hok hit
              repeat ((conv => whnf); refine ⟨by first | exact hq | ((conv => whnf); exact ⟨⟨rfl, rfl, rfl⟩, trivial⟩) | exact Early.one (by decide +kernel) (by (conv => whnf); exact ⟨rfl, rfl, rfl⟩) trivial | (unfold inI64; omega) | omega | exact ⟨by omega, by omega⟩ | exact rfl | decide +kernel, ?_⟩)
              conv => whnf
              rw [el_2 hk]
              repeat ((conv => whnf); refine ⟨by first | (unfold inI64; omega) | omega | exact ⟨by omega, by omega⟩ | exact rfl | decide +kernel, ?_⟩)
              conv => whnf
              refine head_intro (m, a + 4, v, ns, ps, (ndAt ns op.toNat).1, lv - 1, none) ?_ rfl ⟨hok, hit⟩ (Nat.lt_succ_self m)
              repeat (first | exact LeL.nil | refine LeL.drop ?_ | refine LeL.same ?_)
            · have hst : rsStep b nm (a, v, ns, ps, op, lv, none) = (prE b (a + 4), v, ns, ps ++ [prP b (a + 4) nm], op, lv, none) := by
                show ite _ _ _ = _
                rw [if_neg (by rw [hk]; decide), if_neg (by rw [hk]; decide)]
              rw [hst] at hok hit
              repeat ((conv => whnf); refine ⟨by first | exact hq | ((conv => whnf); exact ⟨⟨rfl, rfl, rfl⟩, trivial⟩) | exact Early.one (by decide +kernel) (by (conv => whnf); exact ⟨rfl, rfl, rfl⟩) trivial | (unfold inI64; omega) | omega | exact ⟨by omega, by omega⟩ | exact rfl | decide +kernel, ?_⟩)
              conv => whnf
              rw [el_3 hk]
              repeat ((conv => whnf); refine ⟨by first | (unfold inI64; omega) | omega | exact ⟨by omega, by omega⟩ | exact rfl | decide +kernel, ?_⟩)
              conv => whnf
              refine head_intro (m, prE b (a + 4), v, ns, ps ++ [prP b (a + 4) nm], op, lv, none) ?_ rfl ⟨hok, hit⟩ (Nat.lt_succ_self m)
              repeat (first | exact LeL.nil | refine LeL.drop ?_ | refine LeL.same ?_)
          · exfalso
            have : ¬ op ≥ 0 := of_decide_eq_false h
            omega
      · cases m with
        | zero =>
          obtain ⟨rfl, hn, h9, hl, hpos⟩ := hok
          cases hit
        | succ m =>
          obtain ⟨hz, hps, hok⟩ := hok
          have ho := hz.o0
          have hit : rsIt b nm m (rsStep b nm (a, v, ns, ps, op, lv, some q)) = _ := hit
          have hq : ElOk b a nm ns op lv ∧ ns.length = ns.length ∧ ndT = ndT ∧ ns.length - 1 = ns.length - 1 ∧ 2 = 2 ∧ v = v ∧ ps.length < 100000 ∧ ptO ps = ptO ps := ⟨hz, rfl, rfl, rfl, rfl, rfl, hps, rfl⟩
          repeat ((conv => whnf); refine ⟨by first | (unfold inI64; omega) | omega | exact ⟨by omega, by omega⟩ | exact rfl | decide +kernel, ?_⟩)
          conv => whnf
          refine cond_intro (fun h => ?_) (fun h => ?_)
          · rcases hz.kd with hk | hk | hk
            · have hst : rsStep b nm (a, v, ns, ps, op, lv, some q) = (txE b (a + 4), v + 1, fxN ns ps ++ [(op, txS b (a + 4), [])], [], ((ns.length : Nat) : Int), lv + 1, some q) := if_pos hk
              rw [hst] at hok hit
              repeat ((conv => whnf); refine ⟨by first | exact hq | ((conv => whnf); exact ⟨⟨rfl, rfl, rfl⟩, trivial⟩) | exact Early.one (by decide +kernel) (by (conv => whnf); exact ⟨rfl, rfl, rfl⟩) trivial | (unfold inI64; omega) | omega | exact ⟨by omega, by omega⟩ | exact rfl | decide +kernel, ?_⟩)
              conv => whnf
              rw [el_1 hk]
              repeat ((conv => whnf); refine ⟨by first | (unfold inI64; omega) | omega | exact ⟨by omega, by omega⟩ | exact rfl | decide +kernel, ?_⟩)
              conv => whnf
              refine head_weak (m, txE b (a + 4), v + 1, fxN ns ps ++ [(op, txS b (a + 4), [])], [], ((ns.length : Nat) : Int), lv + 1, some q) (Weak.keep [0, 1, 2, 4] (by rw [rsH_new]; rfl) rfl id4x ?_) ⟨hok, hit⟩ (Nat.lt_succ_self m)
              repeat (first | exact KeepL.nil | refine KeepL.drop ?_ | refine KeepL.ren rfl ?_)
            · have hst : rsStep b nm (a, v, ns, ps, op, lv, some q) = (a + 4, v, ns, ps, (ndAt ns op.toNat).1, lv - 1, some q) := by
                show ite _ _ _ = _
                rw [if_neg (by rw [hk]; decide), if_pos hk]
              rw [hst] at hok hit
              repeat ((conv => whnf); refine ⟨by first | exact hq | ((conv => whnf); exact ⟨⟨rfl, rfl, rfl⟩, trivial⟩) | exact Early.one (by decide +kernel) (by (conv => whnf); exact ⟨rfl, rfl, rfl⟩) trivial | (unfold inI64; omega) | omega | exact ⟨by omega, by omega⟩ | exact rfl | decide +kernel, ?_⟩)
              conv => whnf
              rw [el_2 hk]
              repeat ((conv => whnf); refine ⟨by first | (unfold inI64; omega) | omega | exact ⟨by omega, by omega⟩ | exact rfl | decide +kernel, ?_⟩)
              conv => whnf
              refine head_intro (m, a + 4, v, ns, ps, (ndAt ns op.toNat).1, lv - 1, some q) ?_ rfl ⟨hok, hit⟩ (Nat.lt_succ_self m)
              repeat (first | exact LeL.nil | refine LeL.drop ?_ | refine LeL.same ?_)
            · have hst : rsStep b nm (a, v, ns, ps, op, lv, some q) = (prE b (a + 4), v, ns, ps ++ [prP b (a + 4) nm], op, lv, some q) := by
                show ite _ _ _ = _
                rw [if_neg (by rw [hk]; decide), if_neg (by rw [hk]; decide)]
              rw [hst] at hok hit
              repeat ((conv => whnf); refine ⟨by first | exact hq | ((conv => whnf); exact ⟨⟨rfl, rfl, rfl⟩, trivial⟩) | exact Early.one (by decide +kernel) (by (conv => whnf); exact ⟨rfl, rfl, rfl⟩) trivial | (unfold inI64; omega) | omega | exact ⟨by omega, by omega⟩ | exact rfl | decide +kernel, ?_⟩)
              conv => whnf
              rw [el_3 hk]
              repeat ((conv => whnf); refine ⟨by first | (unfold inI64; omega) | omega | exact ⟨by omega, by omega⟩ | exact rfl | decide +kernel, ?_⟩)
              conv => whnf
              refine head_intro (m, prE b (a + 4), v, ns, ps ++ [prP b (a + 4) nm], op, lv, some q) ?_ rfl ⟨hok, hit⟩ (Nat.lt_succ_self m)
              repeat (first | exact LeL.nil | refine LeL.drop ?_ | refine LeL.same ?_)
          · exfalso
            have : ¬ op ≥ 0 := of_decide_eq_false h
            omega
    | some fq =>
      refine ⟨Nat.le_of_ble_eq_true rfl, [0, 1, 2, 3], rfl, fun k hk => by obtain rfl : k = 0 := Nat.lt_one_iff.1 hk; rfl, ?_⟩
      repeat ((conv => whnf); refine ⟨by first | exact hx1 | exact fun _ => hx3 | exact hx3 | ((conv => whnf); exact ⟨⟨rfl, rfl, rfl⟩, trivial⟩) | exact Early.one (by decide +kernel) (by (conv => whnf); exact ⟨rfl, rfl, rfl⟩) trivial | (unfold inI64; omega) | omega | exact ⟨by omega, by omega⟩ | exact rfl | decide +kernel, ?_⟩)
      conv => whnf
      refine loop_intro (σ := Nat × RS) (fun _ => [(0, XV.s (.a (.c (.ptr 0 0)))), (2, XV.s .none), (10, XV.s .none), (15, XV.s .none), (18, XV.s .none), (21, XV.s .none), (31, XV.s .none)])
        (fun x => rsH b nm pl e x.2) (fun x => rsOk b nm x.1 x.2 ∧ rsIt b nm x.1 x.2 = (fa, fv, fns, fps, fop, flv, some fq)) (fun x => x.1) (m, rs0 b a) ?_ rfl ⟨hok, hF⟩ ?_
      · repeat (first | exact LeL.nil | refine LeL.drop ?_ | refine LeL.same ?_)
      clear hF hok
      rintro ⟨m, a, v, ns, ps, op, lv, _ | q⟩ ⟨hok, hit⟩
      · cases m with
        | zero =>
          obtain ⟨rfl, hn, h9, hl, hpos⟩ := hok
          cases hit
        | succ m =>
          obtain ⟨hz, hps, hok⟩ := hok
          have ho := hz.o0
          have hit : rsIt b nm m (rsStep b nm (a, v, ns, ps, op, lv, none)) = _ := hit
          have hq : ElOk b a nm ns op lv ∧ ns.length = ns.length ∧ ndT = ndT ∧ ns.length - 1 = ns.length - 1 ∧ 2 = 2 ∧ v = v ∧ ps.length < 100000 ∧ ptO ps = ptO ps := ⟨hz, rfl, rfl, rfl, rfl, rfl, hps, rfl⟩
          repeat ((conv => whnf); refine ⟨by first | (unfold inI64; omega) | omega | exact ⟨by omega, by omega⟩ | exact rfl | decide +kernel, ?_⟩)
          conv => whnf
          refine cond_intro (fun h => ?_) (fun h => ?_)
          · rcases hz.kd with hk | hk | hk
            · have hst : rsStep b nm (a, v, ns, ps, op, lv, none) = (txE b (a + 4), v + 1, fxN ns ps ++ [(op, txS b (a + 4), [])], [], ((ns.length : Nat) : Int), lv + 1, some ps) := if_pos hk
              rw [hst] at hok hit
              repeat ((conv => whnf); refine ⟨by first | exact hq | ((conv => whnf); exact ⟨⟨rfl, rfl, rfl⟩, trivial⟩) | exact Early.one (by decide +kernel) (by (conv => whnf); exact ⟨rfl, rfl, rfl⟩) trivial | (unfold inI64; omega) | omega | exact ⟨by omega, by omega⟩ | exact rfl | decide +kernel, ?_⟩)
              conv => whnf
              rw [el_1 hk]
              repeat ((conv => whnf); refine ⟨by first | (unfold inI64; omega) | omega | exact ⟨by omega, by omega⟩ | exact rfl | decide +kernel, ?_⟩)
              conv => whnf
              refine head_intro (m, txE b (a + 4), v + 1, fxN ns ps ++ [(op, txS b (a + 4), [])], [], ((ns.length : Nat) : Int), lv + 1, some ps) ?_ rsH_new.symm ⟨hok, hit⟩ (Nat.lt_succ_self m)
              repeat (first | exact LeL.nil | refine LeL.drop ?_ | refine LeL.same ?_)
            · have hst : rsStep b nm (a, v, ns, ps, op, lv, none) = (a + 4, v, ns, ps, (ndAt ns op.toNat).1, lv - 1, none) := by
                show ite _ _ _ = _
                rw [if_neg (by rw [hk]; decide), if_pos hk]
              rw [hst] at hok hit
              repeat ((conv => whnf); refine ⟨by first | exact hq | ((conv => whnf); exact ⟨⟨rfl, rfl, rfl⟩, trivial⟩) | exact Early.one (by decide +kernel) (by (conv => whnf); exact ⟨rfl, rfl, rfl⟩) trivial | (unfold inI64; omega) | omega | exact ⟨by omega, by omega⟩ | exact rfl | decide +kernel, ?_⟩)
              conv => whnf
              rw [el_2 hk]
              repeat ((conv => whnf); refine ⟨by first | (unfold inI64; omega) | omega | exact ⟨by omega, by omega⟩ | exact rfl | decide +kernel, ?_⟩)
              conv => whnf
              refine head_intro (m, a + 4, v, ns, ps, (ndAt ns op.toNat).1, lv - 1, none) ?_ rfl ⟨hok, hit⟩ (Nat.lt_succ_self m)
              repeat (first | exact LeL.nil | refine LeL.drop ?_ | refine LeL.same ?_)
            · have hst : rsStep b nm (a, v, ns, ps, op, lv, none) = (prE b (a + 4), v, ns, ps ++ [prP b (a + 4) nm], op, lv, none) := by
                show ite _ _ _ = _
                rw [if_neg (by rw [hk]; decide), if_neg (by rw [hk]; decide)]
              rw [hst] at hok hit
              repeat ((conv => whnf); refine ⟨by first | exact hq | ((conv => whnf); exact ⟨⟨rfl, rfl, rfl⟩, trivial⟩) | exact Early.one (by decide +kernel) (by (conv => whnf); exact ⟨rfl, rfl, rfl⟩) trivial | (unfold inI64; omega) | omega | exact ⟨by omega, by omega⟩ | exact rfl | decide +kernel, ?_⟩)
              conv => whnf
              rw [el_3 hk]
              repeat ((conv => whnf); refine ⟨by first | (unfold inI64; omega) | omega | exact ⟨by omega, by omega⟩ | exact rfl | decide +kernel, ?_⟩)
              conv => whnf
              refine head_intro (m, prE b (a + 4), v, ns, ps ++ [prP b (a + 4) nm], op, lv, none) ?_ rfl ⟨hok, hit⟩ (Nat.lt_succ_self m)
              repeat (first | exact LeL.nil | refine LeL.drop ?_ | refine LeL.same ?_)
          · exfalso
            have : ¬ op ≥ 0 := of_decide_eq_false h
            omega
      · cases m with
        | zero =>
          obtain ⟨rfl, hn, h9, hl, hpos⟩ := hok
          cases hit
          have hg : GsOk fv fns.length (gvO fv fns fps) (ptO fps) := ⟨fns, fps, rfl, hpos, rfl, rfl⟩
          have hw : (NumOk b fa ∧ bnV b fa.toNat = 9) ∧ GsOk fv fns.length (gvO fv fns fps) (ptO fps) := ⟨⟨hn, h9⟩, hg⟩
          repeat ((conv => whnf); refine ⟨by first | exact hw | ((conv => whnf); exact ⟨⟨rfl, rfl, rfl⟩, trivial⟩) | exact Early.one (by decide +kernel) (by (conv => whnf); exact ⟨rfl, rfl, rfl⟩) trivial | (unfold inI64; omega) | omega | exact ⟨by omega, by omega⟩ | exact rfl | decide +kernel, ?_⟩)
          conv => whnf
          refine cond_intro (fun h => ?_) (fun h => ?_)
          · exfalso
            have : fa + 4 < (b.length : Nat) := of_decide_eq_true h
            omega
          repeat ((conv => whnf); refine ⟨by first | (unfold inI64; omega) | omega | exact ⟨by omega, by omega⟩ | exact rfl | decide +kernel, ?_⟩)
          conv => whnf
          exact ends_eq ⟨rfl, rfl⟩
        | succ m =>
          obtain ⟨hz, hps, hok⟩ := hok
          have ho := hz.o0
          have hit : rsIt b nm m (rsStep b nm (a, v, ns, ps, op, lv, some q)) = _ := hit
          have hq : ElOk b a nm ns op lv ∧ ns.length = ns.length ∧ ndT = ndT ∧ ns.length - 1 = ns.length - 1 ∧ 2 = 2 ∧ v = v ∧ ps.length < 100000 ∧ ptO ps = ptO ps := ⟨hz, rfl, rfl, rfl, rfl, rfl, hps, rfl⟩
          repeat ((conv => whnf); refine ⟨by first | (unfold inI64; omega) | omega | exact ⟨by omega, by omega⟩ | exact rfl | decide +kernel, ?_⟩)
          conv => whnf
          refine cond_intro (fun h => ?_) (fun h => ?_)
          · rcases hz.kd with hk | hk | hk
            · have hst : rsStep b nm (a, v, ns, ps, op, lv, some q) = (txE b (a + 4), v + 1, fxN ns ps ++ [(op, txS b (a + 4), [])], [], ((ns.length : Nat) : Int), lv + 1, some q) := if_pos hk
              rw [hst] at hok hit
              repeat ((conv => whnf); refine ⟨by first | exact hq | ((conv => whnf); exact ⟨⟨rfl, rfl, rfl⟩, trivial⟩) | exact Early.one (by decide +kernel) (by (conv => whnf); exact ⟨rfl, rfl, rfl⟩) trivial | (unfold inI64; omega) | omega | exact ⟨by omega, by omega⟩ | exact rfl | decide +kernel, ?_⟩)
              conv => whnf
              rw [el_1 hk]
              repeat ((conv => whnf); refine ⟨by first | (unfold inI64; omega) | omega | exact ⟨by omega, by omega⟩ | exact rfl | decide +kernel, ?_⟩)
              conv => whnf
              refine head_weak (m, txE b (a + 4), v + 1, fxN ns ps ++ [(op, txS b (a + 4), [])], [], ((ns.length : Nat) : Int), lv + 1, some q) (Weak.keep [0, 1, 2, 4] (by rw [rsH_new]; rfl) rfl id4x ?_) ⟨hok, hit⟩ (Nat.lt_succ_self m)
              repeat (first | exact KeepL.nil | refine KeepL.drop ?_ | refine KeepL.ren rfl ?_)
            · have hst : rsStep b nm (a, v, ns, ps, op, lv, some q) = (a + 4, v, ns, ps, (ndAt ns op.toNat).1, lv - 1, some q) := by
                show ite _ _ _ = _
                rw [if_neg (by rw [hk]; decide), if_pos hk]
              rw [hst] at hok hit
              repeat ((conv => whnf); refine ⟨by first | exact hq | ((conv => whnf); exact ⟨⟨rfl, rfl, rfl⟩, trivial⟩) | exact Early.one (by decide +kernel) (by (conv => whnf); exact ⟨rfl, rfl, rfl⟩) trivial | (unfold inI64; omega) | omega | exact ⟨by omega, by omega⟩ | exact rfl | decide +kernel, ?_⟩)
              conv => whnf
              rw [el_2 hk]
              repeat ((conv => whnf); refine ⟨by first | (unfold inI64; omega) | omega | exact ⟨by omega, by omega⟩ | exact rfl | decide +kernel, ?_⟩)
              conv => whnf
              refine head_intro (m, a + 4, v, ns, ps, (ndAt ns op.toNat).1, lv - 1, some q) ?_ rfl ⟨hok, hit⟩ (Nat.lt_succ_self m)
              repeat (first | exact LeL.nil | refine LeL.drop ?_ | refine LeL.same ?_)
            · have hst : rsStep b nm (a, v, ns, ps, op, lv, some q) = (prE b (a + 4), v, ns, ps ++ [prP b (a + 4) nm], op, lv, some q) := by
                show ite _ _ _ = _
                rw [if_neg (by rw [hk]; decide), if_neg (by rw [hk]; decide)]
              rw [hst] at hok hit
              repeat ((conv => whnf); refine ⟨by first | exact hq | ((conv => whnf); exact ⟨⟨rfl, rfl, rfl⟩, trivial⟩) | exact Early.one (by decide +kernel) (by (conv => whnf); exact ⟨rfl, rfl, rfl⟩) trivial | (unfold inI64; omega) | omega | exact ⟨by omega, by omega⟩ | exact rfl | decide +kernel, ?_⟩)
              conv => whnf
              rw [el_3 hk]
              repeat ((conv => whnf); refine ⟨by first | (unfold inI64; omega) | omega | exact ⟨by omega, by omega⟩ | exact rfl | decide +kernel, ?_⟩)
              conv => whnf
              refine head_intro (m, prE b (a + 4), v, ns, ps ++ [prP b (a + 4) nm], op, lv, some q) ?_ rfl ⟨hok, hit⟩ (Nat.lt_succ_self m)
              repeat (first | exact LeL.nil | refine LeL.drop ?_ | refine LeL.same ?_)
          · exfalso
            have : ¬ op ≥ 0 := of_decide_eq_false h
            omega
  · cases hs

def rdRow (b : List Int) (nm : ByteArray) (pl e : Int) (F : RS) : List AO := [.row [.p (.l u8C b), .int .i64 F.1, .str nm, .p (.l ndC (fxN F.2.2.1 F.2.2.2.1)), .int .i64 F.2.2.2.2.1, .int .i64 F.2.2.2.2.2.1, .int .i64 pl, .int .i64 e]]
def saysRdP (m : Nat) : Says := fun args H => match args, H with
  | [.c (.ptr 0 0)], [.row [.p (.l (.int .u8) b), .p (.v (.int .i64 a)), .p (.v (.string nm)), .p (.v (.slice none 0 0)), .p (.v (.int .i64 op)), .p (.v (.int .i64 lv)), .p (.v (.int .i64 pl)), .p (.v (.int .i64 e))]] => some (some ((NumOk b a ∧ bnV b a.toNat = 1) ∧ TxOk b (a + 4) ∧ op = -1 ∧ lv = 0 ∧ rsOk b nm m (rs0 b a)), .bool true, rdRow b nm pl e (rsE (rsIt b nm m (rs0 b a))))
  | _, _ => none
theorem rd_p (m : Nat) : TSound Try.prog (ext BD9 22 (saysRdP m)) := by
  refine ext_rowG (rd_m m) bD9 fun args H p r H' hs hp => ?_
  unfold saysRdP at hs
  split at hs
  · rename_i b a nm op lv pl e
    cases hs
    obtain ⟨F, hF⟩ : ∃ F, rsE (rsIt b nm m (rs0 b a)) = F := ⟨_, rfl⟩
    have hs1 : saysRdM m [.c (.ptr 0 0)] [.row [.p (.l (.int .u8) b), .p (.v (.int .i64 a)), .p (.v (.string nm)), .p (.v (.slice none 0 0)), .p (.v (.int .i64 op)), .p (.v (.int .i64 lv)), .p (.v (.int .i64 pl)), .p (.v (.int .i64 e))]] = some (some ((NumOk b a ∧ bnV b a.toNat = 1) ∧ TxOk b (a + 4) ∧ op = -1 ∧ lv = 0 ∧ rsOk b nm m (rs0 b a)), .bool true, rsH b nm pl e F) := by
      rw [← hF]; rfl
    rw [hF]
    obtain ⟨fa, fv, fns, fps, fop, flv, _ | fq⟩ := F
    · refine ⟨_, _, _, _, _, fns, _, _, _, fv, 3, fxN fns fps, _, hp, rfl, rfl, rfl, trivial, hs1, fun y hy => ?_, rfl⟩
      simp only [List.set, List.mem_cons, List.not_mem_nil, or_false] at hy
      rcases hy with rfl | rfl | rfl | rfl | rfl | rfl | rfl | rfl <;> exact ⟨_, rfl⟩
    · refine ⟨_, _, _, _, _, fns, _, _, _, fv, 3, fxN fns fps, _, hp, rfl, rfl, rfl, trivial, hs1, fun y hy => ?_, rfl⟩
      simp only [List.set, List.mem_cons, List.not_mem_nil, or_false] at hy
      rcases hy with rfl | rfl | rfl | rfl | rfl | rfl | rfl | rfl <;> exact ⟨_, rfl⟩
  · cases hs

open Classical in
/-- The reader's last state, if there is one. -/
@[irreducible] noncomputable def rdF (b : List Int) (nm : ByteArray) (a : Int) : RS := if h : ∃ m, rsOk b nm m (rs0 b a) then rsE (rsIt b nm (Classical.choose h) (rs0 b a)) else rs0 b a
theorem rsOk_uniq {b : List Int} {nm : ByteArray} : ∀ (m n : Nat) (s : RS), rsOk b nm m s → rsOk b nm n s → m = n := by
  intro m
  induction m with
  | zero =>
    intro n s h k
    cases n with
    | zero => rfl
    | succ n =>
      obtain ⟨a, v, ns, ps, op, lv, g⟩ := s
      have h1 : op = -1 := h.1
      have h2 := k.1.o0
      omega
  | succ m ih =>
    intro n s h k
    cases n with
    | zero =>
      obtain ⟨a, v, ns, ps, op, lv, g⟩ := s
      have h1 : op = -1 := k.1
      have h2 := h.1.o0
      omega
    | succ n =>
      obtain ⟨a, v, ns, ps, op, lv, g⟩ := s
      rw [ih n _ h.2.2 k.2.2]
theorem rdF_eq {b : List Int} {nm : ByteArray} {a : Int} {m : Nat} (h : rsOk b nm m (rs0 b a)) : rdF b nm a = rsE (rsIt b nm m (rs0 b a)) := by
  have hx : ∃ m, rsOk b nm m (rs0 b a) := ⟨m, h⟩
  have hc := rsOk_uniq _ _ _ (Classical.choose_spec hx) h
  unfold rdF
  rw [dif_pos hx, hc]
noncomputable def saysRdV : Says := fun args H => match args, H with
  | [.c (.ptr 0 0)], [.row [.p (.l (.int .u8) b), .p (.v (.int .i64 a)), .p (.v (.string nm)), .p (.v (.slice none 0 0)), .p (.v (.int .i64 op)), .p (.v (.int .i64 lv)), .p (.v (.int .i64 pl)), .p (.v (.int .i64 e))]] => some (some ((NumOk b a ∧ bnV b a.toNat = 1) ∧ TxOk b (a + 4) ∧ op = -1 ∧ lv = 0 ∧ ∃ m, rsOk b nm m (rs0 b a)), .bool true, rdRow b nm pl e (rdF b nm a))
  | _, _ => none
noncomputable def BD10 : Table := ext BD9 22 saysRdV
theorem bD10 : TSound Try.prog BD10 := by
  refine ext_fam rd_p bD9 fun args H p r H' hs hp => ?_
  unfold saysRdV at hs
  split at hs
  · rename_i b a nm op lv pl e
    cases hs
    obtain ⟨h1, h2, h3, h4, m, h5⟩ := hp
    refine ⟨m, some ((NumOk b a ∧ bnV b a.toNat = 1) ∧ TxOk b (a + 4) ∧ op = -1 ∧ lv = 0 ∧ rsOk b nm m (rs0 b a)), ⟨h1, h2, h3, h4, h5⟩, ?_⟩
    rw [rdF_eq h5]
    rfl
  · cases hs

structure NrOk (b : List Int) : Prop where
  n8 : NumOk b 8
  ge : 0 ≤ bnV b 8
  le : 28 + bnV b 8 ≤ (b.length : Nat)
def nrE (b : List Int) : Int := 28 + bnV b 8
def saysNrG : Says := fun args H => match args, H with
  | [.c (.p (.l (.int .u8) b))], [] => some (some (NrOk b), .a (.c (.ptr 0 0)), hqN ((b.take (nrE b).toNat).drop 0) 28 (bytesOf ((b.take b.length).drop (nrE b).toNat)) (-1) 0 0 0)
  | _, _ => none
noncomputable def BD11 : Table := ext BD10 21 saysNrG
theorem bD11 : TSound Try.prog BD11 := by
  refine ext_run bD10 (f := 21) (fn := Try.f21) rfl rfl [0, 2, 3] fun args H p r H' hs hp => ?_
  unfold saysNrG at hs
  split at hs
  · rename_i b
    cases hs
    have hb : NrOk b := hp
    have h0 := hb.ge
    have h1 := hb.le
    have h2 := hb.n8.len
    refine ⟨Nat.le_of_ble_eq_true rfl, [0], rfl, fun k hk => absurd hk (Nat.not_lt_zero k), ?_⟩
    have hq : [AV.c (.p (.l u8C b)), AV.c (.int .i64 8)] = eaBI (b, 8) ∧ (0 ≤ (8 : Int) ∧ (8 : Int) + 4 ≤ (b.length : Nat) ∧ b.length ≤ 1000000000 ∧ BtL b) := ⟨rfl, by decide, hb.n8.le, h2, hb.n8.byt⟩
    have hb2 : 0 ≤ (0 : Int) ∧ (0 : Int) ≤ 28 + bnV b 8 ∧ (28 : Int) + bnV b 8 ≤ (b.length : Nat) := by omega
    have hb3 : 0 ≤ (28 : Int) + bnV b 8 ∧ (28 : Int) + bnV b 8 ≤ (b.length : Nat) ∧ ((b.length : Nat) : Int) ≤ (b.length : Nat) := by omega
    have hi : inI64 (28 + bnV b 8) := by unfold inI64; omega
    repeat ((conv => whnf); refine ⟨by first | exact hq | exact hi | exact hb2 | exact hb3 | ((conv => whnf); exact ⟨⟨rfl, rfl, rfl⟩, trivial⟩) | exact Early.one (by decide +kernel) (by (conv => whnf); exact ⟨rfl, rfl, rfl⟩) trivial | (unfold inI64; omega) | omega | exact ⟨by omega, by omega⟩ | exact rfl | decide +kernel, ?_⟩)
    conv => whnf
    exact ends_eq ⟨rfl, rfl⟩
  · cases hs

structure HdG (b : List Int) : Prop where
  byt : BtL b
  ge : 28 ≤ b.length
  mx : b.length ≤ 40000
  n0 : bnV b 0 = 3490578157
  n4 : bnV b 4 = (b.length : Nat)
  s0 : 0 ≤ bnV b 8
  k0 : 0 ≤ bnV b 12
  al : ((alN (bnV b 8).toNat : Nat) : Int) = bnV b 8
  n12 : 28 + bnV b 8 + bnV b 12 = (b.length : Nat)
  n16 : bnV b 16 = sumV ((b.take (28 + bnV b 8).toNat).drop 28)
  n20 : bnV b 20 = sumV ((b.take b.length).drop (28 + bnV b 8).toNat)
  n24 : bnV b 24 = sumV ((b.take 24).drop 0)
noncomputable def BD12 : Table := ext BD11 20 (saysG daB eaB fun b => (some (HdG b), .tup [.c (.int .i64 0), .c (.int .i64 0)]))
theorem bD12 : TSound Try.prog BD12 := by
  refine extG bD11 20 (fn := Try.f20) rfl rfl daB eaB _ (fun _ => Nat.le_of_ble_eq_true rfl) [0, 2, 3, 4, 5, 6, 7, 10, 21, 25, 32, 48, 55, 61, 69] fun b hok => ?_
  have hb : HdG b := hok
  have hl := hb.ge
  have hmx := hb.mx
  dsimp only
  have hnum : ∀ a : Int, 0 ≤ a → a ≤ 24 → [AV.c (.p (.l u8C b)), AV.c (.int .i64 a)] = eaBI (b, a) ∧ (0 ≤ a ∧ a + 4 ≤ (b.length : Nat) ∧ b.length ≤ 1000000000 ∧ BtL b) := fun a h0 h1 => ⟨rfl, h0, by omega, by omega, hb.byt⟩
  obtain ⟨S, hS⟩ : ∃ S, bnV b 8 = S := ⟨_, rfl⟩
  obtain ⟨K, hK⟩ : ∃ K, bnV b 12 = K := ⟨_, rfl⟩
  have hs0 := hb.s0
  have hk0 := hb.k0
  have h12 := hb.n12
  have hal := hb.al
  have h16 := hb.n16
  have h20 := hb.n20
  rw [hS] at hs0 h12 hal h16 h20
  rw [hK] at hk0 h12
  repeat ((conv => whnf); refine ⟨by first | exact hnum _ (by decide) (by decide) | ((conv => whnf); exact ⟨⟨rfl, rfl, rfl⟩, trivial⟩) | exact Early.one (by decide +kernel) (by (conv => whnf); exact ⟨rfl, rfl, rfl⟩) trivial | (unfold inI64; omega) | omega | exact ⟨by omega, by omega⟩ | exact rfl | decide +kernel, ?_⟩)
  conv => whnf
  refine cond_intro (fun h => ?_) (fun h => ?_)
  · exfalso
    have : ((b.length : Nat) : Int) < 28 := of_decide_eq_true h
    omega
  have hi1 : inI64 (28 + S) := by unfold inI64; omega
  have hi2 : inI64 (28 + S + K) := by unfold inI64; omega
  have hsl : ∀ i j, ((b.take i).drop j).length ≤ 1000000000 := fun i j => by rw [List.length_drop, List.length_take]; omega
  have hb1 : 0 ≤ (0 : Int) ∧ (0 : Int) ≤ 24 ∧ (24 : Int) ≤ (b.length : Nat) := by omega
  have hb2 : 0 ≤ (28 : Int) ∧ (28 : Int) ≤ 28 + S ∧ (28 : Int) + S ≤ (b.length : Nat) := by omega
  have hb3 : 0 ≤ (28 : Int) + S ∧ (28 : Int) + S ≤ (b.length : Nat) ∧ ((b.length : Nat) : Int) ≤ (b.length : Nat) := by omega
  have hi0 : inI64 (28 + bnV b 8) := by rw [hS]; exact hi1
  repeat ((conv => whnf); refine ⟨by first | exact hi0 | exact hnum _ (by decide) (by decide) | ((conv => whnf); exact ⟨⟨rfl, rfl, rfl⟩, trivial⟩) | exact Early.one (by decide +kernel) (by (conv => whnf); exact ⟨rfl, rfl, rfl⟩) trivial | (unfold inI64; omega) | omega | exact ⟨by omega, by omega⟩ | exact rfl | decide +kernel, ?_⟩)
  conv => whnf
  rw [show bnV b (Int.toNat 8) = S from hS, show bnV b (Int.toNat 4) = (b.length : Nat) from hb.n4, show bnV b (Int.toNat 12) = K from hK]
  repeat ((conv => whnf); refine ⟨by first | exact hi1 | exact hnum _ (by decide) (by decide) | ((conv => whnf); exact ⟨⟨rfl, rfl, rfl⟩, trivial⟩) | exact Early.one (by decide +kernel) (by (conv => whnf); exact ⟨rfl, rfl, rfl⟩) trivial | (unfold inI64; omega) | omega | exact ⟨by omega, by omega⟩ | exact rfl | decide +kernel, ?_⟩)
  conv => whnf
  rw [show bnV b (Int.toNat 0) = 3490578157 from hb.n0]
  repeat ((conv => whnf); refine ⟨by first | exact hb1 | exact hnum _ (by decide) (by decide) | exact ⟨rfl, hsl _ _⟩ | ((conv => whnf); exact ⟨⟨rfl, rfl, rfl⟩, trivial⟩) | exact Early.one (by decide +kernel) (by (conv => whnf); exact ⟨rfl, rfl, rfl⟩) trivial | (unfold inI64; omega) | omega | exact ⟨by omega, by omega⟩ | exact rfl | decide +kernel, ?_⟩)
  conv => whnf
  rw [show bnV b (Int.toNat 24) = sumV ((b.take (Int.toNat 24)).drop (Int.toNat 0)) from hb.n24]
  refine cond_intro (fun h2 => ?_) (fun h2 => ?_)
  · exact (nd_self h2).elim
  have hx3 : [AV.c (.int .i64 S)] = eaI1 S ∧ (0 ≤ S ∧ S ≤ 1000000000000) := ⟨rfl, hs0, by omega⟩
  repeat ((conv => whnf); refine ⟨by first | exact hi2 | exact fun _ => hx3 | exact hx3 | ((conv => whnf); exact ⟨⟨rfl, rfl, rfl⟩, trivial⟩) | exact Early.one (by decide +kernel) (by (conv => whnf); exact ⟨rfl, rfl, rfl⟩) trivial | (unfold inI64; omega) | omega | exact ⟨by omega, by omega⟩ | exact rfl | decide +kernel, ?_⟩)
  conv => whnf
  refine cond_intro (fun h3 => ?_) (fun h3 => ?_)
  · exfalso
    rw [Bool.or_eq_true, Bool.or_eq_true] at h3
    rcases h3 with (h3 | h3) | h3
    · rw [decide_eq_true (show ((b.length : Nat) : Int) = 28 + S + K by omega)] at h3
      cases h3
    · have : (40000 : Int) < (b.length : Nat) := of_decide_eq_true h3
      omega
    · rw [decide_eq_true (show S = ((alN S.toNat : Nat) : Int) from hal.symm)] at h3
      cases h3
  repeat ((conv => whnf); refine ⟨by first | (unfold inI64; omega) | omega | exact ⟨by omega, by omega⟩ | exact rfl | decide +kernel, ?_⟩)
  conv => whnf
  refine cond_intro (fun h4 => ?_) (fun h4 => ?_)
  · exfalso
    have : ((b.length : Nat) : Int) < (b.length : Nat) := of_decide_eq_true h4
    omega
  repeat ((conv => whnf); refine ⟨by first | (unfold inI64; omega) | omega | exact ⟨by omega, by omega⟩ | exact rfl | decide +kernel, ?_⟩)
  conv => whnf
  refine cond_intro (fun h5 => ?_) (fun h5 => ?_)
  · exfalso
    have : ((b.length : Nat) : Int) < (b.length : Nat) := of_decide_eq_true h5
    omega
  repeat ((conv => whnf); refine ⟨by first | exact hb2 | exact hnum _ (by decide) (by decide) | exact ⟨rfl, hsl _ _⟩ | ((conv => whnf); exact ⟨⟨rfl, rfl, rfl⟩, trivial⟩) | exact Early.one (by decide +kernel) (by (conv => whnf); exact ⟨rfl, rfl, rfl⟩) trivial | (unfold inI64; omega) | omega | exact ⟨by omega, by omega⟩ | exact rfl | decide +kernel, ?_⟩)
  conv => whnf
  rw [show bnV b (Int.toNat 16) = sumV ((b.take (Int.toNat (28 + S))).drop (Int.toNat 28)) from h16]
  refine cond_intro (fun h6 => ?_) (fun h6 => ?_)
  · exact (nd_self h6).elim
  repeat ((conv => whnf); refine ⟨by first | exact hb3 | exact hnum _ (by decide) (by decide) | exact ⟨rfl, hsl _ _⟩ | ((conv => whnf); exact ⟨⟨rfl, rfl, rfl⟩, trivial⟩) | exact Early.one (by decide +kernel) (by (conv => whnf); exact ⟨rfl, rfl, rfl⟩) trivial | (unfold inI64; omega) | omega | exact ⟨by omega, by omega⟩ | exact rfl | decide +kernel, ?_⟩)
  conv => whnf
  rw [show bnV b (Int.toNat 20) = sumV ((b.take (Int.toNat ((b.length : Nat) : Int))).drop (Int.toNat (28 + S))) from h20]
  refine cond_intro (fun h7 => ?_) (fun h7 => ?_)
  · exact (nd_self h7).elim
  repeat ((conv => whnf); refine ⟨by first | (unfold inI64; omega) | omega | exact ⟨by omega, by omega⟩ | exact rfl | decide +kernel, ?_⟩)
  conv => whnf
  exact ends_eq ⟨rfl, rfl⟩

/-- The structure and the strings of an encoding, the nodes that are read in it. -/
def dcB (b : List Int) : List Int := (b.take (nrE b).toNat).drop 0
def dcS (b : List Int) : ByteArray := bytesOf ((b.take b.length).drop (nrE b).toNat)
noncomputable def dcN (b : List Int) : List Nd := fxN (rdF (dcB b) (dcS b) 28).2.2.1 (rdF (dcB b) (dcS b) 28).2.2.2.1
structure DcOk (b : List Int) : Prop where
  hd : HdG b
  nr : NrOk b
  num : NumOk (dcB b) 28
  n28 : bnV (dcB b) 28 = 1
  tx : TxOk (dcB b) 32
  rs : ∃ m, rsOk (dcB b) (dcS b) m (rs0 (dcB b) 28)
  vl : Vl (dcN b)
  enc : encV (dcN b) = b
noncomputable def BD13 : Table := ext BD12 10 (saysG daB eaB fun b => (some (DcOk b), decR (dcN b)))
theorem bD13 : TSound Try.prog BD13 := by
  refine extG bD12 10 (fn := Try.f10) rfl rfl daB eaB _ (fun _ => Nat.le_of_ble_eq_true rfl) [0, 2, 3, 4, 5, 6, 7, 8, 9, 10, 17, 25, 43, 54] fun b hok => ?_
  have hb : DcOk b := hok
  have hh : HdG b := hb.hd
  have hn : NrOk b := hb.nr
  have hc : chkP (dcN b) = 0 := vl_chk hb.vl
  have hv : Vl (dcN b) := hb.vl
  have he : encV (dcN b) = b := hb.enc
  have hl : b.length ≤ 1000000000 := by have := hh.mx; omega
  have hq : (NumOk (dcB b) 28 ∧ bnV (dcB b) (Int.toNat 28) = 1) ∧ TxOk (dcB b) (28 + 4) ∧ (-1 : Int) = -1 ∧ (0 : Int) = 0 ∧ ∃ m, rsOk (dcB b) (dcS b) m (rs0 (dcB b) 28) := ⟨⟨hb.num, hb.n28⟩, hb.tx, rfl, rfl, hb.rs⟩
  dsimp only
  repeat ((conv => whnf); refine ⟨by first | exact ⟨rfl, hh⟩ | exact hn | exact hq | exact ⟨rfl, trivial⟩ | exact ⟨rfl, hv⟩ | ((conv => whnf); exact ⟨⟨rfl, rfl, rfl⟩, trivial⟩) | exact Early.one (by decide +kernel) (by (conv => whnf); exact ⟨rfl, rfl, rfl⟩) trivial | (unfold inI64; omega) | omega | exact ⟨by omega, by omega⟩ | exact rfl | decide +kernel, ?_⟩)
  conv => whnf
  refine cond_intro (fun h => ?_) (fun h => ?_)
  · exfalso
    have h2 : (!decide (chkP (dcN b) = 0)) = true := h
    rw [hc] at h2
    cases h2
  repeat ((conv => whnf); refine ⟨by first | exact ⟨rfl, hv⟩ | exact ⟨rfl, he.symm, hl⟩ | ((conv => whnf); exact ⟨⟨rfl, rfl, rfl⟩, trivial⟩) | exact Early.one (by decide +kernel) (by (conv => whnf); exact ⟨rfl, rfl, rfl⟩) trivial | (unfold inI64; omega) | omega | exact ⟨by omega, by omega⟩ | exact rfl | decide +kernel, ?_⟩)
  conv => whnf
  exact ends_eq ⟨rfl, rfl⟩
end Go.Ab
