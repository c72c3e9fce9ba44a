/- Every expression that the tape draws with all brackets has the value that its signs say: the law holds for every tape. -/
import Derived.Test.YtedoneigmfdopaaGreatDoorTV14toG4
import Derived.Test.YtedoneigmfdopaaGreatDoorTV25
namespace Go.Proofs.YtedoneigmfdopaaGreatDoor.expressionValues
open Go Go.ChangeShapes Go.WideShapes Go.ChangeAt Go.RowKit
open Go.ChangeMaps (open_string shut_string)
set_option linter.unusedVariables false

set_option maxRecDepth 100000 in
theorem walk (a0 : Option Addr) (len0 cap0 : Nat) (z0 : List Int) (w : World) (w0 : Go.Ab.IsRow .i64 w a0 len0 cap0 z0) (wz0 : ∀ n ∈ z0, (Lit.int .i64 n).wf = true) (m : Int) (hm : w.cell? ⟨1, 0, none⟩ = some (.int .i64 m)) (h15 : w.cell? ⟨3, 15, none⟩ = some (.int .u8 4)) :
    Calls Tryz.prog 4 #[.slice a0 len0 cap0] w fun e w' => e = .returned (.bool true) ∧ Below w.heap.size w w' := by
  let base : Go.Ab.Base := ⟨[⟨1, 0, .int .i64, m⟩, ⟨3, 15, .int .u8, (4 : Int)⟩]⟩
  let glob : Go.Ab.Glob := { toBase := base, hm := ⟨m, List.mem_cons_self ..⟩ }
  let globX : Go.Ab.GlobX := { toGlob := glob, ht := List.mem_cons_of_mem _ (List.mem_cons_self ..) }
  have f0 : ∀ n ∈ z0.take len0, -9223372036854775808 ≤ n ∧ n ≤ 9223372036854775807 := fun n hn => by simpa [Lit.wf, IntKind.min, IntKind.max, IntKind.signed, IntKind.bits] using wz0 n (List.mem_of_mem_take hn)
  refine Go.Ab.law_of (P := Tryz.prog) (T := Go.Ab.X70) Go.Ab.x70 (f := 4) (fn := Tryz.f4) rfl rfl rfl (args := [.c (.p (.l (.int .i64) (z0.take len0)))]) rfl trivial
    (I := fun b o => ((b = 1 ∧ o = 0) ∨ (b = 3 ∧ o = 15)) ∨ Go.Ab.RowCells a0 cap0 b o) (w := w) (cargs := [.slice a0 len0 cap0]) ?_ ?_ ?_
  · intro v hv
    rcases List.mem_cons.1 hv with rfl | hv
    · refine ⟨[.int .i64 m], rfl, fun j u hj => ?_⟩
      cases j with
      | zero => cases hj; exact ⟨.inl (.inl ⟨rfl, rfl⟩), hm⟩
      | succ j => simp at hj
    · obtain rfl := List.mem_singleton.1 hv
      refine ⟨[.int .u8 4], rfl, fun j u hj => ?_⟩
      cases j with
      | zero => cases hj; exact ⟨.inl (.inr ⟨rfl, rfl⟩), h15⟩
      | succ j => simp at hj
  · rintro b o ((⟨rfl, rfl⟩ | ⟨rfl, rfl⟩) | h)
    · exact Go.Ab.cell_lt hm
    · exact Go.Ab.cell_lt h15
    · exact Go.Ab.isRow_lt w0 b o h
  · exact (.cons (Go.Ab.isRow_rep w0 fun b o h => .inr h) .nil)

set_option maxRecDepth 100000 in
theorem lifted (os : Os) (started : os.Started) (H : Type) (enc : TypeId × Value → H) :
    ReturnsInHanded {} Tryz.checked os 4 .any (fun w args => (Rows.expressionValuesSpec.pre enc Tryz.prog Tryz.f4 Rows.expressionValuesRow.domain false w args ∧ laidMetH Tryz.prog lay w) ∧ sizedMet enc Tryz.prog Tryz.f4 (OpenSpec.ofChange Rows.expressionValuesSpec) false w args)
      (Rows.expressionValuesSpec.post enc Tryz.prog Tryz.f4 false true false false) := by
  refine bridge (C := Tryz.checked) (X := fun w _ => laidMetH Tryz.prog lay w) (fun _ _ _ hh h => h.of_heap hh) own started (by kernel_rfl) Tryz.func4
    (ChangeSpec.witness_shaped (enc := enc) (C := Tryz.checked) (os := os) (X := fun w _ => laidMetH Tryz.prog lay w) false (World.doorLaid Tryz.prog 4000 os) #[.slice none 0 0] 8 rfl (World.shaped_of_RefB (by kernel_rfl) (by kernel_rfl)) (by kernel_rfl) (by kernel_rfl) (by kernel_rfl) (door_met os _)) ?_
  intro W base args ds gs before hval0 hW hL hsh
  have hval : ∀ (j : Nat) t v, Tryz.f4.params[j]? = some t → args[j]? = some v → Value.okWide Tryz.prog W .any base t v := hval0
  have hW' := hW
  obtain ⟨p, q, hA0, hV, rfl, hfz, hnd⟩ := hW
  have hA : DataW.TrodAll enc Tryz.prog W 0 (fun _ => true) true Tryz.f4.params.toList args.toList ds p := hA0
  rw [Tryz.params4] at hA hval
  obtain ⟨v0, vs0, d0, ds0, p0, q0, hargs, rfl, rfl, h0, r0⟩ := trodAll_cons hA
  obtain ⟨rfl, rfl, rfl⟩ := trodAll_nil r0
  obtain rfl : args = #[v0] := by cases args; simp_all
  obtain ⟨rfl, rfl⟩ := trodVars_none hV
  obtain ⟨a0, len0, cap0, rfl⟩ := okWide_slice Tryz.underlying22 (hval 0 22 v0 rfl rfl)
  have ok0 := hval 0 22 _ rfl rfl
  have k0 := h0
  have lt0 : ∀ x ∈ p0, x.block < W.heap.size := by obtain ⟨m, hm⟩ := k0; exact DataW.trod_lt m _ _ _ hm
  obtain ⟨z0, w0, wz0⟩ : ∃ zs, Go.Ab.IsRow .i64 W a0 len0 cap0 zs ∧ ∀ n ∈ zs, (Lit.int .i64 n).wf = true := by
    obtain ⟨fuel, hf⟩ := h0
    rcases open_ints Tryz.underlying22 Tryz.underlying3 (by kernel_rfl) hf with ⟨hcs, _⟩ | ⟨x, l, c, zs, hcs, _, hl, hm, hz, _, hcell, hwz⟩
    · simp [Value.cells] at hcs
      obtain ⟨rfl, rfl, rfl⟩ := hcs
      exact ⟨[], .inl ⟨rfl, rfl, rfl, rfl⟩, fun n hn => by cases hn⟩
    · simp [Value.cells] at hcs
      obtain ⟨rfl, rfl, rfl⟩ := hcs
      exact ⟨zs, Go.Ab.isRow_of (Go.Ab.slice_spot Tryz.underlying22 ok0) hl (by simpa using hz) hcell, hwz⟩
  obtain ⟨m, hm⟩ : ∃ m, W.cell? ⟨1, 0, none⟩ = some (.int .i64 m) := Tryz.laysM143.s1_3 W hsh
  have h15 := of_laid hL
  clear hA0 hval0
  refine (walk a0 len0 cap0 z0 W w0 wz0 m hm h15).mono fun e W' ⟨he, bel⟩ => ?_
  subst he
  exact ⟨_, rfl, _, _, _, [], _, [], hW', trodAll_mk1 (shut_bool Tryz.underlying4 _), (trodAll_cons_mk (Below.trod laidOut (by kernel_rfl) (of_decide_eq_true (by kernel_rfl)) k0 bel lt0) trodAll_mk0), rfl, bel.frame _, fun h => by cases h⟩

theorem over : Rows.ExpressionValuesSaid :=
  OpenClaim.holds_of_wide 4 Tryz.f4 rfl rfl rfl rfl rfl rfl rfl ⟨rfl, rfl, rfl, rfl, rfl⟩ rfl rfl rfl rfl rfl (by kernel_rfl) Tryz.func4 (by kernel_rfl)
    (of_decide_eq_true (by kernel_rfl)) (by unfold Func.isWrapper; first | (rw [if_pos (by decide +kernel)]; kernel_rfl) | (rw [if_neg (by decide +kernel)]; exact ⟨rfl, rfl⟩))
    (fun os started H enc _ => lifted os started H enc)

theorem proved : Rows.ExpressionValuesCardSaid :=
  Claim7.holds_tied_plain_at .later [] [.data, .data, .data] true (true, "c45d292a442a69eb652e6deb0af63cf72f7c6701fd8b421b9c959d52f5035332") false
    over (fun _ h => by cases h) (by kernel_rfl) (fun _ h => by cases h) expressionValues_row_tie rfl ⟨rfl, rfl⟩ (by kernel_rfl) rfl
    (fun f fn hf hfn => by
      obtain rfl : f = 4 := Option.some.inj ((show Tryz.prog.funcNamed "bringup/bringuplaw02.ExpressionValues" = some 4 by kernel_rfl).symm.trans hf) |>.symm
      obtain rfl : fn = Tryz.f4 := (Option.some.inj (Tryz.func4.symm.trans hfn)).symm
      exact ⟨by kernel_rfl, fun j t ht => by
        rw [Tryz.params4] at ht
        have hm : t ∈ [22] := by simpa using Array.mem_of_getElem? ht
        have hall : ([22].all fun u => !Tryz.prog.wantsStandIn u) = true := by kernel_rfl
        exact (show Tryz.prog.wantsStandIn t = false by simpa using List.all_eq_true.1 hall t hm)⟩)
    (by kernel_rfl)
#print axioms proved
end Go.Proofs.YtedoneigmfdopaaGreatDoor.expressionValues
