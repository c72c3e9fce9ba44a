/- A row of question marks and colons without brackets has the first value whose condition is not 0, and otherwise the last: the law of choices holds for every input. -/
import Derived.Test.YtjphgbdjdldpjaaDoorTV19
import Derived.Test.YtjphgbdjdldpjaaDoorTV18
namespace Go.Proofs.YtjphgbdjdldpjaaDoor.expressionChoices
open Go Go.ChangeShapes Go.WideShapes Go.ChangeAt Go.RowKit
open Go.ChangeMaps (open_string shut_string)
set_option linter.unusedVariables false

set_option maxRecDepth 100000 in
theorem walk (a0 : Option Addr) (len0 cap0 : Nat) (z0 : List Int) (a1 : Int) (w : World) (w0 : Go.Ab.IsRow .u8 w a0 len0 cap0 z0) (wz0 : ∀ n ∈ z0, (Lit.int .u8 n).wf = true) (w1 : (Lit.int .u16 a1).wf = true) (m : Int) (hm : w.cell? ⟨3, 0, none⟩ = some (.int .i64 m)) (h15 : w.cell? ⟨2, 15, none⟩ = some (.int .u8 4)) :
    Calls Tryd.prog 4 #[.slice a0 len0 cap0, .int .u16 a1] w fun e w' => e = .returned (.bool true) ∧ Below w.heap.size w w' := by
  let base : Go.Ab.Base := ⟨[⟨3, 0, .int .i64, m⟩, ⟨2, 15, .int .u8, (4 : Int)⟩]⟩
  let glob : Go.Ab.Glob := { toBase := base, hm := ⟨m, List.mem_cons_self ..⟩ }
  let globX : Go.Ab.GlobX := { toGlob := glob, ht := List.mem_cons_of_mem _ (List.mem_cons_self ..) }
  have f0 : ∀ n ∈ z0.take len0, 0 ≤ n ∧ n ≤ 255 := fun n hn => by simpa [Lit.wf, IntKind.min, IntKind.max, IntKind.signed, IntKind.bits] using wz0 n (List.mem_of_mem_take hn)
  have b1 : 0 ≤ a1 ∧ a1 ≤ 65535 := by simpa [Lit.wf, IntKind.min, IntKind.max, IntKind.signed, IntKind.bits] using w1
  refine Go.Ab.law_of (P := Tryd.prog) (T := Go.Ab.X54) Go.Ab.x54 (f := 4) (fn := Tryd.f4) rfl rfl rfl (args := [.c (.p (.l (.int .u8) (z0.take len0))), .c (.p (.v (.int .u16 a1)))]) rfl ⟨f0, b1⟩
    (I := fun b o => ((b = 3 ∧ o = 0) ∨ (b = 2 ∧ o = 15)) ∨ Go.Ab.RowCells a0 cap0 b o) (w := w) (cargs := [.slice a0 len0 cap0, .int .u16 a1]) ?_ ?_ ?_
  · intro v hv
    rcases List.mem_cons.1 hv with rfl | hv
    · refine ⟨[.int .i64 m], rfl, fun j u hj => ?_⟩
      cases j with
      | zero => cases hj; exact ⟨.inl (.inl ⟨rfl, rfl⟩), hm⟩
      | succ j => simp at hj
    · obtain rfl := List.mem_singleton.1 hv
      refine ⟨[.int .u8 4], rfl, fun j u hj => ?_⟩
      cases j with
      | zero => cases hj; exact ⟨.inl (.inr ⟨rfl, rfl⟩), h15⟩
      | succ j => simp at hj
  · rintro b o ((⟨rfl, rfl⟩ | ⟨rfl, rfl⟩) | h)
    · exact Go.Ab.cell_lt hm
    · exact Go.Ab.cell_lt h15
    · exact Go.Ab.isRow_lt w0 b o h
  · exact (.cons (Go.Ab.isRow_rep w0 fun b o h => .inr h) (.cons ⟨rfl, rfl⟩ .nil))

set_option maxRecDepth 100000 in
theorem lifted (os : Os) (started : os.Started) (H : Type) (enc : TypeId × Value → H) :
    ReturnsInHanded {} Tryd.checked os 4 .any (fun w args => (Rows.expressionChoicesSpec.pre enc Tryd.prog Tryd.f4 Rows.expressionChoicesRow.domain false w args ∧ laidMetH Tryd.prog lay w) ∧ sizedMet enc Tryd.prog Tryd.f4 (OpenSpec.ofChange Rows.expressionChoicesSpec) false w args)
      (Rows.expressionChoicesSpec.post enc Tryd.prog Tryd.f4 false true false false) := by
  refine bridge (C := Tryd.checked) (X := fun w _ => laidMetH Tryd.prog lay w) (fun _ _ _ hh h => h.of_heap hh) own started (by kernel_rfl) Tryd.func4
    (ChangeSpec.witness_shaped (enc := enc) (C := Tryd.checked) (os := os) (X := fun w _ => laidMetH Tryd.prog lay w) false (World.doorLaid Tryd.prog 4000 os) #[.slice none 0 0, .int .u16 0] 8 rfl (World.shaped_of_RefB (by kernel_rfl) (by kernel_rfl)) (by kernel_rfl) (by kernel_rfl) (by kernel_rfl) (door_met os _)) ?_
  intro W base args ds gs before hval0 hW hL hsh
  have hval : ∀ (j : Nat) t v, Tryd.f4.params[j]? = some t → args[j]? = some v → Value.okWide Tryd.prog W .any base t v := hval0
  have hW' := hW
  obtain ⟨p, q, hA0, hV, rfl, hfz, hnd⟩ := hW
  have hA : DataW.TrodAll enc Tryd.prog W 0 (fun _ => true) true Tryd.f4.params.toList args.toList ds p := hA0
  rw [Tryd.params4] at hA hval
  obtain ⟨v0, vs0, d0, ds0, p0, q0, hargs, rfl, rfl, h0, r0⟩ := trodAll_cons hA
  obtain ⟨v1, vs1, d1, ds1, p1, q1, rfl, rfl, rfl, h1, r1⟩ := trodAll_cons r0
  obtain ⟨rfl, rfl, rfl⟩ := trodAll_nil r1
  obtain rfl : args = #[v0, v1] := by cases args; simp_all
  obtain ⟨rfl, rfl⟩ := trodVars_none hV
  obtain ⟨a0, len0, cap0, rfl⟩ := okWide_slice Tryd.underlying31 (hval 0 31 v0 rfl rfl)
  have ok0 := hval 0 31 _ rfl rfl
  have k0 := h0
  have lt0 : ∀ x ∈ p0, x.block < W.heap.size := by obtain ⟨m, hm⟩ := k0; exact DataW.trod_lt m _ _ _ hm
  obtain ⟨z0, w0, wz0⟩ : ∃ zs, Go.Ab.IsRow .u8 W a0 len0 cap0 zs ∧ ∀ n ∈ zs, (Lit.int .u8 n).wf = true := by
    obtain ⟨fuel, hf⟩ := h0
    rcases open_ints Tryd.underlying31 Tryd.underlying5 (by kernel_rfl) hf with ⟨hcs, _⟩ | ⟨x, l, c, zs, hcs, _, hl, hm, hz, _, hcell, hwz⟩
    · simp [Value.cells] at hcs
      obtain ⟨rfl, rfl, rfl⟩ := hcs
      exact ⟨[], .inl ⟨rfl, rfl, rfl, rfl⟩, fun n hn => by cases hn⟩
    · simp [Value.cells] at hcs
      obtain ⟨rfl, rfl, rfl⟩ := hcs
      exact ⟨zs, Go.Ab.isRow_of (Go.Ab.slice_spot Tryd.underlying31 ok0) hl (by simpa using hz) hcell, hwz⟩
  obtain ⟨a1, rfl, rfl, rfl, w1⟩ := open_int Tryd.underlying32 (hval 1 32 v1 rfl rfl) h1
  obtain ⟨m, hm⟩ : ∃ m, W.cell? ⟨3, 0, none⟩ = some (.int .i64 m) := Tryd.laysM143.s1_3 W hsh
  have h15 := of_laid hL
  clear hA0 hval0
  refine (walk a0 len0 cap0 z0 a1 W w0 wz0 w1 m hm h15).mono fun e W' ⟨he, bel⟩ => ?_
  subst he
  exact ⟨_, rfl, _, _, _, [], _, [], hW', trodAll_mk1 (shut_bool Tryd.underlying4 _), (trodAll_cons_mk (Below.trod laidOut (by kernel_rfl) (of_decide_eq_true (by kernel_rfl)) k0 bel lt0) (trodAll_cons_mk (shut_int Tryd.underlying32 w1) trodAll_mk0)), rfl, bel.frame _, fun h => by cases h⟩

theorem over : Rows.ExpressionChoicesSaid :=
  OpenClaim.holds_of_wide 4 Tryd.f4 rfl rfl rfl rfl rfl rfl rfl ⟨rfl, rfl, rfl, rfl, rfl⟩ rfl rfl rfl rfl rfl (by kernel_rfl) Tryd.func4 (by kernel_rfl)
    (of_decide_eq_true (by kernel_rfl)) (by unfold Func.isWrapper; first | (rw [if_pos (by decide +kernel)]; kernel_rfl) | (rw [if_neg (by decide +kernel)]; exact ⟨rfl, rfl⟩))
    (fun os started H enc _ => lifted os started H enc)

theorem proved : Rows.ExpressionChoicesCardSaid :=
  Claim7.holds_tied_plain_at .later [] [.data, .data, .data] true (true, "61cc49144732118fa9e638e9ab1acc705e417e1d91fdef970cc85254a2732cac") false
    over (fun _ h => by cases h) (by kernel_rfl) (fun _ h => by cases h) expressionChoices_row_tie rfl ⟨rfl, rfl⟩ (by kernel_rfl) rfl
    (fun f fn hf hfn => by
      obtain rfl : f = 4 := Option.some.inj ((show Tryd.prog.funcNamed "bringup/bringuplaw02.ExpressionChoices" = some 4 by kernel_rfl).symm.trans hf) |>.symm
      obtain rfl : fn = Tryd.f4 := (Option.some.inj (Tryd.func4.symm.trans hfn)).symm
      exact ⟨by kernel_rfl, fun j t ht => by
        rw [Tryd.params4] at ht
        have hm : t ∈ [31, 32] := by simpa using Array.mem_of_getElem? ht
        have hall : ([31, 32].all fun u => !Tryd.prog.wantsStandIn u) = true := by kernel_rfl
        exact (show Tryd.prog.wantsStandIn t = false by simpa using List.all_eq_true.1 hall t hm)⟩)
    (by kernel_rfl)
#print axioms proved
end Go.Proofs.YtjphgbdjdldpjaaDoor.expressionChoices
