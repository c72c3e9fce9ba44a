/- Value, Primary, Compute and Format return what the reference returns, for every tape, text, list of tokens, place and number. -/
import Derived.Test.YteidakoieemlgaaGreatDoorTV14toG4
import Derived.Test.YteidakoieemlgaaGreatDoorTY9toY10
import Derived.Test.YteidakoieemlgaaGreatDoorTU3
namespace Go.Proofs.YteidakoieemlgaaGreatDoor.expressionAnswers
open Go Go.ChangeShapes Go.WideShapes Go.ChangeAt Go.RowKit
open Go.ChangeMaps (open_string shut_string)
set_option linter.unusedVariables false

set_option maxRecDepth 100000 in
theorem walk (a0 : Option Addr) (len0 cap0 : Nat) (z0 : List Int) (a1 : ByteArray) (a2 : Option Addr) (len2 cap2 : Nat) (z2 : List Go.Ab.tkC.den) (a3 : Int) (a4 : Int) (w : World) (w0 : Go.Ab.IsRow .i64 w a0 len0 cap0 z0) (wz0 : ∀ n ∈ z0, (Lit.int .i64 n).wf = true) (w1 : a1.size ≤ maxLen) (w2 : ∀ I : Go.Ab.Cells, (∀ b o, Go.Ab.RowCells a2 (len2 * Go.Ab.tkC.width) b o → I b o) → Go.Ab.RepV I w (.l Go.Ab.tkC z2) (.slice a2 len2 cap2)) (k2 : ∀ b o, Go.Ab.RowCells a2 (len2 * Go.Ab.tkC.width) b o → b < w.heap.size) (w3 : (Lit.int .i64 a3).wf = true) (w4 : (Lit.int .i64 a4).wf = true) (m : Int) (hm : w.cell? ⟨1, 0, none⟩ = some (.int .i64 m)) (h15 : w.cell? ⟨3, 15, none⟩ = some (.int .u8 4)) :
    Calls Tryz.prog 3 #[.slice a0 len0 cap0, .string a1, .slice a2 len2 cap2, .int .i64 a3, .int .i64 a4] w fun e w' => e = .returned (.bool true) ∧ Below w.heap.size w w' := by
  let base : Go.Ab.Base := ⟨[⟨1, 0, .int .i64, m⟩, ⟨3, 15, .int .u8, (4 : Int)⟩]⟩
  let glob : Go.Ab.Glob := { toBase := base, hm := ⟨m, List.mem_cons_self ..⟩ }
  let globX : Go.Ab.GlobX := { toGlob := glob, ht := List.mem_cons_of_mem _ (List.mem_cons_self ..) }
  have f0 : ∀ n ∈ z0.take len0, -9223372036854775808 ≤ n ∧ n ≤ 9223372036854775807 := fun n hn => by simpa [Lit.wf, IntKind.min, IntKind.max, IntKind.signed, IntKind.bits] using wz0 n (List.mem_of_mem_take hn)
  have b3 : -9223372036854775808 ≤ a3 ∧ a3 ≤ 9223372036854775807 := by simpa [Lit.wf, IntKind.min, IntKind.max, IntKind.signed, IntKind.bits] using w3
  have b4 : -9223372036854775808 ≤ a4 ∧ a4 ≤ 9223372036854775807 := by simpa [Lit.wf, IntKind.min, IntKind.max, IntKind.signed, IntKind.bits] using w4
  refine Go.Ab.law_of (P := Tryz.prog) (T := (Go.Ab.P16 20000)) (Go.Ab.p16 (Nat.le_refl _)) (f := 3) (fn := Tryz.f3) rfl rfl rfl (args := [.c (.p (.l (.int .i64) (z0.take len0))), .c (.p (.v (.string a1))), .c (.p (.l Go.Ab.tkC z2)), .c (.p (.v (.int .i64 a3))), .c (.p (.v (.int .i64 a4)))]) rfl ⟨by unfold Go.Ab.inI64; omega, by unfold Go.Ab.inI64; omega⟩
    (I := fun b o => ((b = 1 ∧ o = 0) ∨ (b = 3 ∧ o = 15)) ∨ Go.Ab.RowCells a0 cap0 b o ∨ Go.Ab.RowCells a2 (len2 * Go.Ab.tkC.width) b o) (w := w) (cargs := [.slice a0 len0 cap0, .string a1, .slice a2 len2 cap2, .int .i64 a3, .int .i64 a4]) ?_ ?_ ?_
  · intro v hv
    rcases List.mem_cons.1 hv with rfl | hv
    · refine ⟨[.int .i64 m], rfl, fun j u hj => ?_⟩
      cases j with
      | zero => cases hj; exact ⟨.inl (.inl ⟨rfl, rfl⟩), hm⟩
      | succ j => simp at hj
    · obtain rfl := List.mem_singleton.1 hv
      refine ⟨[.int .u8 4], rfl, fun j u hj => ?_⟩
      cases j with
      | zero => cases hj; exact ⟨.inl (.inr ⟨rfl, rfl⟩), h15⟩
      | succ j => simp at hj
  · rintro b o ((⟨rfl, rfl⟩ | ⟨rfl, rfl⟩) | h | h)
    · exact Go.Ab.cell_lt hm
    · exact Go.Ab.cell_lt h15
    · exact Go.Ab.isRow_lt w0 b o h
    · exact k2 b o h
  · exact (.cons (Go.Ab.isRow_rep w0 fun b o h => .inr (.inl h)) (.cons ⟨rfl, rfl⟩ (.cons (w2 _ fun b o h => .inr (.inr h)) (.cons ⟨rfl, rfl⟩ (.cons ⟨rfl, rfl⟩ .nil)))))

set_option maxRecDepth 100000 in
theorem lifted (os : Os) (started : os.Started) (H : Type) (enc : TypeId × Value → H) :
    ReturnsInHanded {} Tryz.checked os 3 .any (fun w args => (Rows.expressionAnswersSpec.pre enc Tryz.prog Tryz.f3 Rows.expressionAnswersRow.domain false w args ∧ laidMetH Tryz.prog lay w) ∧ sizedMet enc Tryz.prog Tryz.f3 (OpenSpec.ofChange Rows.expressionAnswersSpec) false w args)
      (Rows.expressionAnswersSpec.post enc Tryz.prog Tryz.f3 false true false false) := by
  refine bridge (C := Tryz.checked) (X := fun w _ => laidMetH Tryz.prog lay w) (fun _ _ _ hh h => h.of_heap hh) own started (by kernel_rfl) Tryz.func3
    (ChangeSpec.witness_shaped (enc := enc) (C := Tryz.checked) (os := os) (X := fun w _ => laidMetH Tryz.prog lay w) false (World.doorLaid Tryz.prog 4000 os) #[.slice none 0 0, .string ByteArray.empty, .slice none 0 0, .int .i64 0, .int .i64 0] 8 rfl (World.shaped_of_RefB (by kernel_rfl) (by kernel_rfl)) (by kernel_rfl) (by kernel_rfl) (by kernel_rfl) (door_met os _)) ?_
  intro W base args ds gs before hval0 hW hL hsh
  have hval : ∀ (j : Nat) t v, Tryz.f3.params[j]? = some t → args[j]? = some v → Value.okWide Tryz.prog W .any base t v := hval0
  have hW' := hW
  obtain ⟨p, q, hA0, hV, rfl, hfz, hnd⟩ := hW
  have hA : DataW.TrodAll enc Tryz.prog W 0 (fun _ => true) true Tryz.f3.params.toList args.toList ds p := hA0
  rw [Tryz.params3] at hA hval
  obtain ⟨v0, vs0, d0, ds0, p0, q0, hargs, rfl, rfl, h0, r0⟩ := trodAll_cons hA
  obtain ⟨v1, vs1, d1, ds1, p1, q1, rfl, rfl, rfl, h1, r1⟩ := trodAll_cons r0
  obtain ⟨v2, vs2, d2, ds2, p2, q2, rfl, rfl, rfl, h2, r2⟩ := trodAll_cons r1
  obtain ⟨v3, vs3, d3, ds3, p3, q3, rfl, rfl, rfl, h3, r3⟩ := trodAll_cons r2
  obtain ⟨v4, vs4, d4, ds4, p4, q4, rfl, rfl, rfl, h4, r4⟩ := trodAll_cons r3
  obtain ⟨rfl, rfl, rfl⟩ := trodAll_nil r4
  obtain rfl : args = #[v0, v1, v2, v3, v4] := by cases args; simp_all
  obtain ⟨rfl, rfl⟩ := trodVars_none hV
  obtain ⟨a0, len0, cap0, rfl⟩ := okWide_slice Tryz.underlying22 (hval 0 22 v0 rfl rfl)
  have ok0 := hval 0 22 _ rfl rfl
  have k0 := h0
  have lt0 : ∀ x ∈ p0, x.block < W.heap.size := by obtain ⟨m, hm⟩ := k0; exact DataW.trod_lt m _ _ _ hm
  obtain ⟨z0, w0, wz0⟩ : ∃ zs, Go.Ab.IsRow .i64 W a0 len0 cap0 zs ∧ ∀ n ∈ zs, (Lit.int .i64 n).wf = true := by
    obtain ⟨fuel, hf⟩ := h0
    rcases open_ints Tryz.underlying22 Tryz.underlying3 (by kernel_rfl) hf with ⟨hcs, _⟩ | ⟨x, l, c, zs, hcs, _, hl, hm, hz, _, hcell, hwz⟩
    · simp [Value.cells] at hcs
      obtain ⟨rfl, rfl, rfl⟩ := hcs
      exact ⟨[], .inl ⟨rfl, rfl, rfl, rfl⟩, fun n hn => by cases hn⟩
    · simp [Value.cells] at hcs
      obtain ⟨rfl, rfl, rfl⟩ := hcs
      exact ⟨zs, Go.Ab.isRow_of (Go.Ab.slice_spot Tryz.underlying22 ok0) hl (by simpa using hz) hcell, hwz⟩
  obtain ⟨a1, rfl, rfl, rfl, w1⟩ := open_string Tryz.underlying9 (hval 1 9 v1 rfl rfl) h1
  obtain ⟨a2, len2, cap2, rfl⟩ := okWide_slice Tryz.underlying23 (hval 2 23 v2 rfl rfl)
  have ok2 := hval 2 23 _ rfl rfl
  have k2 := h2
  have lt2 : ∀ x ∈ p2, x.block < W.heap.size := by obtain ⟨m, hm⟩ := k2; exact DataW.trod_lt m _ _ _ hm
  obtain ⟨z2, _, w2, wk2⟩ := Go.Ab.flat_slice (c := Go.Ab.tkC) (d := 4) Tryz.underlying23 (by kernel_rfl) (by kernel_rfl) k2 ok2 rfl
  obtain ⟨a3, rfl, rfl, rfl, w3⟩ := open_int Tryz.underlying3 (hval 3 3 v3 rfl rfl) h3
  obtain ⟨a4, rfl, rfl, rfl, w4⟩ := open_int Tryz.underlying3 (hval 4 3 v4 rfl rfl) h4
  obtain ⟨m, hm⟩ : ∃ m, W.cell? ⟨1, 0, none⟩ = some (.int .i64 m) := Tryz.laysM143.s1_3 W hsh
  have h15 := of_laid hL
  clear hA0 hval0
  refine (walk a0 len0 cap0 z0 a1 a2 len2 cap2 z2 a3 a4 W w0 wz0 w1 w2 wk2 w3 w4 m hm h15).mono fun e W' ⟨he, bel⟩ => ?_
  subst he
  exact ⟨_, rfl, _, _, _, [], _, [], hW', trodAll_mk1 (shut_bool Tryz.underlying4 _), (trodAll_cons_mk (Below.trod laidOut (by kernel_rfl) (of_decide_eq_true (by kernel_rfl)) k0 bel lt0) (trodAll_cons_mk (shut_string Tryz.underlying9 w1) (trodAll_cons_mk (Below.trod laidOut (by kernel_rfl) (of_decide_eq_true (by kernel_rfl)) k2 bel lt2) (trodAll_cons_mk (shut_int Tryz.underlying3 w3) (trodAll_cons_mk (shut_int Tryz.underlying3 w4) trodAll_mk0))))), rfl, bel.frame _, fun h => by cases h⟩

theorem over : Rows.ExpressionAnswersSaid :=
  OpenClaim.holds_of_wide 3 Tryz.f3 rfl rfl rfl rfl rfl rfl rfl ⟨rfl, rfl, rfl, rfl, rfl⟩ rfl rfl rfl rfl rfl (by kernel_rfl) Tryz.func3 (by kernel_rfl)
    (of_decide_eq_true (by kernel_rfl)) (by unfold Func.isWrapper; first | (rw [if_pos (by decide +kernel)]; kernel_rfl) | (rw [if_neg (by decide +kernel)]; exact ⟨rfl, rfl⟩))
    (fun os started H enc _ => lifted os started H enc)

theorem proved : Rows.ExpressionAnswersCardSaid :=
  Claim7.holds_tied_plain_at .later [] [.data, .data, .data] true (true, "8e79d7a4a281b506d5e6c1da1ac870350f79e81123b83964b1055231081d799a") false
    over (fun _ h => by cases h) (by kernel_rfl) (fun _ h => by cases h) expressionAnswers_row_tie rfl ⟨rfl, rfl⟩ (by kernel_rfl) rfl
    (fun f fn hf hfn => by
      obtain rfl : f = 3 := Option.some.inj ((show Tryz.prog.funcNamed "bringup/bringuplaw02.ExpressionAnswers" = some 3 by kernel_rfl).symm.trans hf) |>.symm
      obtain rfl : fn = Tryz.f3 := (Option.some.inj (Tryz.func3.symm.trans hfn)).symm
      exact ⟨by kernel_rfl, fun j t ht => by
        rw [Tryz.params3] at ht
        have hm : t ∈ [22, 9, 23, 3, 3] := by simpa using Array.mem_of_getElem? ht
        have hall : ([22, 9, 23, 3, 3].all fun u => !Tryz.prog.wantsStandIn u) = true := by kernel_rfl
        exact (show Tryz.prog.wantsStandIn t = false by simpa using List.all_eq_true.1 hall t hm)⟩)
    (by kernel_rfl)
#print axioms proved
end Go.Proofs.YteidakoieemlgaaGreatDoor.expressionAnswers
