/- Read and Same of package source return what the chapter specifies, for every list of numbers, every text, every list of definitions and every number of a file. -/
import Derived.Test.YtpeeeiaihjilnaaGreatRows
import Derived.Test.YtpeeeiaihjilnaaGreatTX26toY45
import Derived.Test.YtpeeeiaihjilnaaGreatTU4
import Derived.ProofKit
import Derived.OpenShut
import Derived.ShutString
import Derived.ChangeOld
import Derived.HandedShaped
namespace Go.Proofs.YtpeeeiaihjilnaaGreat.sourceReads
open Go Go.ChangeShapes Go.WideShapes Go.ChangeAt Go.RowKit
open Go.ChangeMaps (open_string shut_string)
set_option linter.unusedVariables false
theorem own : ownKnob Tryz.prog.godebug = none := by kernel_rfl
theorem laidOut : laidOutB Tryz.prog = true := by kernel_rfl
set_option maxRecDepth 100000 in
theorem walk (a0 : Option Addr) (len0 cap0 : Nat) (z0 : List Int) (a1 : ByteArray) (a2 : Option Addr) (len2 cap2 : Nat) (z2 : List Go.Ab.defC.den) (a3 : Int) (w : World) (w0 : Go.Ab.IsRow .i64 w a0 len0 cap0 z0) (wz0 : ∀ n ∈ z0, (Lit.int .i64 n).wf = true) (w1 : a1.size ≤ maxLen) (w2 : Go.Ab.RepV (fun b _ => b < w.heap.size) w (.l Go.Ab.defC z2) (.slice a2 len2 cap2)) (w3 : (Lit.int .i64 a3).wf = true) (m : Int) (hm : w.cell? ⟨0, 0, none⟩ = some (.int .i64 m)) :
  Calls Tryz.prog 3 #[.slice a0 len0 cap0, .string a1, .slice a2 len2 cap2, .int .i64 a3] w fun e w' => e = .returned (.bool true) ∧ Below w.heap.size w w' := by
 let base : Go.Ab.Base := ⟨[⟨0, 0, .int .i64, m⟩]⟩
 let glob : Go.Ab.Glob := { toBase := base, hm := ⟨m, List.mem_singleton.2 rfl⟩ }
 have b3 : -9223372036854775808 ≤ a3 ∧ a3 ≤ 9223372036854775807 := by simpa [Lit.wf, IntKind.min, IntKind.max, IntKind.signed, IntKind.bits] using w3
 refine Go.Ab.law_of (P := Tryz.prog) (T := Go.Ab.W5 20000) (Go.Ab.w5 (N := 20000) (Nat.le_refl _)) (f := 3) (fn := Tryz.f3) rfl rfl rfl (args := [.c (.p (.l (.int .i64) (z0.take len0))), .c (.p (.v (.string a1))), .c (.p (.l Go.Ab.defC z2)), .c (.p (.v (.int .i64 a3)))]) rfl trivial
  (I := fun b _ => b < w.heap.size) (w := w) (cargs := [.slice a0 len0 cap0, .string a1, .slice a2 len2 cap2, .int .i64 a3]) ?_ ?_ ?_
 ·intro v hv
  obtain rfl := List.mem_singleton.1 hv
  refine ⟨[.int .i64 m], rfl, fun j u hj => ?_⟩
  cases j with
  | zero => cases hj; exact ⟨Go.Ab.cell_lt hm, hm⟩
  | succ j => simp at hj
 ·exact fun b o h => h
 ·exact (.cons (Go.Ab.isRow_rep w0 fun b o h => Go.Ab.isRow_lt w0 b o h) (.cons ⟨rfl, rfl⟩ (.cons w2 (.cons ⟨rfl, rfl⟩ .nil))))
set_option maxRecDepth 100000 in
theorem lifted (os : Os) (started : os.Started) (H : Type) (enc : TypeId × Value → H) :
  ReturnsInHanded {} Tryz.checked os 3 .any (Rows.sourceReadsSpec.pre6 enc Tryz.prog Tryz.f3 Rows.sourceReadsRow.domain false) (Rows.sourceReadsSpec.post enc Tryz.prog Tryz.f3 false true false false) := by
 refine returnsInHanded_of_change_shaped (C := Tryz.checked) own started (by kernel_rfl) Tryz.func3
  (ChangeSpec.witness6 (enc := enc) (C := Tryz.checked) false ⟨#[], #[.slice none 0 0, .string ByteArray.empty, .slice none 0 0, .int .i64 0], []⟩ 8 (by kernel_rfl) (by kernel_rfl) (by kernel_rfl) (by kernel_rfl)) ?_
 intro W base args ds gs before hval0 hW hcnd _ hsh _
 have hval : ∀ (j : Nat) t v, Tryz.f3.params[j]? = some t → args[j]? = some v → Value.okWide Tryz.prog W .any base t v := hval0
 have hW' := hW
 obtain ⟨p, q, hA0, hV, rfl, hfz, hnd⟩ := hW
 have hA : DataW.TrodAll enc Tryz.prog W 0 (fun _ => true) true Tryz.f3.params.toList args.toList ds p := hA0
 rw [Tryz.params3] at hA hval
 obtain ⟨v0, vs0, d0, ds0, p0, q0, hargs, rfl, rfl, h0, r0⟩ := trodAll_cons hA
 obtain ⟨v1, vs1, d1, ds1, p1, q1, rfl, rfl, rfl, h1, r1⟩ := trodAll_cons r0
 obtain ⟨v2, vs2, d2, ds2, p2, q2, rfl, rfl, rfl, h2, r2⟩ := trodAll_cons r1
 obtain ⟨v3, vs3, d3, ds3, p3, q3, rfl, rfl, rfl, h3, r3⟩ := trodAll_cons r2
 obtain ⟨rfl, rfl, rfl⟩ := trodAll_nil r3
 obtain rfl : args = #[v0, v1, v2, v3] := by cases args; simp_all
 obtain ⟨rfl, rfl⟩ := trodVars_none hV
 obtain ⟨a0, len0, cap0, rfl⟩ := okWide_slice Tryz.underlying22 (hval 0 22 v0 rfl rfl)
 have ok0 := hval 0 22 _ rfl rfl
 have k0 := h0
 have lt0 : ∀ x ∈ p0, x.block < W.heap.size := by obtain ⟨m, hm⟩ := k0; exact DataW.trod_lt m _ _ _ hm
 obtain ⟨z0, w0, wz0⟩ : ∃ zs, Go.Ab.IsRow .i64 W a0 len0 cap0 zs ∧ ∀ n ∈ zs, (Lit.int .i64 n).wf = true := by
  obtain ⟨fuel, hf⟩ := h0
  rcases open_ints Tryz.underlying22 Tryz.underlying3 (by kernel_rfl) hf with ⟨hcs, _⟩ | ⟨x, l, c, zs, hcs, _, hl, hm, hz, _, hcell, hwz⟩
  ·simp [Value.cells] at hcs
   obtain ⟨rfl, rfl, rfl⟩ := hcs
   exact ⟨[], .inl ⟨rfl, rfl, rfl, rfl⟩, fun n hn => by cases hn⟩
  ·simp [Value.cells] at hcs
   obtain ⟨rfl, rfl, rfl⟩ := hcs
   exact ⟨zs, Go.Ab.isRow_of (Go.Ab.slice_spot Tryz.underlying22 ok0) hl (by simpa using hz) hcell, hwz⟩
 obtain ⟨a1, rfl, rfl, rfl, w1⟩ := open_string Tryz.underlying9 (hval 1 9 v1 rfl rfl) h1
 obtain ⟨a2, len2, cap2, rfl⟩ := okWide_slice Tryz.underlying23 (hval 2 23 v2 rfl rfl)
 have k2 := h2
 have lt2 : ∀ x ∈ p2, x.block < W.heap.size := by obtain ⟨m, hm⟩ := k2; exact DataW.trod_lt m _ _ _ hm
 obtain ⟨z2, w2⟩ := Go.Ab.nest_slice (I := fun b _ => b < W.heap.size) (c := Go.Ab.defC) (d := 12) (fun b o hb => hb) (by kernel_rfl) k2 rfl
 obtain ⟨a3, rfl, rfl, rfl, w3⟩ := open_int Tryz.underlying3 (hval 3 3 v3 rfl rfl) h3
 obtain ⟨m, hm⟩ : ∃ m, W.cell? ⟨0, 0, none⟩ = some (.int .i64 m) := Tryz.laysM143.s1_3 W hsh
 clear hA0 hval0
 refine (walk a0 len0 cap0 z0 a1 a2 len2 cap2 z2 a3 W w0 wz0 w1 w2 w3 m hm).mono fun e W' ⟨he, bel⟩ => ?_
 subst he
 exact ⟨_, rfl, _, _, _, [], _, [], hW', trodAll_mk1 (shut_bool Tryz.underlying4 _), (trodAll_cons_mk (Below.trod laidOut (by kernel_rfl) (of_decide_eq_true (by kernel_rfl)) k0 bel lt0) (trodAll_cons_mk (shut_string Tryz.underlying9 w1) (trodAll_cons_mk (Below.trod laidOut (by kernel_rfl) (of_decide_eq_true (by kernel_rfl)) k2 bel lt2) (trodAll_cons_mk (shut_int Tryz.underlying3 w3) trodAll_mk0)))), rfl, bel.frame _, fun h => by cases h⟩
theorem over : Rows.sourceReadsRow.holds Tryz.pinned (OpenSpec.ofChange Rows.sourceReadsSpec) :=
 OpenClaim.holds_of_wide 3 Tryz.f3 rfl rfl rfl rfl rfl rfl rfl ⟨rfl, rfl, rfl, rfl, rfl⟩ rfl rfl rfl rfl rfl (by kernel_rfl) Tryz.func3 (by kernel_rfl)
  (of_decide_eq_true (by kernel_rfl)) (by unfold Func.isWrapper; first | (rw [if_pos (by decide +kernel)]; kernel_rfl) | (rw [if_neg (by decide +kernel)]; exact ⟨rfl, rfl⟩))
  (fun os started H enc _ => lifted os started H enc)
theorem proved : Rows.SourceReadsSaid :=
 over
#print axioms proved
end Go.Proofs.YtpeeeiaihjilnaaGreat.sourceReads
