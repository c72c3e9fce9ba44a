/- Add, Set, Delete and Remove answer as the reference says, for all trees, paths, names and values; for every input, nothing is assumed. -/
import Derived.Test.YtnlifjljmbfomaaGreatRows
import Derived.Test.YtnlifjljmbfomaaGreatTY212toU13
import Derived.ProofKit
import Derived.OpenShut
import Derived.ShutString
import Derived.ChangeOld
import Derived.HandedShaped
namespace Go.Proofs.YtnlifjljmbfomaaGreat.treeEdits
open Go Go.ChangeShapes Go.WideShapes Go.ChangeAt Go.RowKit
open Go.ChangeMaps (open_string shut_string)
set_option linter.unusedVariables false
theorem own : ownKnob Tryz.prog.godebug = none := by kernel_rfl
theorem laidOut : laidOutB Tryz.prog = true := by kernel_rfl
set_option maxRecDepth 100000 in
theorem walk (a0 : Option Addr) (len0 cap0 : Nat) (z0 : List Int) (x1 : Value) (z1 : List Go.Ab.ndC.den) (a2 : ByteArray) (a3 : ByteArray) (a4 : ByteArray) (w : World) (w0 : Go.Ab.IsRow .i64 w a0 len0 cap0 z0) (wz0 : ∀ n ∈ z0, (Lit.int .i64 n).wf = true) (w1 : Go.Ab.RepV (fun b _ => b < w.heap.size) w (.l Go.Ab.ndC z1) x1) (c1 : Go.Ab.Bnd (.list Go.Ab.ndC) z1) (w2 : a2.size ≤ maxLen) (w3 : a3.size ≤ maxLen) (w4 : a4.size ≤ maxLen) (m : Int) (hm : w.cell? ⟨0, 0, none⟩ = some (.int .i64 m)) :
  Calls Tryz.prog 4 #[.slice a0 len0 cap0, .agg #[x1], .string a2, .string a3, .string a4] w fun e w' => e = .returned (.bool true) ∧ Below w.heap.size w w' := by
 let base : Go.Ab.Base := ⟨[⟨0, 0, .int .i64, m⟩]⟩
 refine Go.Ab.law_of (P := Tryz.prog) (T := Go.Ab.ext Go.Ab.BT11 4 Go.Ab.saysTe) Go.Ab.te_law (f := 4) (fn := Tryz.f4) rfl rfl rfl (args := [.c (.p (.l (.int .i64) (z0.take len0))), .agg [.p (.l Go.Ab.ndC z1)], .c (.p (.v (.string a2))), .c (.p (.v (.string a3))), .c (.p (.v (.string a4)))]) rfl ⟨Nat.le_trans c1.1 (by decide), fun n hn => Nat.le_trans (c1.2 n hn).2.2.1 (by decide)⟩
  (I := fun b _ => b < w.heap.size) (w := w) (cargs := [.slice a0 len0 cap0, .agg #[x1], .string a2, .string a3, .string a4]) ?_ ?_ ?_
 ·intro v hv
  obtain rfl := List.mem_singleton.1 hv
  refine ⟨[.int .i64 m], rfl, fun j u hj => ?_⟩
  cases j with
  | zero => cases hj; exact ⟨Go.Ab.cell_lt hm, hm⟩
  | succ j => simp at hj
 ·exact fun b o h => h
 ·exact (.cons (Go.Ab.isRow_rep w0 fun b o h => Go.Ab.isRow_lt w0 b o h) (.cons ⟨[x1], rfl, .cons w1 .nil⟩ (.cons ⟨rfl, rfl⟩ (.cons ⟨rfl, rfl⟩ (.cons ⟨rfl, rfl⟩ .nil)))))
set_option maxHeartbeats 2000000 in
set_option maxRecDepth 100000 in
theorem lifted (os : Os) (started : os.Started) (H : Type) (enc : TypeId × Value → H) :
  ReturnsInHanded {} Tryz.checked os 4 .any (Rows.treeEditsSpec.pre6 enc Tryz.prog Tryz.f4 Rows.treeEditsRow.domain false) (Rows.treeEditsSpec.post enc Tryz.prog Tryz.f4 false true false false) := by
 refine returnsInHanded_of_change_shaped (C := Tryz.checked) own started (by kernel_rfl) Tryz.func4
  (ChangeSpec.witness6 (enc := enc) (C := Tryz.checked) false ⟨#[], #[.slice none 0 0, .agg #[.slice none 0 0], .string ByteArray.empty, .string ByteArray.empty, .string ByteArray.empty], []⟩ 8 (by kernel_rfl) (by kernel_rfl) (by kernel_rfl) (by kernel_rfl)) ?_
 intro W base args ds gs before hval0 hW hcnd hwt hsh _
 have hval : ∀ (j : Nat) t v, Tryz.f4.params[j]? = some t → args[j]? = some v → Value.okWide Tryz.prog W .any base t v := hval0
 have hW' := hW
 obtain ⟨p, q, hA0, hV, rfl, hfz, hnd⟩ := hW
 have hA : DataW.TrodAll enc Tryz.prog W 0 (fun _ => true) true Tryz.f4.params.toList args.toList ds p := hA0
 rw [Tryz.params4] at hA hval
 obtain ⟨v0, vs0, d0, ds0, p0, q0, hargs, rfl, rfl, h0, r0⟩ := trodAll_cons hA
 obtain ⟨v1, vs1, d1, ds1, p1, q1, rfl, rfl, rfl, h1, r1⟩ := trodAll_cons r0
 obtain ⟨v2, vs2, d2, ds2, p2, q2, rfl, rfl, rfl, h2, r2⟩ := trodAll_cons r1
 obtain ⟨v3, vs3, d3, ds3, p3, q3, rfl, rfl, rfl, h3, r3⟩ := trodAll_cons r2
 obtain ⟨v4, vs4, d4, ds4, p4, q4, rfl, rfl, rfl, h4, r4⟩ := trodAll_cons r3
 obtain ⟨rfl, rfl, rfl⟩ := trodAll_nil r4
 obtain rfl : args = #[v0, v1, v2, v3, v4] := by cases args; simp_all
 obtain ⟨rfl, rfl⟩ := trodVars_none hV
 obtain ⟨a0, len0, cap0, rfl⟩ := okWide_slice Tryz.underlying22 (hval 0 22 v0 rfl rfl)
 have ok0 := hval 0 22 _ rfl rfl
 have k0 := h0
 have lt0 : ∀ x ∈ p0, x.block < W.heap.size := by obtain ⟨m, hm⟩ := k0; exact DataW.trod_lt m _ _ _ hm
 obtain ⟨z0, w0, wz0⟩ : ∃ zs, Go.Ab.IsRow .i64 W a0 len0 cap0 zs ∧ ∀ n ∈ zs, (Lit.int .i64 n).wf = true := by
  obtain ⟨fuel, hf⟩ := h0
  rcases open_ints Tryz.underlying22 Tryz.underlying3 (by kernel_rfl) hf with ⟨hcs, _⟩ | ⟨x, l, c, zs, hcs, _, hl, hm, hz, _, hcell, hwz⟩
  ·simp [Value.cells] at hcs
   obtain ⟨rfl, rfl, rfl⟩ := hcs
   exact ⟨[], .inl ⟨rfl, rfl, rfl, rfl⟩, fun n hn => by cases hn⟩
  ·simp [Value.cells] at hcs
   obtain ⟨rfl, rfl, rfl⟩ := hcs
   exact ⟨zs, Go.Ab.isRow_of (Go.Ab.slice_spot Tryz.underlying22 ok0) hl (by simpa using hz) hcell, hwz⟩
 obtain ⟨cs1, rfl, sz1⟩ := okWide_struct Tryz.underlying25 (hval 1 25 v1 rfl rfl)
 have k1 := h1
 have lt1 : ∀ x ∈ p1, x.block < W.heap.size := by obtain ⟨m, hm⟩ := k1; exact DataW.trod_lt m _ _ _ hm
 have e1 : Tryz.prog.cellsOf 25 = 1 := by kernel_rfl
 obtain ⟨x1, rfl⟩ := Go.Ab.arr_one (sz1.trans e1)
 obtain ⟨z1, w1, c1⟩ := Go.Ab.nest_any (I := fun b _ => b < W.heap.size) (c := .list Go.Ab.ndC) (d := 12) (fun b o hb => hb) (by kernel_rfl) (by kernel_rfl) k1 fun n hn => by
  have hn' := DataW.weights_mem_each (P := Tryz.prog) (ts := (Tryz.f4.params.toList ++ Rows.treeEditsSpec.plain.varTypes Tryz.prog)) (ds := [d0, d1, d2, d3, d4] ++ []) (j := 1) rfl rfl n hn
  exact of_decide_eq_true (List.all_eq_true.1 hwt n hn')
 have w1 : Go.Ab.RepV (fun b _ => b < W.heap.size) W (.l Go.Ab.ndC z1) x1 := w1
 obtain ⟨a2, rfl, rfl, rfl, w2⟩ := open_string Tryz.underlying9 (hval 2 9 v2 rfl rfl) h2
 obtain ⟨a3, rfl, rfl, rfl, w3⟩ := open_string Tryz.underlying9 (hval 3 9 v3 rfl rfl) h3
 obtain ⟨a4, rfl, rfl, rfl, w4⟩ := open_string Tryz.underlying9 (hval 4 9 v4 rfl rfl) h4
 obtain ⟨m, hm⟩ : ∃ m, W.cell? ⟨0, 0, none⟩ = some (.int .i64 m) := Tryz.laysM143.s1_3 W hsh
 clear hA0 hval0
 refine (walk a0 len0 cap0 z0 x1 z1 a2 a3 a4 W w0 wz0 w1 c1 w2 w3 w4 m hm).mono fun e W' ⟨he, bel⟩ => ?_
 subst he
 exact ⟨_, rfl, _, _, _, [], _, [], hW', trodAll_mk1 (shut_bool Tryz.underlying4 _), (trodAll_cons_mk (Below.trod laidOut (by kernel_rfl) (of_decide_eq_true (by kernel_rfl)) k0 bel lt0) (trodAll_cons_mk (Below.trod laidOut (by kernel_rfl) (of_decide_eq_true (by kernel_rfl)) k1 bel lt1) (trodAll_cons_mk (shut_string Tryz.underlying9 w2) (trodAll_cons_mk (shut_string Tryz.underlying9 w3) (trodAll_cons_mk (shut_string Tryz.underlying9 w4) trodAll_mk0))))), rfl, bel.frame _, fun h => by cases h⟩
theorem over : Rows.treeEditsRow.holds Tryz.pinned (OpenSpec.ofChange Rows.treeEditsSpec) :=
 OpenClaim.holds_of_wide 4 Tryz.f4 rfl rfl rfl rfl rfl rfl rfl ⟨rfl, rfl, rfl, rfl, rfl⟩ rfl rfl rfl rfl rfl (by kernel_rfl) Tryz.func4 (by kernel_rfl)
  (of_decide_eq_true (by kernel_rfl)) (by unfold Func.isWrapper; first | (rw [if_pos (by decide +kernel)]; kernel_rfl) | (rw [if_neg (by decide +kernel)]; exact ⟨rfl, rfl⟩))
  (fun os started H enc _ => lifted os started H enc)
theorem proved : Rows.TreeEditsSaid :=
 over
#print axioms proved
end Go.Proofs.YtnlifjljmbfomaaGreat.treeEdits
