/- slices.Clone, whatever the elements are: a copy that is written no more, or one of one's own; and results that are written no more. -/
import Derived.Test.YtkgcgbpclpmleaaGreatTX8toX10
import Derived.Shelf.SlicesE.Clone
import Derived.Test.YtkgcgbpclpmleaaGreatTX25toY20
namespace Go.Ab
open Go.Proofs Go.Shelf Go.RowKit Go.Lib
set_option linter.unusedSectionVars false
set_option maxHeartbeats 2000000 in
set_option maxRecDepth 100000 in
theorem clone_zero {P : Program} {ρ : Ren} (L : SlLaysE0.n41 P ρ) (i0 : TypeInfo) (z : Value) (size bytes : Nat) (hi : P.info? (ρ.t 23) = some i0) (hz0 : i0.zero = some z) (hz1 : i0.size = size) (hz2 : i0.bytes = bytes) (hzs : z.cells.size = size) (hsz : 0 < size)
  (z23 : ∀ w, (Go.sizeOf (ρ.t 23)).run P w = .ok size w) (a : Addr) (c : Nat) (w : World) :
  Calls P (ρ.f 41) #[.slice (some a) 0 c] w fun e w' => ∃ v', e = .returned v' ∧ w'.ownsRow w.heap.size (ρ.t 23) size v' 0 [] ∧ Below w.heap.size w w' := by
 have mixed := L.mixed; have t4 := L.t4; have a4 := L.a4; have z4 := L.z4; have v4 := L.v4; have t22 := L.t22; have a22 := L.a22; have z22 := L.z22; have v22 := L.v22
 have q22 : ∀ (w : World) (a : Option Addr) (n c n' c' : Nat), (binOp .eql (ρ.t 22) (.slice a n c) (.slice none n' c')).run P w = .ok (.bool a.isNone) w := fun w a n c n' c' => Lib.run_eql_slice_nil w _ _ a n c n' c' L.t22
 have u22 : ∀ w, Sem.run P (underlying (ρ.t 22)) w = .ok (TypeDesc.slice (ρ.t 23)) w := run_underlying t22
 obtain ⟨_, _, FG⟩ := L.f41
 go_enter FG, SlBodyN.n41_ntmps ρ
 go_wp2_with (at_builtin; refine wpList_append_own _ rfl _ _ (ρ.t 22) rfl w.heap.size (ρ.t 23) i0 z size bytes t22 hi hz0 hz1 hz2 hzs hsz _ _ _ rfl (World.ownsRow_made w #[] 0 (nR9 _) (nZ9 _) (by simp)) a 0 c [] rfl ?qc1 ?qc2 ?qc3 ?qc4 ?qc5 ?qc6 ?_)
 case qc1 => simp
 case qc2 => intro j u hj; simp at hj
 case qc3 => intro u hu; simp at hu
 case qc4 => rw [Nat.zero_add]; exact nZ9 _
 case qc5 => simp
 case qc6 => simp
 intro v' w1 hown hgrow hnil
 go_wp2
 go_ret
 refine ⟨v', rfl, by simpa using hown, ?_⟩
 exact ((Below.refl _ w).alloc (nR9 _) _).grown hgrow (by simp) (by intro k hk; simp [Value.ownBlock] at hk; omega)
variable [Base]
structure CloneAt (P : Program) (f : FuncId) (t : TypeId) (c : CT) : Prop where
 none' : ∀ (n k : Nat) (w : World), Calls P f #[.slice none n k] w fun e w' => e = .returned (.slice none 0 0) ∧ w' = w
 some' : ∀ (a : Addr) (n k : Nat) (news : List Value) (w : World), news.length = n * c.width → n ≤ 1000000000 → (∀ j u, news[j]? = some u → a.spot = none ∧ w.at' a.block (a.off + j) = some u) → (∀ u ∈ news, u.oneCell' = true) →
  Calls P f #[.slice (some a) n k] w fun e w' => ∃ v', e = .returned v' ∧ w'.ownsRow w.heap.size t c.width v' n news ∧ Below w.heap.size w w'
theorem clone_at {P : Program} {ρ : Ren} (L : SlLaysE0.n41 P ρ) {c : CT} (i0 : TypeInfo) (z : Value) (bytes : Nat) (hi : P.info? (ρ.t 23) = some i0) (hz0 : i0.zero = some z) (hz1 : i0.size = c.width) (hz2 : i0.bytes = bytes) (hzs : z.cells.size = c.width) (hb : bytes ≤ 1000)
  (z23 : ∀ w, (Go.sizeOf (ρ.t 23)).run P w = .ok c.width w) (hc : 0 < c.width) : CloneAt P (ρ.f 41) (ρ.t 23) c where
 none' := fun n k w => AnyE.slices_Clone_nil L n k w
 some' := fun a n k news w hl hn hm h1 => by
  cases hnews : news with
  | nil =>
   have hn0 : n = 0 := by
    rw [hnews] at hl
    rcases Nat.eq_zero_or_pos n with h | h
    ·exact h
    ·have := Nat.mul_pos h hc
     simp at hl
     omega
   subst hn0
   exact clone_zero L i0 z c.width bytes hi hz0 hz1 hz2 hzs hc z23 a k w
  | cons x r =>
   have h0 : news[0]? = some x := by rw [hnews]; rfl
   obtain ⟨b, off, spot⟩ := a
   have hs : spot = none := (hm 0 x h0).1
   subst hs
   rw [← hnews]
   refine (AnyE.slices_Clone L i0 z c.width bytes hi hz0 hz1 hz2 hzs hc z23 b off n k news w hl ?_ ?_ (fun j u hj => (hm j u hj).2) h1).mono fun e w' ⟨v', h2, h3, _, h4⟩ => ⟨v', h2, h3, h4⟩
   ·exact Nat.le_trans hn (by unfold maxLen; omega)
   ·exact Nat.le_trans (Nat.mul_le_mul hn hb) (by omega)
def View.more (G : View) (w' : World) (J : Nat → Nat → Prop) : View := { ρ := G.ρ, I := fun b x => G.I b x ∨ J b x, H := G.H, w := w' }
theorem Ext.more {G : View} (hS : Sim G) {w' : World} (hb : Below G.w.heap.size G.w w') {J : Nat → Nat → Prop} (hJ : ∀ b x, J b x → G.w.heap.size ≤ b ∧ b < w'.heap.size) : Ext G (G.more w' J) where
 stays := ⟨fun _ _ h => .inl h, fun b x h => at_of_block (hb.block _ (hS.ilt b x h)) x, fun b x es c h hm => (hb.block _ (hS.ilt b x h)).trans hm⟩
 size := hb.size
 os := hb.os
 tape := hb.tape
 output := hb.output
 objs := fun id ob h => ⟨ob, h, AO.next_keep ob fun hbl => ⟨rfl, hb.block _ (hS.lt ⟨ob, h, hbl, rfl⟩)⟩⟩
 frame := fun b hlt _ => hb.block b hlt
 news := fun _ _ h => .inl h
 inew := fun b x h => by
  rcases h with h | h
  ·exact .inl h
  ·exact .inr (.inl (hJ b x h).1)
theorem Sim.more {G : View} (hS : Sim G) {w' : World} (hb : Below G.w.heap.size G.w w') {J : Nat → Nat → Prop} (hJ : ∀ b x, J b x → G.w.heap.size ≤ b ∧ b < w'.heap.size) : Sim (G.more w' J) where
 vars := fun v hv => (hS.vars v hv).mono (Ext.more hS hb hJ).stays
 objs := fun id ob ho hbl => by
  have hlt : G.ρ id < G.w.heap.size := hS.lt ⟨ob, ho, hbl, rfl⟩
  refine (hS.objs id ob ho hbl).mono (Ext.more hS hb hJ) rfl (hb.block _ hlt) fun x hx => ?_
  rcases hx with h | h
  ·exact h
  ·have := (hJ _ _ h).1
   omega
 inj := fun i j b hi hj => hS.inj i j b hi hj
 ilt := fun b x h => by
  rcases h with h | h
  ·exact Nat.lt_of_lt_of_le (hS.ilt b x h) hb.size
  ·exact (hJ b x h).2
theorem clone_list {P : Program} {f : FuncId} {t : TypeId} {c : CT} (hcl : CloneAt P f t c) {G : View} (hS : Sim G) {zs : List c.den} {v : Value} (hv : Rep G.I G.w (.list c) zs [v]) (hn : zs.length ≤ 1000000000) :
  Calls P f #[v] G.w fun e w' => ∃ v' G', e = .returned v' ∧ G'.w = w' ∧ Ext G G' ∧ Sim G' ∧ G'.H = G.H ∧ Rep G'.I G'.w (.list c) zs [v'] := by
 rcases hv.rows with ⟨rfl, rfl⟩ | ⟨a, cap, vs, rfl, hcap, hr, hm⟩
 ·exact (hcl.none' 0 0 G.w).mono fun e w' ⟨he, hw⟩ => ⟨_, G, he, hw.symm, Ext.refl G, hS, rfl, .inl ⟨rfl, rfl⟩⟩
 ·refine (hcl.some' a zs.length cap vs G.w hr.1 hn (fun j u hj => ⟨(hm j u hj).1, (hm j u hj).2.2⟩) hr.oneCell).mono fun e w' ⟨v', he, hown, hb⟩ => ?_
  rcases hown.2 with ⟨rfl, h0⟩ | ⟨g, cap', cur, rfl, hg, hheap, hle, hmax, hsz, htake⟩
  ·have hJ : ∀ b x, (fun _ _ => False : Nat → Nat → Prop) b x → G.w.heap.size ≤ b ∧ b < w'.heap.size := fun _ _ h => h.elim
   exact ⟨_, G.more w' fun _ _ => False, he, rfl, Ext.more hS hb hJ, Sim.more hS hb hJ, rfl, .inl ⟨List.eq_nil_of_length_eq_zero h0, rfl⟩⟩
  ·have hlt : g < w'.heap.size := (Array.getElem?_eq_some_iff.1 hheap).1
   have hJ : ∀ b x, (fun b x => b = g ∧ x < zs.length * c.width : Nat → Nat → Prop) b x → G.w.heap.size ≤ b ∧ b < w'.heap.size := fun b x h => by rw [h.1]; exact ⟨hg, hlt⟩
   refine ⟨_, G.more w' fun b x => b = g ∧ x < zs.length * c.width, he, rfl, Ext.more hS hb hJ, Sim.more hS hb hJ, rfl, Rows.list (hr.mono (Ext.more hS hb hJ).stays) hle fun k u hk => ?_⟩
   have hkl : k < vs.length := (List.getElem?_eq_some_iff.1 hk).1
   have hkw : k < zs.length * c.width := by rw [← hr.1]; exact hkl
   refine ⟨.inr ⟨rfl, by omega⟩, ?_⟩
   show w'.cell? _ = _
   rw [← htake, List.getElem?_take, if_pos hkw] at hk
   simp [World.cell?, hheap]
   simpa using hk
theorem clone_arr {P : Program} {f : FuncId} {t : TypeId} {c : CT} (hcl : CloneAt P f t c) {G : View} (hS : Sim G) {zs : List c.den} {v : Value} (hv : Rep G.I G.w (.list c) zs [v]) (hn : zs.length ≤ 1000000000) (hpos : 0 < zs.length) :
  Calls P f #[v] G.w fun e w' => ∃ v' G', e = .returned v' ∧ G'.w = w' ∧ Ext G G' ∧ Sim G' ∧ G'.H = G.H ++ [.arr t c zs 0] ∧ RepC G' (.sl G.H.length c 0 zs.length) v' := by
 rcases hv.rows with ⟨rfl, rfl⟩ | ⟨a, cap, vs, rfl, hcap, hr, hm⟩
 ·simp at hpos
 ·refine (hcl.some' a zs.length cap vs G.w hr.1 hn (fun j u hj => ⟨(hm j u hj).1, (hm j u hj).2.2⟩) hr.oneCell).mono fun e w' ⟨v', he, hown, hb⟩ => ?_
  rcases hown.2 with ⟨rfl, h0⟩ | ⟨g, cap', cur, rfl, hg, hheap, hle, hmax, hsz, htake⟩
  ·omega
  ·have hJ : ∀ b x, (fun _ _ => False : Nat → Nat → Prop) b x → G.w.heap.size ≤ b ∧ b < w'.heap.size := fun _ _ h => h.elim
   have hx := Ext.more hS hb hJ
   have hs := Sim.more hS hb hJ
   have hfree : ∀ id, ¬ (G.more w' fun _ _ => False).holds id g := fun id ⟨o, h1, h2, h3⟩ => by
    have := hS.lt ⟨o, h1, h2, h3⟩
    omega
   obtain ⟨ho, hρ⟩ := (G.more w' fun _ _ => False).obj_last g (.arr t c zs 0)
   refine ⟨_, (G.more w' fun _ _ => False).obj g (.arr t c zs 0), he, rfl, hx.obj fun _ => hg, hs.obj hfree fun _ => ⟨vs, cur.toList.drop (zs.length * c.width), ?_, fun x hx => ?_, hr.mono hx.stays⟩, rfl, rfl, .inr ⟨t, zs, 0, ho, nR9 _, fun _ => ⟨nR9 _, .inr ⟨hpos, cap', cur, ?_, ?_, hle, hmax, hsz⟩⟩⟩⟩
   ·rw [hρ, ← htake, List.take_append_drop]
    exact hheap
   ·rw [hρ] at hx
    rcases hx with hx | hx
    ·have := hS.ilt _ _ hx
     omega
    ·exact hx
   ·rw [show ((G.more w' fun _ _ => False).obj g (.arr t c zs 0)).ρ G.H.length = g from hρ]
   ·rw [show ((G.more w' fun _ _ => False).obj g (.arr t c zs 0)).ρ G.H.length = g from hρ]
    exact hheap
def saysCl (c : CT) : Says := fun args H => match args, H with
 | [.c (.p (.l _ zs))], [] => match castD (e := c) zs with
  | some zs => some (some (zs.length ≤ 1000000000), .a (.c (.p (.l c zs))), [])
  | none => none
 | _, _ => none
def saysClA (t : TypeId) (c : CT) : Says := fun args H => match args, H with
 | [.c (.p (.l _ zs))], [] => match castD (e := c) zs with
  | some zs => some (some (0 < zs.length ∧ zs.length ≤ 1000000000), .a (.c (.sl 0 c 0 zs.length)), [.arr t c zs 0])
  | none => none
 | _, _ => none
theorem castD_some {c c' : CT} {zs : List c'.den} {ys : List c.den} (h : castD (e := c) zs = some ys) : ∃ he : c' = c, ys = he ▸ zs := by
 unfold castD at h
 split at h
 ·rename_i he
  cases h
  exact ⟨he, rfl⟩
 ·cases h
theorem call_enter {P : Program} {f : FuncId} {fn : Func} (hf : P.funcs[f]? = some fn) (hname : NG9 fn) (hb : fn.body.isNone = false) (args : Array Value) (w : World) : (callFunc f args).run P w = .ok (.enter f args) w := by
 have hn' : ¬ fn.name = "runtime.NumGoroutine" := by simpa using hname
 have hb' : ∃ c, fn.body = some c := by
  cases h : fn.body with
  | none => rw [h] at hb; cases hb
  | some c => exact ⟨c, rfl⟩
 obtain ⟨c, hc⟩ := hb'
 simp [callFunc, hf, hn', hc]
theorem ext_cl {P : Program} {T : Table} (hT : TSound P T) (f : FuncId) {fn : Func} (hf : P.funcs[f]? = some fn) (hname : NG9 fn) (hb : fn.body.isNone = false) {t : TypeId} {c : CT} (hcl : CloneAt P f t c) : TSound P (ext T f (saysCl c)) :=
 ext_sound hT fun args H p r H' hs hp G hS hH cargs ha => by
  unfold saysCl at hs
  split at hs
  ·split at hs
   ·rename_i c' zs _ ys hc
    obtain ⟨rfl, rfl⟩ := castD_some hc
    cases hs
    cases ha with
    | cons h1 h2 =>
     cases h2
     refine .inr ⟨call_enter hf hname hb _ _, (clone_list hcl hS h1 hp).mono fun e w' ⟨v', G', h3, h4, h5, h6, h7, h8⟩ => ⟨v', G', h3, h4, h5, h6, h7.trans hH, h8⟩⟩
   ·cases hs
  ·cases hs
theorem ext_clA {P : Program} {T : Table} (hT : TSound P T) (f : FuncId) {fn : Func} (hf : P.funcs[f]? = some fn) (hname : NG9 fn) (hb : fn.body.isNone = false) {t : TypeId} {c : CT} (hcl : CloneAt P f t c) : TSound P (ext T f (saysClA t c)) :=
 ext_sound hT fun args H p r H' hs hp G hS hH cargs ha => by
  unfold saysClA at hs
  split at hs
  ·split at hs
   ·rename_i c' zs _ ys hc
    obtain ⟨rfl, rfl⟩ := castD_some hc
    cases hs
    cases ha with
    | cons h1 h2 =>
     cases h2
     refine .inr ⟨call_enter hf hname hb _ _, (clone_arr hcl hS h1 hp.2 hp.1).mono fun e w' ⟨v', G', h3, h4, h5, h6, h7, h8⟩ => ⟨v', G', h3, h4, h5, h6, by rw [h7, hH]; rfl, ?_⟩⟩
     rw [hH] at h8
     exact h8
   ·cases hs
  ·cases hs
theorem frz {G : View} (hS : Sim G) {id : Nat} {t : TypeId} {c : CT} {zs : List c.den} {ver : Nat} (ho : G.H[id]? = some (.arr t c zs ver)) (hpos : 0 < zs.length) :
  ∃ G', G'.w = G.w ∧ Ext G G' ∧ Sim G' ∧ G'.H = G.H.set id .dead ∧ ∀ v, RepC G (.sl id c ver zs.length) v → Rep G'.I G'.w (.list c) zs [v] := by
 obtain ⟨vs, rest, hheap, hno, hrows⟩ := hS.objs id _ ho hpos
 have hlt : G.ρ id < G.w.heap.size := (Array.getElem?_eq_some_iff.1 hheap).1
 have g : Upd G id (G.ρ id) (.arr t c zs ver) .dead (fun x => x < zs.length * c.width) G.w := ⟨ho, trivial, nR9 _, rfl, rfl, rfl, fun _ _ _ => rfl, .inr ⟨_, ho, hpos, rfl⟩, hlt, hno⟩
 have hE := Ext.upd hS g
 refine ⟨G.upd id (G.ρ id) .dead (fun x => x < zs.length * c.width) G.w, rfl, hE, Sim.upd hS g fun h => h.elim, rfl, fun v hv => ?_⟩
 obtain ⟨_, hv⟩ := sl_live hv ho
 rcases hv with ⟨h0, _⟩ | ⟨_, cap, cur, rfl, hcur, hle, hmax, hsz⟩
 ·omega
 ·refine Rows.list (hrows.mono hE.stays) hle fun k u hk => ?_
  have hkl : k < vs.length := (List.getElem?_eq_some_iff.1 hk).1
  refine ⟨.inr ⟨rfl, by rw [← hrows.1]; omega⟩, ?_⟩
  show G.w.cell? _ = _
  simp [World.cell?, hheap]
  rw [List.getElem?_append_left hkl]
  exact hk
def FrzC (c : CT) (zs : List c.den) (x y : AC) : Prop := (∃ p, x = .p p ∧ y = .p p) ∨ (x = .sl 0 c 0 zs.length ∧ y = .p (.l c zs))
theorem frz_all {G1 G2 : View} (hx : Ext G1 G2) {c : CT} {zs : List c.den} (hf : ∀ v, RepC G1 (.sl 0 c 0 zs.length) v → Rep G2.I G2.w (.list c) zs [v]) {l l' : List AC} (hl : All2 (FrzC c zs) l l') : ∀ {cs : List Value}, All2 (RepC G1) l cs → All2 (RepC (G2.sub [] [])) l' cs := by
 induction hl with
 | nil => intro cs h; cases h; exact .nil
 | cons hxy _ ih =>
  intro cs h
  cases h with
  | cons h3 h4 =>
   refine .cons ?_ (ih h4)
   rcases hxy with ⟨p, rfl, rfl⟩ | ⟨rfl, rfl⟩
   ·exact RepV.mono hx.stays h3
   ·exact hf _ h3
theorem ext_frz {P : Program} {T : Table} {f : FuncId} {s s' : Says} (h1 : TSound P (ext T f s)) (hT : TSound P T)
  (h : ∀ args H p r H', s' args H = some (p, r, H') → holdsO p → H = [] ∧ H' = [] ∧ ∃ t c zs l l', 0 < zs.length ∧ s args [] = some (p, .a (.agg l), [.arr t c zs 0]) ∧ r = .a (.agg l') ∧ All2 (FrzC c zs) l l') : TSound P (ext T f s') :=
 ext_sound hT fun args H p r H' hs hp G hS hH cargs ha => by
  obtain ⟨rfl, rfl, t, c, zs, l, l', hpos, hs1, rfl, hl⟩ := h args H p r H' hs hp
  have hb : Nat.beq f f = true := Nat.beq_refl f
  refine (h1 f args [] p (.a (.agg l)) [.arr t c zs 0] (by unfold ext; rw [hb]; exact hs1) hp G hS hH cargs ha).mono fun v G1 he hs1 ⟨hH1, hr⟩ => ?_
  have ho : G1.H[0]? = some (.arr t c zs 0) := by rw [hH1]; rfl
  obtain ⟨G2, hw, hx, hs2, hH2, hf⟩ := frz hs1 ho hpos
  have hsub : subH [] G2.H [] = some [] := rfl
  refine ⟨G2.sub [] [], hw, (he.trans hx).keep hsub rfl fun k hk => ?_, hs2.sub hsub rfl, rfl, ?_⟩
  ·rw [hH] at hk
   exact absurd hk (nN9 k)
  ·obtain ⟨cs, rfl, hcs⟩ := hr
   exact ⟨cs, rfl, frz_all hx hf hl hcs⟩
end Go.Ab
namespace Go.Ab
open Go.Proofs Go.Shelf
set_option linter.unusedSectionVars false
set_option maxRecDepth 100000
def clR (f t e b : Nat) : Go.Shelf.Ren := ⟨fun | 41 => f | n => n, fun | 4 => b | 22 => t | 23 => e | n => n, fun | n => n⟩
theorem clLC : SlLaysE0.n41 Tryz.prog (clR 71 59 75 4) := {
 mixed := by kernel_rfl
 f41 := ⟨Tryz.f71.name, by kernel_rfl, Tryz.func71.trans (congrArg some (by kernel_rfl))⟩
 t4 := Tryz.underlying4
 a4 := Tryz.isAgg4
 z4 := Tryz.sizeOf4
 v4 := Tryz.zeroValue4
 t22 := Tryz.underlying59
 a22 := Tryz.isAgg59
 z22 := Tryz.sizeOf59
 v22 := Tryz.zeroValue59 }
theorem clLP : SlLaysE0.n41 Tryz.prog (clR 70 37 61 4) := {
 mixed := by kernel_rfl
 f41 := ⟨Tryz.f70.name, by kernel_rfl, Tryz.func70.trans (congrArg some (by kernel_rfl))⟩
 t4 := Tryz.underlying4
 a4 := Tryz.isAgg4
 z4 := Tryz.sizeOf4
 v4 := Tryz.zeroValue4
 t22 := Tryz.underlying37
 a22 := Tryz.isAgg37
 z22 := Tryz.sizeOf37
 v22 := Tryz.zeroValue37 }
theorem clIC : ∃ i, Tryz.prog.info? 75 = some i ∧ i.size = 2 ∧ i.bytes = 24 ∧ ∃ z, i.zero = some z ∧ z.cells.size = 2 := ⟨_, rfl, rfl, rfl, _, rfl, rfl⟩
theorem clIP : ∃ i, Tryz.prog.info? 61 = some i ∧ i.size = 3 ∧ i.bytes = 48 ∧ ∃ z, i.zero = some z ∧ z.cells.size = 3 := ⟨_, rfl, rfl, rfl, _, rfl, rfl⟩
section
variable [Base]
theorem clC : CloneAt Tryz.prog 71 75 celC := by
 obtain ⟨i0, h1, h2, h3, z, h4, h5⟩ := clIC
 exact clone_at clLC (c := celC) i0 z 24 h1 h4 h2 h3 h5 (by decide) Tryz.sizeOf75 (by decide)
theorem clP : CloneAt Tryz.prog 70 61 prtC := by
 obtain ⟨i0, h1, h2, h3, z, h4, h5⟩ := clIP
 exact clone_at clLP (c := prtC) i0 z 48 h1 h4 h2 h3 h5 (by decide) Tryz.sizeOf61 (by decide)
end
variable [Glob]
section
variable {T : Table} (hT : TS9 T)
abbrev C0 (T : Table) : Table := ext T 71 (saysCl celC)
abbrev C1 (T : Table) : Table := ext (C0 T) 70 (saysCl prtC)
abbrev C2 (T : Table) : Table := ext (C0 T) 70 (saysClA 61 prtC)
include hT in
theorem c0 : TS9 (C0 T) := ext_cl hT 71 (fn := Tryz.f71) rfl rfl rfl clC
include hT in
theorem c1 : TS9 (C1 T) := ext_cl (c0 hT) 70 (fn := Tryz.f70) rfl rfl rfl clP
include hT in
theorem c2 : TS9 (C2 T) := ext_clA (c0 hT) 70 (fn := Tryz.f70) rfl rfl rfl clP
abbrev defA (d : defC.den) (p : AC) : List AC := [.int .i64 d.1, .str d.2.1, .str d.2.2.1, p, .int .i64 d.2.2.2.2.1, .int .i64 d.2.2.2.2.2.1, .int .i64 d.2.2.2.2.2.2]
def daDef : List AV → Option defC.den
 | [.agg [.p (.v (.int .i64 k)), .p (.v (.string a)), .p (.v (.string b)), .p (.l c0 ps), .p (.v (.int .i64 x)), .p (.v (.int .i64 y)), .p (.v (.int .i64 z))]] => match castD (e := prtC) (e' := c0) ps with
  | some ps => some (k, a, b, ps, x, y, z)
  | none => none
 | _ => none
def eaDef (d : defC.den) : List AV := [.agg [.int .i64 d.1, .str d.2.1, .str d.2.2.1, .p (.l prtC d.2.2.2.1), .int .i64 d.2.2.2.2.1, .int .i64 d.2.2.2.2.2.1, .int .i64 d.2.2.2.2.2.2]]
abbrev zDef : List AC := [.int .i64 0, .str ByteArray.empty, .str ByteArray.empty, .p (.v (.slice none 0 0)), .int .i64 0, .int .i64 0, .int .i64 0]
def okCp (d : defC.den) : Prop := d.2.2.2.1.length ≤ 1000000000 ∧ ∀ p ∈ d.2.2.2.1, p.2.1.length ≤ 1000000000
instance (d : defC.den) : Decidable (okCp d) := by unfold okCp; exact inferInstance
def saysCp1 : Says := fun args H => match H with
 | [] => match daDef args with
  | some d => some (some (args = eaDef d ∧ okCp d ∧ 0 < d.2.2.2.1.length), .a (.agg (defA d (.sl 0 prtC 0 d.2.2.2.1.length))), [.arr 61 prtC d.2.2.2.1 0])
  | none => none
 | _ => none
include hT in
theorem cp1 : TS9 (ext (C2 T) 59 saysCp1) := by
 refine ext_run (c2 hT) (f := 59) (fn := Tryz.f59) rfl rfl [0, 1, 2, 3, 4, 10, 11, 12, 13] fun args H p r' H' hs hp => ?_
 unfold saysCp1 at hs
 split at hs
 ·split at hs
  ·rename_i d _
   cases hs
   obtain ⟨rfl, hok, hpos⟩ := hp
   refine ⟨nB9 rfl, [2], rfl, nK9, ?_⟩
   repeat ((conv => whnf); refine ⟨by first | exact ⟨hpos, hok.1⟩ | omega, ?_⟩)
   conv => whnf
   refine lI9 (fun i : Nat => [(0, .s .none), (1, .s (.a (.c (.ptr 0 0)))), (2, .s (.a (.c (.ptr 1 0)))), (3, .s .none), (4, .s .none), (10, .s (.a (.c (.sl 2 prtC 0 d.2.2.2.1.length)))), (11, .s (.a (.c (.int .i64 (d.2.2.2.1.length : Nat))))), (12, .s (.a (.c (.int .i64 (i : Nat))))), (13, .s .none)])
    (fun _ => [.row (defA d (.sl 2 prtC 0 d.2.2.2.1.length)), .row zDef, .arr 61 prtC d.2.2.2.1 0]) (fun i => i ≤ d.2.2.2.1.length) (fun i => d.2.2.2.1.length - i) 0 ?_ rfl (nZ9 _) (fun i hi => ?_)
   ·repeat first|exact lN9|refine lD9 ?_|refine lS9 ?_
   have hl9 := hok.1
   conv => whnf
   refine cI9 ?_ ?_<;>intro h
   ·have hin : i < d.2.2.2.1.length := by
     have : (i : Int) < (d.2.2.2.1.length : Nat) := oT9 h
     omega
    have hob : 0 = 0 ∧ (0 : Int) ≤ (i : Nat) ∧ (i : Int) < (d.2.2.2.1.length : Nat) := ⟨rfl, by omega, by omega⟩
    have hcl : (d.2.2.2.1.getD i prtC.dflt).2.1.length ≤ 1000000000 := by
     have he : d.2.2.2.1.getD i prtC.dflt = d.2.2.2.1[i] := by simp [hin]
     rw [he]
     exact hok.2 _ (List.getElem_mem hin)
    have hse : d.2.2.2.1.set i (d.2.2.2.1.getD i prtC.dflt) = d.2.2.2.1 := by
     have he : d.2.2.2.1.getD i prtC.dflt = d.2.2.2.1[i] := by simp [hin]
     rw [he]
     exact List.set_getElem_self hin
    repeat ((conv => whnf); refine ⟨by first | exact hob | exact hcl | (unfold inI64; omega) | omega | exact rfl, ?_⟩)
    conv => whnf
    refine kI9 (i + 1) [0, 1, 2] rfl (fun k hk => ?_) ?_ ?_ (by show i + 1 ≤ _; omega) (by show _ - (i + 1) < _ - i; omega)
    ·have hk : k < 3 := hk
     have : k = 0 ∨ k = 1 ∨ k = 2 := by omega
     rcases this with rfl | rfl | rfl <;> rfl
    ·show some [AO.row _, AO.row _, AO.arr _ prtC (d.2.2.2.1.set i (d.2.2.2.1.getD i prtC.dflt)) 0] = _
     rw [hse]
    ·repeat first|exact kN9|refine kD9 ?_|refine kR9 rfl ?_
   ·skip
    conv => whnf
    exact eR9
  ·cases hs
 ·cases hs
def saysCp0 : Says := fun args H => match H with
 | [] => match daDef args with
  | some d => some (some (args = eaDef d ∧ d.2.2.2.1 = []), .a (.agg (defA d (.p (.l prtC [])))), [])
  | none => none
 | _ => none
include hT in
theorem cp0 : TS9 (ext (C1 T) 59 saysCp0) := by
 refine ext_run (c1 hT) (f := 59) (fn := Tryz.f59) rfl rfl [0, 1, 2, 3, 4, 10, 11, 12, 13] fun args H p r' H' hs hp => ?_
 unfold saysCp0 at hs
 split at hs
 ·split at hs
  ·rename_i d _
   cases hs
   obtain ⟨rfl, h0⟩ := hp
   obtain ⟨k, a, b, ps, x, y, z⟩ := d
   obtain rfl : ps = [] := h0
   refine ⟨nB9 rfl, [], rfl, nK9, ?_⟩
   have hz : (([] : List prtC.den).length) ≤ 1000000000 := nZ9 _
   repeat ((conv => whnf); refine ⟨hz, ?_⟩)
   conv => whnf
   refine lI9 (fun _ : Unit => [(0, .s .none), (1, .s (.a (.c (.ptr 0 0)))), (2, .s (.a (.c (.ptr 1 0)))), (3, .s .none), (4, .s .none), (10, .s .none), (11, .s (.a (.c (.int .i64 0)))), (12, .s (.a (.c (.int .i64 0)))), (13, .s .none)])
    (fun _ => [.row (defA (k, a, b, [], x, y, z) (.p (.l prtC []))), .row zDef]) (fun _ => True) (fun _ => 0) () ?_ rfl trivial (fun _ _ => ?_)
   ·repeat first|exact lN9|refine lD9 ?_|refine lS9 ?_
   conv => whnf
   exact eR9
  ·cases hs
 ·cases hs
def saysCp2 : Says := fun args H => match H with
 | [] => match daDef args with
  | some d => some (some (args = eaDef d ∧ okCp d ∧ 0 < d.2.2.2.1.length), .a (.agg (defA d (.p (.l prtC d.2.2.2.1)))), [])
  | none => none
 | _ => none
def saysCp : Says := fun args H => match H with
 | [] => match daDef args with
  | some d => some (some (args = eaDef d ∧ okCp d), .a (.agg (defA d (.p (.l prtC d.2.2.2.1)))), [])
  | none => none
 | _ => none
include hT in
theorem cp2 : TS9 (ext (C2 T) 59 saysCp2) := by
 refine ext_frz (cp1 hT) (c2 hT) fun args H p r H' hs hp => ?_
 unfold saysCp2 at hs
 split at hs
 ·split at hs
  ·rename_i d hd
   cases hs
   refine ⟨rfl, rfl, 61, prtC, d.2.2.2.1, defA d (.sl 0 prtC 0 d.2.2.2.1.length), _, hp.2.2, ?_, rfl, ?_⟩
   ·unfold saysCp1
    rw [hd]
   ·exact .cons (.inl ⟨_, rfl, rfl⟩) (.cons (.inl ⟨_, rfl, rfl⟩) (.cons (.inl ⟨_, rfl, rfl⟩) (.cons (.inr ⟨rfl, rfl⟩) (.cons (.inl ⟨_, rfl, rfl⟩) (.cons (.inl ⟨_, rfl, rfl⟩) (.cons (.inl ⟨_, rfl, rfl⟩) .nil))))))
  ·cases hs
 ·cases hs
theorem ext_at (T : Table) (f : FuncId) (s : Says) (args : List AV) (H : List AO) : ext T f s f args H = s args H := by
 unfold ext
 rw [Nat.beq_refl]
include hT in
theorem cp : TS9 (ext T 59 saysCp) :=
 ext_sound hT fun args H p r H' hs hp G hS hH cargs ha => by
  unfold saysCp at hs
  split at hs
  ·split at hs
   ·rename_i d hd
    cases hs
    obtain ⟨he, hok⟩ := hp
    cases hps : d.2.2.2.1 with
    | nil =>
     refine cp0 hT 59 args [] (some (args = eaDef d ∧ d.2.2.2.1 = [])) _ [] ?_ ⟨he, hps⟩ G hS hH cargs ha
     rw [ext_at]
     unfold saysCp0
     simp only [hd]
    | cons x l =>
     rw [← hps]
     refine cp2 hT 59 args [] (some (args = eaDef d ∧ okCp d ∧ 0 < d.2.2.2.1.length)) _ [] ?_ ⟨he, hok, by rw [hps]; exact Nat.succ_pos _⟩ G hS hH cargs ha
     rw [ext_at]
     unfold saysCp2
     simp only [hd]
   ·cases hs
  ·cases hs
end
end Go.Ab
