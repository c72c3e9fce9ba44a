/- Package blob: a node begins. Made by gy176.py. -/
import Derived.Test.YtnlifjljmbfomaaTU7toU9
import Derived.Test.YtnlifjljmbfomaaTOtoP
import Derived.Deep.Draws
import Derived.Lib.IndexMore
namespace Go.Ab
open Go.Proofs
set_option linter.unusedSectionVars false
set_option maxRecDepth 100000
variable [Base]

/-- The place behind a text. -/
def txE (b : List Int) (a : Int) : Int := (alN (a + txL b a + 1).toNat : Nat)
def txS (b : List Int) (a : Int) : ByteArray := pdT b a (txL b a)
abbrev gvE (v : Nat) (ns : List Nd) : AO := .gvec ndT ndC ns (ns.length - 1) 2 (.p (.v (.slice none 0 0))) v
abbrev ptT : TypeId := 43

def saysBgN : Says := fun args H => match args, H with
  | [.c (.ptr 0 0)], [.row [.p (.l (.int .u8) b), .p (.v (.int .i64 a)), .p (.v (.string nm)), .p (.v (.slice none 0 0)), .p (.v (.int .i64 op)), .p (.v (.int .i64 lv)), .p (.v (.int .i64 pl)), .p (.v (.int .i64 e))]] => some (some (TxOk b a ∧ 0 ≤ lv ∧ lv ≤ 8), .bool true, [.row [.p (.l u8C b), .int .i64 (txE b a), .str nm, .gs 1 0 1, .int .i64 0, .int .i64 (lv + 1), .int .i64 pl, .int .i64 e], gvE 0 [(op, txS b a, [])]])
  | _, _ => none
theorem bg_N : TSound Try.prog (ext BD4 48 saysBgN) := by
  refine ext_run bD4 (f := 48) (fn := Try.f48) rfl rfl [0, 2, 3, 4, 17, 26] fun args H p r H' hs hp => ?_
  unfold saysBgN at hs
  split at hs
  · rename_i b a nm op lv pl e
    cases hs
    obtain ⟨hz, hl0, hl1⟩ := hp
    refine ⟨Nat.le_of_ble_eq_true rfl, [0, 1], rfl, id2c, ?_⟩
    repeat ((conv => whnf); refine ⟨by first | (unfold inI64; omega) | omega | exact ⟨by omega, by omega⟩ | exact rfl | decide +kernel, ?_⟩)
    conv => whnf
    refine cond_intro (fun h => ?_) (fun h => ?_)
    · exfalso
      have : (8 : Int) < lv := of_decide_eq_true h
      omega
    have hz2 : TxOk b a ∧ True := ⟨hz, trivial⟩
    have hc2 : inI64 (((1 : Nat) : Int) - 1) := by unfold inI64; omega
    have hc3 : inI64 (lv + 1) := by unfold inI64; omega
    repeat ((conv => whnf); refine ⟨by first | exact hz2 | ((conv => whnf); exact ⟨⟨rfl, rfl, rfl⟩, trivial⟩) | exact Early.one (by decide +kernel) (by (conv => whnf); exact ⟨rfl, rfl, rfl⟩) trivial | (unfold inI64; omega) | omega | exact ⟨by omega, by omega⟩ | exact rfl | decide +kernel, ?_⟩)
    conv => whnf
    refine Or.inr ?_
    repeat ((conv => whnf); refine ⟨by first | exact hc2 | exact hc3 | ((conv => whnf); exact ⟨⟨rfl, rfl, rfl⟩, trivial⟩) | exact Early.one (by decide +kernel) (by (conv => whnf); exact ⟨rfl, rfl, rfl⟩) trivial | (unfold inI64; omega) | omega | exact ⟨by omega, by omega⟩ | exact rfl | decide +kernel, ?_⟩)
    conv => whnf
    exact ends_eq ⟨rfl, rfl⟩
  · cases hs
def saysBgN2 : Says := fun args H => match args, H with
  | [.c (.ptr 0 0)], [.row [.p (.l (.int .u8) b), .p (.v (.int .i64 a)), .p (.v (.string nm)), .p (.v (.slice none 0 0)), .p (.v (.int .i64 op)), .p (.v (.int .i64 lv)), .p (.v (.int .i64 pl)), .p (.v (.int .i64 e))]] => some (some (TxOk b a ∧ 0 ≤ lv ∧ lv ≤ 8), .bool true, hqG b (txE b a) nm 0 1 0 (lv + 1) pl e (gvO 0 [(op, txS b a, [])] []) (ptO []))
  | _, _ => none
theorem bg_N2 : TSound Try.prog (ext BD4 48 saysBgN2) := by
  refine ext_tokG ptT ptC bg_N bD4 fun args H p r H' hs hp => ?_
  unfold saysBgN2 at hs
  split at hs
  · cases hs
    exact ⟨_, _, _, _, _, _, _, _, [], hp, trivial, rfl, rfl⟩
  · cases hs

/-- The nodes with what is known of the last one's properties. -/
def fxN (ns : List Nd) (ps : List Pt) : List Nd := ns.set (ns.length - 1) ((ndAt ns (ns.length - 1)).1, (ndAt ns (ns.length - 1)).2.1, ps)
theorem fx_hole (ns : List Nd) (ps : List Pt) : holeFix ndC ns (ns.length - 1) 2 (.own 2 ptC ps) = some (fxN ns ps) := rfl
def saysBgG : Says := fun args H => match args, H with
  | [.c (.ptr 0 0)], [.row [.p (.l (.int .u8) b), .p (.v (.int .i64 a)), .p (.v (.string nm)), .gs 1 v n, .p (.v (.int .i64 op)), .p (.v (.int .i64 lv)), .p (.v (.int .i64 pl)), .p (.v (.int .i64 e))], .gvec t0 (.pair (.int .i64) (.pair .str (.list (.pair .str .str)))) ns i k (.own 2 (.pair .str .str) ps) v2, o2] =>
    some (some (TxOk b a ∧ 0 ≤ lv ∧ lv ≤ 8 ∧ n = ns.length ∧ 0 < n ∧ n < 120 ∧ t0 = ndT ∧ i = n - 1 ∧ k = 2 ∧ v2 = v ∧ o2 = ptO ps), .bool true, [.row [.p (.l u8C b), .int .i64 (txE b a), .str nm, .gs 1 (v + 1) (n + 1), .int .i64 n, .int .i64 (lv + 1), .int .i64 pl, .int .i64 e], .gvec ndT ndC (fxN ns ps ++ [(op, txS b a, [])]) n 2 (.p (.v (.slice none 0 0))) (v + 1), o2])
  | _, _ => none
theorem bg_G : TSound Try.prog (ext BD4 48 saysBgG) := by
  refine ext_run bD4 (f := 48) (fn := Try.f48) rfl rfl [0, 2, 3, 4, 17, 26] fun args H p r H' hs hp => ?_
  unfold saysBgG at hs
  split at hs
  · rename_i b a nm v n op lv pl e t0 ns i k ps v2 o2
    cases hs
    obtain ⟨hz, hl0, hl1, rfl, hpos, hn, rfl, rfl, rfl, rfl, rfl⟩ := hp
    refine ⟨Nat.le_of_ble_eq_true rfl, [0, 1, 2], rfl, id3, ?_⟩
    have hz2 : TxOk b a ∧ GsOk v2 ns.length (gvO v2 ns ps) (ptO ps) := ⟨hz, ns, ps, rfl, hpos, rfl, rfl⟩
    have hc2 : inI64 (((ns.length + 1 : Nat) : Int) - 1) := by unfold inI64; omega
    have hc3 : inI64 (lv + 1) := by unfold inI64; omega
    have hc4 : ns.length + 1 ≤ capBound := by unfold capBound; omega
    repeat ((conv => whnf); refine ⟨by first | (unfold inI64; omega) | omega | exact ⟨by omega, by omega⟩ | exact rfl | decide +kernel, ?_⟩)
    conv => whnf
    refine cond_intro (fun h => ?_) (fun h => ?_)
    · exfalso
      rw [Bool.or_eq_true] at h
      rcases h with h | h
      · have : (120 : Int) ≤ (ns.length : Nat) := of_decide_eq_true h
        omega
      · have : (8 : Int) < lv := of_decide_eq_true h
        omega
    repeat ((conv => whnf); refine ⟨by first | exact hz2 | exact ⟨rfl, hc4⟩ | exact hc4 | exact hc2 | exact hc3 | ((conv => whnf); exact ⟨⟨rfl, rfl, rfl⟩, trivial⟩) | exact Early.one (by decide +kernel) (by (conv => whnf); exact ⟨rfl, rfl, rfl⟩) trivial | (unfold inI64; omega) | omega | exact ⟨by omega, by omega⟩ | exact rfl | decide +kernel, ?_⟩)
    conv => whnf
    have hl : ((ns.length + 1 : Nat) : Int) - 1 = (ns.length : Nat) := by omega
    refine ends_eq ⟨rfl, ?_⟩
    rw [hl]
    rfl
  · cases hs
end Go.Ab
namespace Go.Ab
set_option linter.unusedSectionVars false
variable [Base]

def View.drewN (G : View) (n : Nat) : View := { G with w := G.w.drewN n }
theorem Ext.drewN (G : View) (n : Nat) : Ext G (G.drewN n) :=
  ⟨⟨fun _ _ h => h, fun _ _ _ => rfl, fun _ _ _ _ _ h => h⟩, Nat.le_refl _, rfl, rfl, rfl, fun id o h => ⟨o, h, o.next_refl G id⟩, fun _ _ _ => rfl, fun _ _ h => .inl h, fun _ _ h => .inl h⟩
theorem Sim.drewN {G : View} (h : Sim G) (n : Nat) : Sim (G.drewN n) :=
  ⟨fun v hv => (h.vars v hv).mono (Ext.drewN G n).stays, fun id o ho hb => (h.objs id o ho hb).mono (Ext.drewN G n) rfl rfl (fun _ h => h), fun i j b hi hj => h.inj i j b hi hj, h.ilt⟩

theorem ext_callsN {P : Program} {T : Table} (hT : TSound P T) (f : FuncId) {fn : Func} (hf : P.funcs[f]? = some fn) (hname : (fn.name == "runtime.NumGoroutine") = false) (hb : fn.body.isNone = false) {s : Says}
    (h : ∀ args H p r H', s args H = some (p, r, H') → holdsO p → H' = H ∧ ∀ G : View, Sim G → G.H = H → ∀ cargs : List Value, All2 (RepA G) args cargs →
      ∃ v, (∀ G' : View, RepS G' r v) ∧ Calls P f cargs.toArray G.w fun e w' => e = .returned v ∧ ∃ n, w' = G.w.drewN n) : TSound P (ext T f s) :=
  ext_sound hT fun args H p r H' hs hp G hS hH cargs ha => by
    obtain ⟨rfl, hc⟩ := h args H p r H' hs hp
    obtain ⟨v, hv, hcalls⟩ := hc G hS hH cargs ha
    refine .inr ⟨?_, hcalls.mono fun e w' ⟨he, n, hw⟩ => ⟨v, G.drewN n, he, hw.symm, Ext.drewN G n, hS.drewN n, hH, hv _⟩⟩
    have hn' : ¬ fn.name = "runtime.NumGoroutine" := by simpa using hname
    have hb' : ∃ c, fn.body = some c := by
      cases h : fn.body with
      | none => rw [h] at hb; cases hb
      | some c => exact ⟨c, rfl⟩
    obtain ⟨c, hc⟩ := hb'
    simp [callFunc, hf, hn', hc]
end Go.Ab
namespace Go.Ab
open Go.Proofs
set_option linter.unusedSectionVars false
set_option maxRecDepth 100000

/-- The package-level variable that strings.Index reads. -/
class Glob8 extends Base where
  hm : ∃ m : Int, (Var.mk 0 0 (.int .i64) m) ∈ vars
variable [Glob8]

def saysBgG2 : Says := fun args H => match args, H with
  | [.c (.ptr 0 0)], [.row [.p (.l (.int .u8) b), .p (.v (.int .i64 a)), .p (.v (.string nm)), .gs 1 v n, .p (.v (.int .i64 op)), .p (.v (.int .i64 lv)), .p (.v (.int .i64 pl)), .p (.v (.int .i64 e))], .gvec t0 (.pair (.int .i64) (.pair .str (.list (.pair .str .str)))) ns i k (.own 2 (.pair .str .str) ps) v2, o2] =>
    some (some (TxOk b a ∧ 0 ≤ lv ∧ lv ≤ 8 ∧ n = ns.length ∧ 0 < n ∧ n < 120 ∧ t0 = ndT ∧ i = n - 1 ∧ k = 2 ∧ v2 = v ∧ o2 = ptO ps), .bool true, [.row [.p (.l u8C b), .int .i64 (txE b a), .str nm, .gs 1 (v + 1) (n + 1), .int .i64 n, .int .i64 (lv + 1), .int .i64 pl, .int .i64 e], .gvec ndT ndC (fxN ns ps ++ [(op, txS b a, [])]) n 2 (.own 3 ptC []) (v + 1), o2, ptO []])
  | _, _ => none
theorem bg_G2 : TSound Try.prog (ext BD4 48 saysBgG2) := by
  refine ext_tokG ptT ptC bg_G bD4 fun args H p r H' hs hp => ?_
  unfold saysBgG2 at hs
  split at hs
  · rename_i o2
    cases hs
    exact ⟨_, _, _, _, _, _, _, _, [o2], hp, trivial, rfl, rfl⟩
  · cases hs
def BD5 : Table := ext BD4 48 (orS saysBgN2 saysBgG2)
theorem bD5 : TSound Try.prog BD5 := ext_or bg_N2 bg_G2

def cutV (s t : ByteArray) : ByteArray × ByteArray × Bool := (⟨(Lib.cut s.data.toList t.data.toList).1.toArray⟩, ⟨(Lib.cut s.data.toList t.data.toList).2.1.toArray⟩, (Lib.cut s.data.toList t.data.toList).2.2)
def BD6 : Table := ext BD5 92 (saysSS fun s t => (some (s.size ≤ 1000000000), .tup [.c (.str (cutV s t).1), .c (.str (cutV s t).2.1), .c (.bool (cutV s t).2.2)]))
theorem bD6 : TSound Try.prog BD6 := by
  refine ext_callsN bD5 92 (fn := Try.f92) rfl rfl rfl fun args H p r H' hs hp => ?_
  unfold saysSS at hs
  split at hs
  · rename_i s t
    cases hs
    refine ⟨rfl, fun G hS hH cargs ha => ?_⟩
    have hp' : s.size ≤ 1000000000 := hp
    cases ha with
    | cons h1 t1 =>
      cases t1 with
      | cons h2 t2 =>
        cases t2
        obtain ⟨_, rfl⟩ := h1
        obtain ⟨_, rfl⟩ := h2
        obtain ⟨m, hm⟩ := Glob8.hm
        obtain ⟨us, hu, hc⟩ := hS.vars _ hm
        have hu' : us = [.int .i64 m] := hu
        subst hu'
        have := (hc 0 _ rfl).2
        exact ⟨_, fun G' => ⟨_, rfl, .cons ⟨rfl, rfl⟩ (.cons ⟨rfl, rfl⟩ (.cons ⟨rfl, rfl⟩ .nil))⟩, Try.strings_Cut s t m _ (by omega) this⟩
  · cases hs

/-- A name begins there. -/
structure NmOk (nm : ByteArray) (i : Int) : Prop where
  ge : 0 ≤ i
  lt : i < (nm.size : Nat)
  at0 : 0 < i → byteAt nm (i - 1) = 0
  sz : nm.size ≤ 1000000000
def nmS (nm : ByteArray) (i : Int) : ByteArray := (cutV (nm.extract i.toNat nm.size) ⟨#[0]⟩).1
def saysNmG : Says := fun args H => match args, H with
  | [.c (.ptr 0 0), .c (.p (.v (.int .i64 i)))], [.row [.p (.l (.int .u8) b), .p (.v (.int .i64 a)), .p (.v (.string nm)), .gs 1 v n, .p (.v (.int .i64 op)), .p (.v (.int .i64 lv)), .p (.v (.int .i64 pl)), .p (.v (.int .i64 e))], o1, o2] => some (some (NmOk nm i ∧ GsOk v n o1 o2), .tup [.c (.str (nmS nm i)), .c (.bool true)], hqG b a nm v n op lv pl e o1 o2)
  | _, _ => none
def BD7 : Table := ext BD6 82 saysNmG
theorem bD7 : TSound Try.prog BD7 := by
  refine ext_run bD6 (f := 82) (fn := Try.f82) rfl rfl [0, 1, 4, 5, 6, 29] fun args H p r H' hs hp => ?_
  unfold saysNmG at hs
  split at hs
  · rename_i i b a nm v n op lv pl e o1 o2
    cases hs
    obtain ⟨hn, ns, ps, rfl, hpos, rfl, rfl⟩ := hp
    have h0 := hn.ge
    have h1 := hn.lt
    have h2 := hn.sz
    refine ⟨Nat.le_of_ble_eq_true rfl, [0, 1, 2], rfl, id3, ?_⟩
    have hi1 : inI64 (i - 1) := by unfold inI64; omega
    have hb1 : (lit false (decide ((nm.size : Int) ≤ i)) && lit true (decide (0 < i))) = true → 0 ≤ i - 1 ∧ i - 1 < (nm.size : Nat) := fun hg => by
      have : 0 < i := of_decide_eq_true (show decide (0 < i) = true from (Bool.and_eq_true_iff.1 hg).2)
      omega
    repeat ((conv => whnf); refine ⟨by first | exact hb1 | ((conv => whnf); exact ⟨⟨rfl, rfl, rfl⟩, trivial⟩) | exact Early.one (by decide +kernel) (by (conv => whnf); exact ⟨rfl, rfl, rfl⟩) trivial | (unfold inI64; omega) | omega | exact ⟨by omega, by omega⟩ | exact rfl | decide +kernel, ?_⟩)
    conv => whnf
    refine cond_intro (fun h => ?_) (fun h => ?_)
    · exfalso
      rw [Bool.or_eq_true, Bool.and_eq_true] at h
      rcases h with h | ⟨h3, h4⟩
      · have : ((nm.size : Nat) : Int) ≤ i := of_decide_eq_true h
        omega
      · have h5 := hn.at0 (of_decide_eq_true h3)
        rw [h5] at h4
        simp at h4
    have hb2 : 0 ≤ i ∧ i ≤ (nm.size : Nat) ∧ ((nm.size : Nat) : Int) ≤ (nm.size : Nat) := by omega
    have hb3 : (nm.extract i.toNat ((nm.size : Nat) : Int).toNat).size ≤ 1000000000 := by
      rw [ByteArray.size_extract]
      omega
    repeat ((conv => whnf); refine ⟨by first | exact hb2 | exact hb3 | ((conv => whnf); exact ⟨⟨rfl, rfl, rfl⟩, trivial⟩) | exact Early.one (by decide +kernel) (by (conv => whnf); exact ⟨rfl, rfl, rfl⟩) trivial | (unfold inI64; omega) | omega | exact ⟨by omega, by omega⟩ | exact rfl | decide +kernel, ?_⟩)
    conv => whnf
    exact ends_eq ⟨rfl, rfl⟩
  · cases hs
end Go.Ab
namespace Go.Ab
open Go.Proofs
set_option linter.unusedSectionVars false
set_option maxRecDepth 100000
variable [Glob8]

/-- A property stands there: its length, the place of its name, its value. -/
def prL (b : List Int) (a : Int) : Int := bnV b a.toNat
def prI (b : List Int) (a : Int) : Int := bnV b (a + 4).toNat
structure PyOk (b : List Int) (a : Int) (nm : ByteArray) : Prop where
  n1 : NumOk b a
  n2 : NumOk b (a + 4)
  le : prL b a ≤ 256
  nm : NmOk nm (prI b a)
  pd : PdOk b (a + 4 + 4) (prL b a) 0
def prE (b : List Int) (a : Int) : Int := (alN (a + 4 + 4 + prL b a + 0).toNat : Nat)
def prP (b : List Int) (a : Int) (nm : ByteArray) : Pt := (nmS nm (prI b a), pdT b (a + 4 + 4) (prL b a))
def saysPrG : Says := fun args H => match args, H with
  | [.c (.ptr 0 0)], [.row [.p (.l (.int .u8) b), .p (.v (.int .i64 a)), .p (.v (.string nm)), .gs 1 v n, .p (.v (.int .i64 op)), .p (.v (.int .i64 lv)), .p (.v (.int .i64 pl)), .p (.v (.int .i64 e))], .gvec t0 (.pair (.int .i64) (.pair .str (.list (.pair .str .str)))) ns i k (.own 2 (.pair .str .str) ps) v2, o2] =>
    some (some (PyOk b a nm ∧ n = ns.length ∧ 0 < n ∧ op = (n : Int) - 1 ∧ t0 = ndT ∧ i = n - 1 ∧ k = 2 ∧ v2 = v ∧ ps.length < 100000 ∧ o2 = ptO ps), .bool true, hqG b (prE b a) nm v n op lv pl e (gvO v ns (ps ++ [prP b a nm])) (ptO (ps ++ [prP b a nm])))
  | _, _ => none
def BD8 : Table := ext BD7 70 saysPrG
theorem bD8 : TSound Try.prog BD8 := by
  refine ext_run bD7 (f := 70) (fn := Try.f70) rfl rfl [0, 2, 3, 4, 5, 6, 7, 8, 15, 17, 26, 34, 44] fun args H p r H' hs hp => ?_
  unfold saysPrG at hs
  split at hs
  · rename_i b a nm v n op lv pl e t0 ns i k ps v2 o2
    cases hs
    obtain ⟨hz, rfl, hpos, rfl, rfl, rfl, rfl, rfl, hps, rfl⟩ := hp
    refine ⟨Nat.le_of_ble_eq_true rfl, [0, 1, 2], rfl, id3, ?_⟩
    have hg : GsOk v2 ns.length (gvO v2 ns ps) (ptO ps) := ⟨ns, ps, rfl, hpos, rfl, rfl⟩
    have hn1 : NumOk b a ∧ GsOk v2 ns.length (gvO v2 ns ps) (ptO ps) := ⟨hz.n1, hg⟩
    repeat ((conv => whnf); refine ⟨by first | exact hn1 | ((conv => whnf); exact ⟨⟨rfl, rfl, rfl⟩, trivial⟩) | exact Early.one (by decide +kernel) (by (conv => whnf); exact ⟨rfl, rfl, rfl⟩) trivial | (unfold inI64; omega) | omega | exact ⟨by omega, by omega⟩ | exact rfl | decide +kernel, ?_⟩)
    conv => whnf
    refine cond_intro (fun h => ?_) (fun h => ?_)
    · exfalso
      have : (256 : Int) < prL b a := of_decide_eq_true h
      have := hz.le
      omega
    have hn2 : NumOk b (a + 4) ∧ GsOk v2 ns.length (gvO v2 ns ps) (ptO ps) := ⟨hz.n2, hg⟩
    have hn3 : NmOk nm (bnV b (a + 4).toNat) ∧ GsOk v2 ns.length (gvO v2 ns ps) (ptO ps) := ⟨hz.nm, hg⟩
    have hn4 : PdOk b (a + 4 + 4) (bnV b a.toNat) 0 ∧ GsOk v2 ns.length (gvO v2 ns ps) (ptO ps) := ⟨hz.pd, hg⟩
    have hb : 0 ≤ ((ns.length : Nat) : Int) - 1 ∧ ((ns.length : Nat) : Int) - 1 < (ns.length : Nat) := by omega
    repeat ((conv => whnf); refine ⟨by first | exact hn2 | exact hn3 | exact hn4 | exact hb | exact ⟨rfl, hb⟩ | ((conv => whnf); exact ⟨⟨rfl, rfl, rfl⟩, trivial⟩) | exact Early.one (by decide +kernel) (by (conv => whnf); exact ⟨rfl, rfl, rfl⟩) trivial | (unfold inI64; omega) | omega | exact ⟨by omega, by omega⟩ | exact rfl | decide +kernel, ?_⟩)
    conv => whnf
    have hk : (((ns.length : Nat) : Int) - 1).toNat = ns.length - 1 := by omega
    refine Or.inr ⟨hk, ?_⟩
    have hc : ps.length + 1 ≤ capBound := by unfold capBound; omega
    repeat ((conv => whnf); refine ⟨by first | exact ⟨rfl, hc⟩ | exact hc | ((conv => whnf); exact ⟨⟨rfl, rfl, rfl⟩, trivial⟩) | exact Early.one (by decide +kernel) (by (conv => whnf); exact ⟨rfl, rfl, rfl⟩) trivial | (unfold inI64; omega) | omega | exact ⟨by omega, by omega⟩ | exact rfl | decide +kernel, ?_⟩)
    conv => whnf
    refine Or.inr ⟨⟨hk, rfl, rfl⟩, ?_⟩
    repeat ((conv => whnf); refine ⟨by first | (unfold inI64; omega) | omega | exact ⟨by omega, by omega⟩ | exact rfl | decide +kernel, ?_⟩)
    conv => whnf
    refine ends_eq ⟨rfl, ?_⟩
    have hl : (ps ++ [prP b a nm]).length = ps.length + 1 := by simp
    show [AO.row _, AO.gvec _ _ _ _ _ (.own 2 ptC (ps ++ [prP b a nm])) _, AO.tok _ _ (ps.length + 1) _] = _
    rw [← hl]
    rfl
  · cases hs

structure ElOk (b : List Int) (a : Int) (nm : ByteArray) (ns : List Nd) (op lv : Int) : Prop where
  num : NumOk b a
  n0 : 0 < ns.length
  n1 : ns.length ≤ 120
  o0 : 0 ≤ op
  o1 : op < (ns.length : Nat)
  l0 : 0 ≤ lv
  l1 : lv ≤ 9
  bg : bnV b a.toNat = 1 → TxOk b (a + 4) ∧ lv ≤ 8 ∧ ns.length < 120
  kd : bnV b a.toNat = 1 ∨ bnV b a.toNat = 2 ∨ bnV b a.toNat = 3
  pr : bnV b a.toNat = 3 → PyOk b (a + 4) nm ∧ op = ((ns.length : Nat) : Int) - 1
def elH (b : List Int) (a : Int) (nm : ByteArray) (v : Nat) (ns : List Nd) (ps : List Pt) (op lv pl e : Int) : List AO :=
  if bnV b a.toNat = 1 then [.row [.p (.l u8C b), .int .i64 (txE b (a + 4)), .str nm, .gs 1 (v + 1) (ns.length + 1), .int .i64 ns.length, .int .i64 (lv + 1), .int .i64 pl, .int .i64 e], .gvec ndT ndC (fxN ns ps ++ [(op, txS b (a + 4), [])]) ns.length 2 (.own 3 ptC []) (v + 1), ptO ps, ptO []]
  else if bnV b a.toNat = 2 then hqG b (a + 4) nm v ns.length (ndAt ns op.toNat).1 (lv - 1) pl e (gvO v ns ps) (ptO ps)
  else hqG b (prE b (a + 4)) nm v ns.length op lv pl e (gvO v ns (ps ++ [prP b (a + 4) nm])) (ptO (ps ++ [prP b (a + 4) nm]))
def saysEl : Says := fun args H => match args, H with
  | [.c (.ptr 0 0)], [.row [.p (.l (.int .u8) b), .p (.v (.int .i64 a)), .p (.v (.string nm)), .gs 1 v n, .p (.v (.int .i64 op)), .p (.v (.int .i64 lv)), .p (.v (.int .i64 pl)), .p (.v (.int .i64 e))], .gvec t0 (.pair (.int .i64) (.pair .str (.list (.pair .str .str)))) ns i k (.own 2 (.pair .str .str) ps) v2, o2] =>
    some (some (ElOk b a nm ns op lv ∧ n = ns.length ∧ t0 = ndT ∧ i = n - 1 ∧ k = 2 ∧ v2 = v ∧ ps.length < 100000 ∧ o2 = ptO ps), .bool true, elH b a nm v ns ps op lv pl e)
  | _, _ => none
theorem id34 : ∀ k, k < 3 → [0, 1, 2, 3][k]? = some k := fun k hk => by
  match k, hk with
  | 0, _ => rfl
  | 1, _ => rfl
  | 2, _ => rfl
def BD9 : Table := ext BD8 49 saysEl
theorem bD9 : TSound Try.prog BD9 := by
  refine ext_run bD8 (f := 49) (fn := Try.f49) rfl rfl [0, 2, 3, 4, 5, 12, 24, 29, 53] fun args H p r H' hs hp => ?_
  unfold saysEl at hs
  split at hs
  · rename_i b a nm v n op lv pl e t0 ns i k ps v2 o2
    cases hs
    obtain ⟨hz, rfl, rfl, rfl, rfl, rfl, hps, rfl⟩ := hp
    have hpos := hz.n0
    have hn := hz.n1
    have ho0 := hz.o0
    have ho1 := hz.o1
    have hl0 := hz.l0
    have hl1 := hz.l1
    have hg : GsOk v2 ns.length (gvO v2 ns ps) (ptO ps) := ⟨ns, ps, rfl, hpos, rfl, rfl⟩
    have hn1 : NumOk b a ∧ GsOk v2 ns.length (gvO v2 ns ps) (ptO ps) := ⟨hz.num, hg⟩
    have hi1 : inI64 (((ns.length : Nat) : Int) - 1) := by unfold inI64; omega
    have hi2 : inI64 (lv - 1) := by unfold inI64; omega
    have hb : 0 ≤ op ∧ op < (ns.length : Nat) := ⟨ho0, ho1⟩
    unfold elH
    rcases hz.kd with hk | hk | hk
    · obtain ⟨hb1, hb2, hb3⟩ := hz.bg hk
      rw [if_pos hk]
      refine ⟨Nat.le_of_ble_eq_true rfl, [0, 1, 2, 3], rfl, id34, ?_⟩
      repeat ((conv => whnf); refine ⟨by first | exact hn1 | exact hi1 | ((conv => whnf); exact ⟨⟨rfl, rfl, rfl⟩, trivial⟩) | exact Early.one (by decide +kernel) (by (conv => whnf); exact ⟨rfl, rfl, rfl⟩) trivial | (unfold inI64; omega) | omega | exact ⟨by omega, by omega⟩ | exact rfl | decide +kernel, ?_⟩)
      conv => whnf
      rw [hk]
      have hq : TxOk b (a + 4) ∧ 0 ≤ lv ∧ lv ≤ 8 ∧ ns.length = ns.length ∧ 0 < ns.length ∧ ns.length < 120 ∧ ndT = ndT ∧ ns.length - 1 = ns.length - 1 ∧ 2 = 2 ∧ v2 = v2 ∧ ptO ps = ptO ps := ⟨hb1, hl0, hb2, rfl, hpos, hb3, rfl, rfl, rfl, rfl, rfl⟩
      repeat ((conv => whnf); refine ⟨by first | exact hq | ((conv => whnf); exact ⟨⟨rfl, rfl, rfl⟩, trivial⟩) | exact Early.one (by decide +kernel) (by (conv => whnf); exact ⟨rfl, rfl, rfl⟩) trivial | (unfold inI64; omega) | omega | exact ⟨by omega, by omega⟩ | exact rfl | decide +kernel, ?_⟩)
      conv => whnf
      exact ends_eq ⟨rfl, rfl⟩
    · rw [if_neg (by rw [hk]; decide), if_pos hk]
      refine ⟨Nat.le_of_ble_eq_true rfl, [0, 1, 2], rfl, id3, ?_⟩
      repeat ((conv => whnf); refine ⟨by first | exact hn1 | exact hi1 | ((conv => whnf); exact ⟨⟨rfl, rfl, rfl⟩, trivial⟩) | exact Early.one (by decide +kernel) (by (conv => whnf); exact ⟨rfl, rfl, rfl⟩) trivial | (unfold inI64; omega) | omega | exact ⟨by omega, by omega⟩ | exact rfl | decide +kernel, ?_⟩)
      conv => whnf
      rw [hk]
      repeat ((conv => whnf); refine ⟨by first | exact hb | exact ⟨rfl, hb⟩ | exact hi2 | ((conv => whnf); exact ⟨⟨rfl, rfl, rfl⟩, trivial⟩) | exact Early.one (by decide +kernel) (by (conv => whnf); exact ⟨rfl, rfl, rfl⟩) trivial | (unfold inI64; omega) | omega | exact ⟨by omega, by omega⟩ | exact rfl | decide +kernel, ?_⟩)
      conv => whnf
      by_cases hop : op.toNat = ns.length - 1
      · refine Or.inr ⟨hop, ?_⟩
        repeat ((conv => whnf); refine ⟨by first | exact hi2 | ((conv => whnf); exact ⟨⟨rfl, rfl, rfl⟩, trivial⟩) | exact Early.one (by decide +kernel) (by (conv => whnf); exact ⟨rfl, rfl, rfl⟩) trivial | (unfold inI64; omega) | omega | exact ⟨by omega, by omega⟩ | exact rfl | decide +kernel, ?_⟩)
        conv => whnf
        exact ends_eq ⟨rfl, rfl⟩
      · refine Or.inl ⟨hop, ?_⟩
        repeat ((conv => whnf); refine ⟨by first | exact hi2 | ((conv => whnf); exact ⟨⟨rfl, rfl, rfl⟩, trivial⟩) | exact Early.one (by decide +kernel) (by (conv => whnf); exact ⟨rfl, rfl, rfl⟩) trivial | (unfold inI64; omega) | omega | exact ⟨by omega, by omega⟩ | exact rfl | decide +kernel, ?_⟩)
        conv => whnf
        exact ends_eq ⟨rfl, rfl⟩
    · obtain ⟨hp1, hp2⟩ := hz.pr hk
      rw [if_neg (by rw [hk]; decide), if_neg (by rw [hk]; decide)]
      refine ⟨Nat.le_of_ble_eq_true rfl, [0, 1, 2], rfl, id3, ?_⟩
      repeat ((conv => whnf); refine ⟨by first | exact hn1 | exact hi1 | ((conv => whnf); exact ⟨⟨rfl, rfl, rfl⟩, trivial⟩) | exact Early.one (by decide +kernel) (by (conv => whnf); exact ⟨rfl, rfl, rfl⟩) trivial | (unfold inI64; omega) | omega | exact ⟨by omega, by omega⟩ | exact rfl | decide +kernel, ?_⟩)
      conv => whnf
      rw [hk]
      have hq : PyOk b (a + 4) nm ∧ ns.length = ns.length ∧ 0 < ns.length ∧ op = ((ns.length : Nat) : Int) - 1 ∧ ndT = ndT ∧ ns.length - 1 = ns.length - 1 ∧ 2 = 2 ∧ v2 = v2 ∧ ps.length < 100000 ∧ ptO ps = ptO ps := ⟨hp1, rfl, hpos, hp2, rfl, rfl, rfl, rfl, hps, rfl⟩
      refine cond_intro (fun h => ?_) (fun h => ?_)
      · repeat ((conv => whnf); refine ⟨by first | exact hq | ((conv => whnf); exact ⟨⟨rfl, rfl, rfl⟩, trivial⟩) | exact Early.one (by decide +kernel) (by (conv => whnf); exact ⟨rfl, rfl, rfl⟩) trivial | (unfold inI64; omega) | omega | exact ⟨by omega, by omega⟩ | exact rfl | decide +kernel, ?_⟩)
        conv => whnf
        exact ends_eq ⟨rfl, rfl⟩
      · exfalso
        rw [hp2] at h
        simp at h
  · cases hs
end Go.Ab
