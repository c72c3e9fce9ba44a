/- Package expression: Primary. -/
import Derived.Test.YtkgcgbpclpmleaaGreatTV6toV2d
import Derived.Test.YtkgcgbpclpmleaaGreatTR6toG3
import Derived.Test.YtkgcgbpclpmleaaGreatTOtoP
namespace Go.Ab
open Go.Proofs
set_option linter.unusedSectionVars false
set_option maxRecDepth 100000
variable [Glob]
theorem pW_dec {r : Xr} (h : r.wl ≤ r.wz.length) : doneC true r.st = decide (r.wl = 0) := by
 have h1 : r.st.ws.isEmpty = decide (r.W = []) := by
  show r.W.isEmpty = _
  cases r.W <;> simp
 have h2 : decide (r.W = []) = decide (r.wl = 0) := by
  have := W_len r h
  apply decide_eq_decide.2
  constructor
  ·intro h; rw [h] at this; simpa using this.symm
  ·intro h; exact W_nil r h
 unfold doneC
 rw [h1, h2, Bool.true_or, Bool.and_true]
def Y37 : Table := ext X36 152 (saysX da0 ea0 (fun r _ => okP r 0) fun r _ => (.bool (firstR true r).1, (firstR true r).2))
theorem y37 : TS9 Y37 := by
 refine extX x36 152 (fn := Tryz.f152) rfl rfl da0 ea0 _ _ (fun _ => nB9 rfl) [0, 2, 11, 17, 20] fun r _ h1 => ?_
 have hsm := h1.small
 unfold firstR
 simp only
 repeat ((conv => whnf); refine ⟨by first | exact ⟨rfl, rfl, hsm⟩ | exact ⟨rfl, rfl, trivial⟩, ?_⟩)
 conv => whnf
 refine cI9 ?_ ?_<;>intro h
 ·have hf : frontV (signX r) = false := by
   have h2 : lit false (frontV (signX r)) = true := h
   simpa [lit] using h2
  rw [if_neg (by rw [hf]; simp)]
  repeat ((conv => whnf); refine ⟨⟨rfl, rfl, h1⟩, ?_⟩)
  conv => whnf
  unfold exprR
  refine cI9 ?_ ?_<;>intro h3
  ·have h4 : (opX' r).1 = false := by
    have h5 : (frontV (signX r) || !(opX' r).1) = true := h3
    rw [hf] at h5
    simpa using h5
   rw [h4]
   simp only [Bool.false_eq_true, if_false]
   conv => whnf
   exact eR9
  have h4 : (opX' r).1 = true := by
   have h5 : (frontV (signX r) || !(opX' r).1) = false := h3
   rw [hf] at h5
   simpa using h5
  rw [if_pos h4]
  have h6 := opP h1 h4
  conv => whnf
  refine lI9 (σ := Xr) (fun _ => [(0, XV.s (.a (.c (.ptr 0 0)))), (2, nX9), (11, nX9), (17, nX9), (20, nX9)])
   (fun q => xrH q) (fun q => okP q 1 ∧ loopX' true q = loopX' true (opX' r).2) (fun q => mu q.st) (opX' r).2 ?_ rfl ?_ fun q hI => ?_
  ·repeat first|exact lN9|refine lD9 ?_|refine lS9 ?_
  ·exact ⟨h6, rfl⟩
  obtain ⟨h7, h8⟩ := hI
  have b := h7.bounds
  repeat ((conv => whnf); refine ⟨by omega, ?_⟩)
  conv => whnf
  refine cI9 ?_ ?_<;>intro h9
  ·have hd : doneC true q.st = false := by
    rw [pW_dec h7.ok.hw]
    have : (0 : Int) < q.wl := oT9 h9
    exact dF9 (by omega)
   have hs := loop_step h7 hd
   repeat ((conv => whnf); refine ⟨⟨rfl, rfl, h7⟩, ?_⟩)
   conv => whnf
   refine cI9 ?_ ?_<;>intro ha
   ·have hb : (folX q).1 = false := by simpa using ha
    rw [hb] at hs
    simp only [Bool.false_eq_true, if_false] at hs
    rw [← h8, hs]
    conv => whnf
    exact eR9
   ·have hb : (folX q).1 = true := by simpa using ha
    rw [if_pos hb] at hs
    conv => whnf
    refine hI9 (folX q).2 ?_ rfl ?_ ?_
    ·repeat first|exact lN9|refine lD9 ?_|refine lS9 ?_
    ·exact ⟨folP h7 hb, by rw [← hs]; exact h8⟩
    ·exact fol_lt h7 hb hd
  ·have hd : doneC true q.st = true := by
    rw [pW_dec h7.ok.hw]
    have : ¬ (0 : Int) < q.wl := oF9 h9
    exact dT9 (by omega)
   rw [← h8, loop_done hd]
   conv => whnf
   exact eR9
 ·have hf : frontV (signX r) = true := by
   have h2 : lit false (frontV (signX r)) = false := h
   simpa [lit] using h2
  rw [if_pos hf]
  conv => whnf
  refine cI9 (fun _ => ?_) (fun h3 => ?_)
  ·skip
   conv => whnf
   exact eR9
  ·exfalso
   have h5 : (frontV (signX r) || !false) = false := h3
   simp at h5
abbrev nilA : AC := .p (.v (.slice none 0 0))
def rd0H (toks : List tkC.den) (a : Nat) : List AO := [.row [.p (.l tkC toks), .int .i64 a, nilA, nilA, nilA, .int .i64 0, .bool false, .bool false, .bool false]]
def rd0Of (H : List AO) : Option (List tkC.den × Int) :=
 match H with
 | [.row [.p (.l c0 toks), .p (.v (.int .i64 a)), .p (.v (.slice none 0 0)), _, _, _, _, _, _]] => match castD (e := tkC) (e' := c0) toks with
  | some toks => some (toks, a)
  | none => none
 | _ => none
def saysW (pre : List tkC.den → Nat → Prop) (g : Xr → Bool × Xr) : Says := fun args H => match args with
 | [.c (.ptr 0 0)] => match rd0Of H with
  | some (toks, a) => some (some (H = rd0H toks a.toNat ∧ pre toks a.toNat), .bool (g (xr0 toks a.toNat)).1, xrH (g (xr0 toks a.toNat)).2)
  | none => none
 | _ => none
theorem weak_rd (toks : List tkC.den) (a : Nat) : ∀ G : View, Sim G → G.H = rd0H toks a → ∃ G' : View, G'.w = G.w ∧ Ext G G' ∧ Sim G' ∧ G'.H = xrH (xr0 toks a) := by
 intro G hS hH
 obtain ⟨G1, w1, x1, s1, h1⟩ := weak_sl hS (id := 0) (by rw [hH]; rfl) 3 rfl 94 (.int .u32)
 rw [hH] at h1
 obtain ⟨G2, w2, x2, s2, h2⟩ := weak_sl s1 (id := 0) (by rw [h1]; rfl) 4 rfl 189 frC
 rw [h1] at h2
 obtain ⟨G3, w3, x3, s3, h3⟩ := may_join s2 (id := 0) (by rw [h2]; rfl) 2 (.l mpC rowsM) (.inr rfl)
 rw [h2] at h3
 exact ⟨G3, w3.trans (w2.trans w1), (x1.trans x2).trans x3, s3, h3⟩
def fresh (toks : List tkC.den) (a : Nat) : Prop := toks.length ≤ 1000000 ∧ a ≤ toks.length
def Y38 : Table := ext Y37 152 (saysW fresh (firstR true))
theorem y38 : TS9 Y38 := by
 refine ext_weak y37 152 _ fun args H p r H' hs hp => ?_
 unfold saysW at hs
 split at hs
 ·split at hs
  ·rename_i toks a _
   cases hs
   obtain ⟨rfl, hf⟩ := hp
   exact ⟨_, xrH (xr0 toks a.toNat), rfl, ⟨rfl, rfl, xr0_ok hf.2 hf.1⟩, rfl, weak_rd toks a.toNat⟩
  ·cases hs
 ·cases hs
def resSV (x : Int × Int × Int) : SV := .tup [.c (.int .i64 x.1), .c (.int .i64 x.2.1), .c (.int .i64 x.2.2)]
def daRd (id : Nat) : List AV → Option (List tkC.den × Int)
 | [.c (.p (.l c0 toks)), .c (.p (.v (.int .i64 a))), .c (.p (.v (.func (.func f) x y)))] => match castD (e := tkC) (e' := c0) toks, Nat.beq f id, x.toList, y.toList with
  | some toks, true, [], [] => some (toks, a)
  | _, _, _, _ => none
 | _ => none
def rdArgs (id : Nat) (toks : List tkC.den) (a : Int) : List AV := [.c (.p (.l tkC toks)), .c (.int .i64 a), .c (.p (.v (.func (.func id) #[] #[])))]
def saysRead (id : Nat) (pm : Bool) : Says := fun args H => match H with
 | [] => match daRd id args with
  | some (toks, a) => some (some (args = rdArgs id toks a ∧ toks.length ≤ 1000000), resSV (readR pm toks a), [])
  | none => none
 | _ => none
def Y39 : Table := ext Y38 151 (saysRead 152 true)
theorem firstR_P {toks : List tkC.den} {a : Nat} (hl : toks.length ≤ 1000000) (ha : a ≤ toks.length) (h : (firstR true (xr0 toks a)).1 = true) : okX (firstR true (xr0 toks a)).2 1 ∧ u32r ((firstR true (xr0 toks a)).2.vz.getD 0 0) := by
 have e : firstR true (xr0 toks a) = exprR true (xr0 toks a) := by
  unfold firstR at h ⊢
  simp only at h ⊢
  split
  ·rename_i h2
   rw [if_pos h2] at h
   cases h
  ·rfl
 rw [e] at h ⊢
 obtain ⟨m1, m2⟩ := exprR_ok true toks a ha hl
 refine ⟨?_, (NN.expr (r := xr0 toks a) fun x hx => by cases hx).get 0⟩
 cases hd : opRun true ((toks.drop a).map tkOf) [] [] fl0 with
 | none => rw [hd, h] at m1; cases m1
 | some st => exact (m2 st hd).2.1
theorem faultV_F (r : Xr) : faultV r = faultF r.fl := rfl
theorem y39 : TS9 Y39 := by
 refine ext_run y38 (f := 151) (fn := Tryz.f151) rfl rfl [0, 1, 2, 6, 7, 8, 9, 10, 18, 24, 27] fun args H p r' H' hs hp => ?_
 unfold saysRead at hs
 split at hs
 ·split at hs
  ·rename_i toks a _
   cases hs
   obtain ⟨rfl, hl⟩ := hp
   refine ⟨nB9 rfl, [], rfl, nK9, ?_⟩
   unfold rdArgs readR
   conv => whnf
   refine cI9 ?_ ?_<;>intro h
   ·have h' : a < 0 ∨ (toks.length : Int) ≤ a := by simpa using h
    rw [if_pos h']
    conv => whnf
    exact eR9
   have h' : ¬ (a < 0 ∨ (toks.length : Int) ≤ a) := by
    have : (decide (a < 0) || decide ((toks.length : Int) ≤ a)) = false := h
    simp at this
    omega
   rw [if_neg h']
   obtain ⟨a, rfl⟩ : ∃ n : Nat, a = n := ⟨a.toNat, by omega⟩
   have ha : a ≤ toks.length := by omega
   rw [Int.toNat_natCast]
   show runC _ _ _ _ _ _ _
   repeat ((conv => whnf); refine ⟨⟨rfl, hl, ha⟩, ?_⟩)
   conv => whnf
   refine cI9 ?_ ?_<;>intro h2
   ·have hb : (firstR true (xr0 toks a)).1 = false := by simpa using h2
    rw [if_pos hb]
    conv => whnf
    exact eR9
   have hb : (firstR true (xr0 toks a)).1 = true := by simpa using h2
   obtain ⟨hk, hv0⟩ := firstR_P hl ha hb
   have hvl : 0 < (firstR true (xr0 toks a)).2.vl := by rw [hk.hn]; omega
   rw [if_neg (by rw [hb]; decide)]
   repeat ((conv => whnf); refine ⟨⟨rfl, rfl, trivial⟩, ?_⟩)
   conv => whnf
   refine cI9 ?_ ?_<;>intro h3
   ·have hc : ¬ faultF (firstR true (xr0 toks a)).2.fl = 0 := by
     have : (!decide (faultV (firstR true (xr0 toks a)).2 = 0)) = true := h3
     rw [faultV_F] at this
     simpa using this
    rw [if_neg hc]
    conv => whnf
    exact eR9
   have hc : faultF (firstR true (xr0 toks a)).2.fl = 0 := by
    have : (!decide (faultV (firstR true (xr0 toks a)).2 = 0)) = false := h3
    rw [faultV_F] at this
    simpa using this
   rw [if_pos hc]
   repeat ((conv => whnf); refine ⟨by first | exact ⟨rfl, (show (0 : Int) ≤ 0 by decide), (show (0 : Int) < ((firstR true (xr0 toks a)).2.vl : Nat) by omega)⟩ | (show inI64 ((firstR true (xr0 toks a)).2.vz.getD 0 0); have := hv0.1; have := hv0.2; unfold inI64; omega) | omega | exact rfl, ?_⟩)
   conv => whnf
   exact eR9
  ·cases hs
 ·cases hs
def daVal : List AV → Option (List tkC.den × Int)
 | [.c (.p (.l c0 toks)), .c (.p (.v (.int .i64 a)))] => match castD (e := tkC) (e' := c0) toks with
  | some toks => some (toks, a)
  | none => none
 | _ => none
def saysVal (pm : Bool) : Says := fun args H => match H with
 | [] => match daVal args with
  | some (toks, a) => some (some (args = [.c (.p (.l tkC toks)), .c (.int .i64 a)] ∧ toks.length ≤ 1000000), resSV (exprV pm toks a), [])
  | none => none
 | _ => none
def Y40 : Table := ext Y39 150 (saysVal true)
theorem y40 : TS9 Y40 := by
 refine ext_run y39 (f := 150) (fn := Tryz.f150) rfl rfl [0, 1, 4, 5, 6] fun args H p r' H' hs hp => ?_
 unfold saysVal at hs
 split at hs
 ·split at hs
  ·rename_i toks a _
   cases hs
   obtain ⟨rfl, hl⟩ := hp
   refine ⟨nB9 rfl, [], rfl, nK9, ?_⟩
   repeat ((conv => whnf); refine ⟨⟨rfl, hl⟩, ?_⟩)
   conv => whnf
   refine eT9 ?_
   rw [← read_desc true toks a hl]
   rfl
  ·cases hs
 ·cases hs
end Go.Ab
namespace Go.Ab
set_option linter.unusedSectionVars false
def OpdOk (D : Nat) (ts : List Tk) (x : Int) (ts' : List Tk) : Prop := ∀ n d f, 3 * ts.length < n → d + D ≤ 8 → opd n d ts f = some (x, ts', f)
def RwsOk (D m : Nat) (x : Int) (ts : List Tk) (y : Int) (ts' : List Tk) : Prop := ∀ n d f, 3 * ts.length < n → d + D ≤ 8 → rws n m d x ts f = some (y, ts', f)
def WhlOk (D : Nat) (ts : List Tk) (x : Int) (ts' : List Tk) : Prop := ∀ n d f, 3 * ts.length + 1 < n → d + D ≤ 8 → whl n d ts f = some (x, ts', f)
theorem OpdOk.le {D D' : Nat} {ts ts' : List Tk} {x : Int} (h : OpdOk D ts x ts') (hd : D ≤ D') : OpdOk D' ts x ts' := fun n d f hn hd' => h n d f hn (by omega)
theorem RwsOk.le {D D' m : Nat} {ts ts' : List Tk} {x y : Int} (h : RwsOk D m x ts y ts') (hd : D ≤ D') : RwsOk D' m x ts y ts' := fun n d f hn hd' => h n d f hn (by omega)
theorem WhlOk.le {D D' : Nat} {ts ts' : List Tk} {x : Int} (h : WhlOk D ts x ts') (hd : D ≤ D') : WhlOk D' ts x ts' := fun n d f hn hd' => h n d f hn (by omega)
abbrev tkNum (v : Int) : Tk := (2, ⟨#[]⟩, v)
abbrev tkSg (s : ByteArray) : Tk := (4, s, 0)
abbrev tkEnd : Tk := (8, ⟨#[]⟩, 0)
theorem w32_id {v : Int} (h0 : 0 ≤ v) (h1 : v ≤ 4294967295) : w32 v = v := by
 unfold w32 IntKind.wrap
 simp only [IntKind.signed, IntKind.bits]
 simp
 omega
theorem sgn_tk (s : ByteArray) (ts : List Tk) : sgn (tkSg s :: ts) = s := rfl
theorem OpdOk.num {v : Int} (h0 : 0 ≤ v) (h1 : v ≤ 4294967295) (ts : List Tk) : OpdOk 0 (tkNum v :: ts) v ts := by
 intro n d f hn hd
 obtain ⟨n, rfl⟩ : ∃ m, n = m + 1 := ⟨n - 1, by omega⟩
 unfold opd
 rw [if_pos rfl, w32_id h0 h1]
 have : f.num d v = f := by
  unfold Fl.num
  have e1 : decide (8 < d) = false := dF9 (by omega)
  have e2 : decide (v < 0) = false := dF9 (by omega)
  have e3 : decide (4294967295 < v) = false := dF9 (by omega)
  show Fl.mk (f.deep || decide (8 < d)) (f.oor || (decide (v < 0) || decide (4294967295 < v))) f.div = f
  rw [e1, e2, e3]
  simp
 show some (v, ts, f.num d v) = _
 rw [this]
theorem dv_no (f : Fl) {s : ByteArray} {b : Int} (h : by0 s b = false) : f.dv s b = f := by
 unfold Fl.dv
 rw [h, Bool.or_false]
theorem calcD_no {k : Nat} {s : ByteArray} {a b : Int} (h : by0 s b = false) : calcD k s a b = calcV k s a b := by
 unfold calcD
 rw [h]
 rfl
theorem by0_front {s : ByteArray} (h : frontV s = true) (b : Int) : by0 s b = false := by
 unfold by0 divs
 have h1 : ¬ s = ⟨#[47]⟩ := by rintro rfl; revert h; decide
 have h2 : ¬ s = ⟨#[37]⟩ := by rintro rfl; revert h; decide
 rw [dF9 h1, dF9 h2]
 simp
theorem OpdOk.front {D : Nat} {s : ByteArray} (hs : frontV s = true) {ts ts' : List Tk} {x : Int} (h : OpdOk D ts x ts') : OpdOk D (tkSg s :: ts) (calcV 0 s 0 x) ts' := by
 intro n d f hn hd
 obtain ⟨n, rfl⟩ : ∃ m, n = m + 1 := ⟨n - 1, by omega⟩
 simp only [zC9] at hn
 have hf := front_ne hs
 unfold opd
 rw [if_neg (show ¬ (4 : Int) = 2 by decide), sgn_tk, if_neg hf.1, if_pos hs, h n d f (by omega) hd]
 simp only
 rw [calcD_no (by0_front hs x), dv_no f (by0_front hs x)]
theorem opd_len {D : Nat} {ts ts' : List Tk} {x : Int} (h : OpdOk D ts x ts') (hD : D ≤ 8) : ts'.length < ts.length :=
 (k1 false (3 * ts.length + 1)).opl _ _ _ _ (h _ 0 fl0 (by omega) (by omega))
theorem rws_len {D m : Nat} {ts ts' : List Tk} {x y : Int} (h : RwsOk D m x ts y ts') (hD : D ≤ 8) : ts'.length ≤ ts.length :=
 ((k1 false (3 * ts.length + 1)).rwl _ _ _ _ _ _ (h _ 0 fl0 (by omega) (by omega))).1
theorem RwsOk.step {D m k : Nat} {s : ByteArray} {x y y' z : Int} {ts1 ts2 ts3 ts4 : List Tk} (hD : D ≤ 8) (hk : betw s = k) (hk0 : k ≠ 0) (hkm : k < m) (h1 : OpdOk D ts1 y ts2) (h2 : RwsOk D k y ts2 y' ts3) (hb : by0 s y' = false)
  (h3 : RwsOk D m (calcV k s x y') ts3 z ts4) : RwsOk D m x (tkSg s :: ts1) z ts4 := by
 intro n d f hn hd
 obtain ⟨n, rfl⟩ : ∃ k, n = k + 1 := ⟨n - 1, by omega⟩
 simp only [zC9] at hn
 have l1 := opd_len h1 hD
 have l2 := rws_len h2 hD
 unfold rws
 rw [sgn_tk, hk, if_neg (by omega), show (tkSg s :: ts1).drop 1 = ts1 from rfl, h1 n d f (by omega) hd]
 simp only
 rw [h2 n d f (by omega) hd]
 simp only
 rw [calcD_no hb, dv_no f hb]
 exact h3 n d f (by omega) hd
theorem WhlOk.plain {D : Nat} {ts ts1 ts2 : List Tk} {x c : Int} (hD : D ≤ 8) (h1 : OpdOk D ts x ts1) (h2 : RwsOk D 11 x ts1 c ts2) (hq : sgn ts2 ≠ sQ) : WhlOk D ts c ts2 := by
 intro n d f hn hd
 obtain ⟨n, rfl⟩ : ∃ k, n = k + 1 := ⟨n - 1, by omega⟩
 have l1 := opd_len h1 hD
 rw [whl, h1 n d f (by omega) hd]
 simp only
 rw [h2 n d f (by omega) hd]
 simp only
 rw [if_neg hq]
end Go.Ab
namespace Go.Ab
open Go.Proofs
set_option linter.unusedSectionVars false
set_option maxRecDepth 100000
variable [Glob]
def T51 : Table := T50
theorem t51 : TS9 T51 := t50
end Go.Ab
namespace Go.Ab
abbrev B (l : List UInt8) : ByteArray := ⟨⟨l⟩⟩
theorem B_size (l : List UInt8) : (B l).size = l.length := rfl
theorem B_inj {l m : List UInt8} : B l = B m ↔ l = m := by
 constructor
 ·intro h
  have := congrArg (fun s : ByteArray => s.data.toList) h
  exact this
 ·intro h; rw [h]
theorem B_eq (l m : List UInt8) : decide (B l = B m) = decide (l = m) := by
 rw [Bool.eq_iff_iff]; simp only [decide_eq_true_eq]; exact B_inj
theorem B_append (l m : List UInt8) : B l ++ B m = B (l ++ m) := by
 have h : ∀ a b : ByteArray, a.data.toList = b.data.toList → a = b := fun a b h => (B_inj (l := a.data.toList) (m := b.data.toList)).2 h
 apply h
 rw [ByteArray.data_append]
 simp
theorem B_extract (l : List UInt8) (a b : Nat) : (B l).extract a b = B ((l.take b).drop a) := by
 have h : ∀ a b : ByteArray, a.data.toList = b.data.toList → a = b := fun a b h => (B_inj (l := a.data.toList) (m := b.data.toList)).2 h
 apply h
 rw [ByteArray.data_extract]
 simp [List.drop_take]
theorem byteAt_B (l : List UInt8) (i : Nat) : byteAt (B l) i = ((l.getD i 0).toNat : Int) := rfl
theorem byteAt_cons (a : UInt8) (l : List UInt8) : byteAt (B (a :: l)) 0 = (a.toNat : Int) := rfl
theorem byteAt_succ (a : UInt8) (l : List UInt8) (i : Nat) : byteAt (B (a :: l)) ((i + 1 : Nat) : Int) = byteAt (B l) i := rfl
end Go.Ab
namespace Go.Ab
open Go.Proofs
set_option linter.unusedSectionVars false
variable [Glob]
def tw (p : Int → Bool) (l : List UInt8) : List UInt8 := l.takeWhile fun u : UInt8 => p ((u.toNat : Nat) : Int)
def dw (p : Int → Bool) (l : List UInt8) : List UInt8 := l.dropWhile fun u : UInt8 => p ((u.toNat : Nat) : Int)
theorem leadN_B (p : Int → Bool) (l : List UInt8) : leadN p (B l) = (tw p l).length := rfl
theorem tw_dw (p : Int → Bool) (l : List UInt8) : tw p l ++ dw p l = l := List.takeWhile_append_dropWhile
theorem take_tw (p : Int → Bool) (l : List UInt8) : l.take (tw p l).length = tw p l := by
 have h := List.take_left (l₁ := tw p l) (l₂ := dw p l)
 rwa [tw_dw] at h
theorem drop_tw (p : Int → Bool) (l : List UInt8) : l.drop (tw p l).length = dw p l := by
 have h := List.drop_left (l₁ := tw p l) (l₂ := dw p l)
 rwa [tw_dw] at h
theorem tw_cons_pos {p : Int → Bool} {a : UInt8} {l : List UInt8} (h : p ((a.toNat : Nat) : Int) = true) : tw p (a :: l) = a :: tw p l := List.takeWhile_cons_of_pos (p := fun u : UInt8 => p ((u.toNat : Nat) : Int)) h
theorem tw_cons_neg {p : Int → Bool} {a : UInt8} {l : List UInt8} (h : p ((a.toNat : Nat) : Int) = false) : tw p (a :: l) = [] := List.takeWhile_cons_of_neg (p := fun u : UInt8 => p ((u.toNat : Nat) : Int)) (by rw [h]; decide)
theorem dw_cons_pos {p : Int → Bool} {a : UInt8} {l : List UInt8} (h : p ((a.toNat : Nat) : Int) = true) : dw p (a :: l) = dw p l := List.dropWhile_cons_of_pos (p := fun u : UInt8 => p ((u.toNat : Nat) : Int)) h
theorem dw_cons_neg {p : Int → Bool} {a : UInt8} {l : List UInt8} (h : p ((a.toNat : Nat) : Int) = false) : dw p (a :: l) = a :: l := List.dropWhile_cons_of_neg (p := fun u : UInt8 => p ((u.toNat : Nat) : Int)) (by rw [h]; decide)
theorem tw_len (p : Int → Bool) (l : List UInt8) : (tw p l).length + (dw p l).length = l.length := by
 have h := congrArg List.length (tw_dw p l)
 simpa using h
theorem byteAt_tw (p : Int → Bool) (l : List UInt8) : byteAt (B l) ((tw p l).length : Int) = (((dw p l).getD 0 0).toNat : Int) := by
 rw [byteAt_B, ← drop_tw]
 simp
theorem pref2 (x y : UInt8) (l : List UInt8) : prefB (B l) ⟨#[x, y]⟩ = (match l with | a :: b :: _ => decide (a = x) && decide (b = y) | _ => false) := by
 unfold prefB
 have h2 : (ByteArray.mk #[x, y]).size = 2 := rfl
 rw [h2, B_extract, show (ByteArray.mk #[x, y]) = B [x, y] from rfl, B_eq, B_size]
 match l with
 | [] => simp
 | [a] => simp
 | a :: b :: r =>
  have h3 : (((2 : Nat) : Int) ≤ ((a :: b :: r).length : Nat)) := by simp only [zC9]; omega
  rw [dT9 h3]
  simp
def endAt : List UInt8 → Option Nat
 | [] => none
 | a :: r => if a = 42 ∧ r.head? = some 47 then some 0 else (endAt r).map (· + 1)
theorem index_end : ∀ l : List UInt8, Lib.index l [42, 47] = (match endAt l with | some n => (n : Int) | none => -1)
 | [] => rfl
 | a :: r => by
  have ih := index_end r
  unfold Lib.index endAt
  rw [ih]
  by_cases h : a = 42 ∧ r.head? = some 47
  ·rw [if_pos h]
   obtain ⟨rfl, h2⟩ := h
   cases r with
   | nil => cases h2
   | cons b r => cases h2; rfl
  ·rw [if_neg h, if_neg]
   ·cases endAt r with
    | none => rfl
    | some n =>
     simp only [Option.map_some]
     rw [if_neg]
     ·simp
     ·simp only [beq_iff_eq]; omega
   ·intro h2
    apply h
    cases r with
    | nil => simp [List.isPrefixOf] at h2
    | cons b r =>
     simp [List.isPrefixOf] at h2
     exact ⟨h2.1.symm, by rw [List.head?_cons, ← h2.2]⟩
def sepL (l : List UInt8) : Nat × Int :=
 if l.head? = some 47 ∧ l.tail.head? = some 47 then ((tw lineB l).length, 0)
 else if l.head? = some 47 ∧ l.tail.head? = some 42 then (match endAt (l.drop 2) with | some n => (n + 4, 0) | none => (0, 21))
 else ((tw spaceB l).length, 0)
theorem pref2' (x y : UInt8) (l : List UInt8) : prefB (B l) ⟨#[x, y]⟩ = decide (l.head? = some x ∧ l.tail.head? = some y) := by
 rw [pref2]
 match l with
 | [] => simp
 | [a] => simp
 | a :: b :: r => simp
theorem sepV_L (l : List UInt8) : sepV (B l) = (((sepL l).1 : Int), (sepL l).2) := by
 unfold sepV sepL
 rw [pref2', pref2']
 by_cases h1 : l.head? = some 47 ∧ l.tail.head? = some 47
 ·rw [if_pos h1, if_pos (dT9 h1)]; rfl
 ·rw [if_neg h1, if_neg (by rw [dF9 h1]; decide)]
  by_cases h2 : l.head? = some 47 ∧ l.tail.head? = some 42
  ·rw [if_pos h2, if_pos (dT9 h2)]
   have e : indexV ((B l).extract 2 (B l).size) ⟨#[42, 47]⟩ = (match endAt (l.drop 2) with | some n => (n : Int) | none => -1) := by
    rw [B_extract, B_size, List.take_of_length_le (nR9 _)]
    exact index_end _
   rw [e]
   cases endAt (l.drop 2) with
   | none => rfl
   | some n =>
    simp only
    rw [if_neg (by omega)]
    rfl
  ·rw [if_neg h2, if_neg (by rw [dF9 h2]; decide)]; rfl
def nameLx (l : List UInt8) : TokV × Nat × Int :=
 if (dw nameB l).head? = some 58 then (if (tw wordB l).length < (tw nameB l).length then ({}, 0, 6) else ({ kind := 5, text := B (tw nameB l) }, (tw nameB l).length + 1, 0))
 else ({ kind := 1, text := B (tw nameB l) }, (tw nameB l).length, 0)
def fitsL (x : TokV × Nat × Int) : TokV × Int × Int := (x.1, (x.2.1 : Int), x.2.2)
theorem head_byte {l : List UInt8} (c : UInt8) (hc : c ≠ 0) : decide ((((l.getD 0 0).toNat : Nat) : Int) = ((c.toNat : Nat) : Int)) = decide (l.head? = some c) := by
 cases l with
 | nil =>
  simp only [List.getD_nil, List.head?_nil, reduceCtorEq, decide_false]
  apply dF9
  intro h
  apply hc
  apply UInt8.toNat_inj.1
  have : (0 : UInt8).toNat = c.toNat := by exact_mod_cast h
  exact this.symm
 | cons a l =>
  simp only [List.getD_cons_zero, List.head?_cons, Option.some.injEq]
  rw [decide_eq_decide]
  rw [Int.ofNat_inj, UInt8.toNat_inj]
theorem nameV_L (l : List UInt8) : nameV (B l) = fitsL (nameLx l) := by
 unfold nameV nameLx
 rw [leadN_B, leadN_B, byteAt_tw, B_size, B_extract, List.drop_zero, take_tw]
 have h58 : decide (((((dw nameB l).getD 0 0).toNat : Nat) : Int) = 58) = decide ((dw nameB l).head? = some 58) := head_byte 58 (by decide)
 have hl := tw_len nameB l
 by_cases h : (dw nameB l).head? = some 58
 ·have hne : decide (((tw nameB l).length : Int) = l.length) = false := by
   apply dF9
   intro h2
   have : (dw nameB l).length = 0 := by omega
   rw [List.length_eq_zero_iff] at this
   rw [this] at h
   cases h
  rw [h58, dT9 h, hne, if_neg (by decide), if_pos h]
  by_cases h2 : (tw wordB l).length < (tw nameB l).length
  ·rw [if_pos h2, if_pos (by omega)]; rfl
  ·rw [if_neg h2, if_neg (by omega)]; rfl
 ·rw [h58, dF9 h, if_neg h, if_pos (by simp)]; rfl
def splitL (l : List UInt8) : List UInt8 × Int :=
 if l.head? = some 48 ∧ l.tail.head? = some 120 then (l.drop 2, 16) else if l.head? = some 48 then (l, 8) else (l, 10)
def compLgo (b : Int) : List UInt8 → Int → Int × Int
 | [], v => if 4294967295 < v then (0, 2) else (v, 0)
 | d :: r, v => if b ≤ digitV ((d.toNat : Nat) : Int) then (0, 6) else compLgo b r (if 4294967296 < v * b + digitV ((d.toNat : Nat) : Int) then 4294967296 else v * b + digitV ((d.toNat : Nat) : Int))
def compL (l : List UInt8) (b : Int) : Int × Int := if l = [] then (0, 6) else compLgo b l 0
theorem compGo_L (b : Int) : ∀ (r p : List UInt8) (v : Int), compGo (B (p ++ r)) b r.length p.length v = compLgo b r v
 | [], p, v => rfl
 | d :: r, p, v => by
  have ih := compGo_L b r (p ++ [d])
  have e : p ++ [d] ++ r = p ++ d :: r := by simp
  have e2 : (p ++ [d]).length = p.length + 1 := by simp
  rw [e, e2] at ih
  simp only [compLgo, zC9, compGo]
  have hb : byteAt (B (p ++ d :: r)) (p.length : Int) = ((d.toNat : Nat) : Int) := by
   rw [byteAt_B]; simp
  rw [hb, ih]
theorem compV_L (l : List UInt8) (b : Int) : compV (B l) b = compL l b := by
 unfold compV compL
 by_cases h : l = []
 ·rw [if_pos h, if_pos (B_inj.2 h)]
 ·rw [if_neg h, if_neg (fun h2 => h (B_inj.1 h2))]
  exact compGo_L b l [] 0
def numLx (l : List UInt8) : TokV × Nat × Int :=
 if (compL (splitL (tw wordB l)).1 (splitL (tw wordB l)).2).2 = 0 then ({ kind := 2, value := (compL (splitL (tw wordB l)).1 (splitL (tw wordB l)).2).1 }, (tw wordB l).length, 0)
 else ({}, 0, (compL (splitL (tw wordB l)).1 (splitL (tw wordB l)).2).2)
theorem split_L (l : List UInt8) : splitD (B l) = B (splitL l).1 ∧ splitB (B l) = (splitL l).2 := by
 have h48 : decide (byteAt (B l) 0 = 48) = decide (l.head? = some 48) := head_byte 48 (by decide)
 have hp : prefB (B l) ⟨#[48, 120]⟩ = decide (l.head? = some 48 ∧ l.tail.head? = some 120) := pref2' _ _ _
 by_cases h : l.head? = some 48 ∧ l.tail.head? = some 120
 ·have hp' := hp.trans (dT9 h)
  refine ⟨?_, ?_⟩
  ·unfold splitD splitL trimP
   rw [if_pos hp', if_pos hp', if_pos h, B_extract]
   show B (List.drop 2 (List.take l.length l)) = B (List.drop 2 l)
   rw [List.take_of_length_le (nR9 _)]
  ·unfold splitB splitL
   rw [if_pos hp', if_pos h]
 ·have hp' : ¬ prefB (B l) ⟨#[48, 120]⟩ = true := by rw [hp, dF9 h]; decide
  refine ⟨?_, ?_⟩
  ·unfold splitD splitL
   rw [if_neg hp', if_neg h]
   split <;> rfl
  ·unfold splitB splitL
   rw [if_neg hp', if_neg h]
   by_cases h2 : l.head? = some 48
   ·rw [if_pos h2, if_pos (oT9 (h48.trans (dT9 h2)))]
   ·rw [if_neg h2, if_neg (oF9 (h48.trans (dF9 h2)))]
theorem numV_L (l : List UInt8) : numV (B l) = fitsL (numLx l) := by
 unfold numV numLx
 rw [leadN_B, B_extract, List.drop_zero, take_tw, (split_L _).1, (split_L _).2, compV_L]
 split <;> rfl
def escL (l : List UInt8) : Int × Int × Int := escV (B l)
def strL : Nat → List UInt8 → List Int → Nat → TokV × Nat × Int
 | 0, _, _, _ => ({}, 0, 21)
 | k + 1, l, out, n => match l with
  | [] => ({}, 0, 21)
  | a :: r => if a = 10 then ({}, 0, 21) else if a = 34 then ({ kind := 3, text := bytesOf out }, n + 1, 0)
   else if a = 92 then (if (escL l).2.2 = 0 then strL k (l.drop (escL l).2.1.toNat) (out ++ [(escL l).1]) (n + (escL l).2.1.toNat) else ({}, 0, (escL l).2.2))
   else strL k r (out ++ [((a.toNat : Nat) : Int)]) (n + 1)
theorem byte_dec (a : UInt8) (c : UInt8) : decide (((a.toNat : Nat) : Int) = ((c.toNat : Nat) : Int)) = decide (a = c) := by
 rw [decide_eq_decide, Int.ofNat_inj, UInt8.toNat_inj]
theorem byte_iff (a c : UInt8) : (((a.toNat : Nat) : Int) = ((c.toNat : Nat) : Int)) = (a = c) := by
 rw [Int.ofNat_inj, UInt8.toNat_inj]
theorem escV_size (s : ByteArray) (h : (escV s).2.2 = 0) : (escV s).2.1 ≤ s.size := by
 revert h
 have hend : ∀ {i : Int}, ¬ endB s i = true → i < s.size := fun {i} h => (end_lt (by simpa using h)).1
 unfold escV
 split
 ·intro h; simp at h
 rename_i h1
 have hl := hend h1
 split
 ·intro _; simp only; omega
 split
 ·intro _; simp only; omega
 split
 ·intro _; simp only; omega
 split
 ·intro _; simp only; omega
 split
 ·unfold escNum
  simp only [escGo]
  split
  ·intro h; simp at h
  split
  ·intro h; simp at h
  split
  ·intro h; simp at h
  rename_i h2
  have hl2 := hend h2
  split
  ·intro h; simp at h
  ·intro _; simp only; omega
 ·intro h; simp at h
theorem strGo_L : ∀ (k : Nat) (p l : List UInt8) (out : List Int), strGo (B (p ++ l)) k (p.length : Int) out = fitsL (strL k l out p.length)
 | 0, p, l, out => rfl
 | k + 1, p, l, out => by
  have hb : byteAt (B (p ++ l)) (p.length : Int) = (((l.getD 0 0).toNat : Nat) : Int) := by
   rw [byteAt_B, List.getD_eq_getElem?_getD, List.getD_eq_getElem?_getD, List.getElem?_append_right (nR9 _), Nat.sub_self]
  have hx : (B (p ++ l)).extract (p.length : Int).toNat (B (p ++ l)).size = B l := by
   rw [B_extract, B_size, List.take_of_length_le (nR9 _)]
   simp
  simp only [strGo, strL]
  rw [hx, hb]
  cases l with
  | nil =>
   have : endB (B (p ++ [])) (p.length : Int) = true := by
    unfold endB
    rw [B_size, List.append_nil, dT9 (Int.le_refl _), Bool.true_or]
   rw [if_pos this]
   rfl
  | cons a r =>
   have hend : endB (B (p ++ a :: r)) (p.length : Int) = decide (a = 10) := by
    unfold endB
    rw [hb, B_size, dF9 (by simp only [zP9, zC9]; omega), Bool.false_or]
    exact byte_dec a 10
   rw [hend]
   simp only [List.getD_cons_zero]
   have e34 : ((((a.toNat : Nat) : Int)) = 34) ↔ (a = 34) := iff_of_eq (byte_iff a 34)
   have e92 : ((((a.toNat : Nat) : Int)) = 92) ↔ (a = 92) := iff_of_eq (byte_iff a 92)
   by_cases h1 : a = 10
   ·rw [if_pos (dT9 h1), if_pos h1]; rfl
   rw [if_neg (by rw [dF9 h1]; decide), if_neg h1]
   by_cases h2 : a = 34
   ·rw [if_pos (e34.2 h2), if_pos h2]; rfl
   rw [if_neg (fun h => h2 (e34.1 h)), if_neg h2]
   by_cases h3 : a = 92
   ·rw [if_pos (e92.2 h3), if_pos h3]
    show (if (escL (a :: r)).2.2 = 0 then strGo _ k (_ + (escL (a :: r)).2.1) (out ++ [(escL (a :: r)).1]) else _) = _
    by_cases h4 : (escL (a :: r)).2.2 = 0
    ·rw [if_pos h4, if_pos h4]
     have hn' : (escL (a :: r)).2.1 = 2 ∨ (escL (a :: r)).2.1 = 4 := escV_n _ h4
     have hsz : (escL (a :: r)).2.1 ≤ (a :: r).length := escV_size _ h4
     have ih := strGo_L k (p ++ (a :: r).take (escL (a :: r)).2.1.toNat) ((a :: r).drop (escL (a :: r)).2.1.toNat) (out ++ [(escL (a :: r)).1])
     rw [List.append_assoc, List.take_append_drop] at ih
     have hl : (p ++ (a :: r).take (escL (a :: r)).2.1.toNat).length = p.length + (escL (a :: r)).2.1.toNat := by
      rw [zP9, List.length_take]; omega
     rw [hl] at ih
     rw [← ih]
     congr 1
     omega
    ·rw [if_neg h4, if_neg h4]; rfl
   rw [if_neg (fun h => h3 (e92.1 h)), if_neg h3]
   have ih := strGo_L k (p ++ [a]) r (out ++ [((a.toNat : Nat) : Int)])
   rw [List.append_assoc, zP9] at ih
   exact ih
end Go.Ab
