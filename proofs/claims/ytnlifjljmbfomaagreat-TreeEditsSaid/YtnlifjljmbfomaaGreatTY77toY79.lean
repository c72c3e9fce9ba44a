/- The reference of package tree: begin, Sorted. -/
import Derived.Test.YtnlifjljmbfomaaGreatTY73toY76
namespace Go.Ab
open Go.Proofs
set_option linter.unusedSectionVars false
set_option maxRecDepth 100000
variable [Base]
theorem rchk_frm {ns : List Nd} (h : rchk ns = 0) : FrmT ns := by
 unfold rchk at h
 by_cases h1 : limV ns = false; · rw [if_pos h1] at h; cases h
 rw [if_neg h1] at h
 by_cases h2 : frmV ns = false; · rw [if_pos h2] at h; cases h
 exact ⟨by simpa using h1, by simpa using h2⟩
def begV (a : List Nd × ByteArray) : Int × Int := if rchk a.1 = 0 then if 0 ≤ rfV a.1 a.2 then (rfV a.1 a.2, 0) else (0, 4) else (0, rchk a.1)
abbrev begR (x : Int × Int) : SV := .tup [.c (.int .i64 x.1), .c (.int .i64 x.2)]
def C11 : Table := ext C10 85 (saysG daTS eaTS fun a => (none, begR (begV a)))
theorem c11 : TS9 C11 := by
 refine extG c10 85 (fn := Tryz.f85) rfl rfl daTS eaTS _ (fun _ => nB9 rfl) [0, 1, 2, 4, 5, 6, 7, 11, 17] fun a _ => ?_
 obtain ⟨ns, s⟩ := a
 dsimp only
 unfold begV
 dsimp only
 repeat ((conv => whnf); refine ⟨by first | exact ⟨rfl, trivial⟩ | (unfold inI64; omega) | omega | exact ⟨by omega, by omega⟩ | exact rfl | decide +kernel, ?_⟩)
 conv => whnf
 refine cI9 ?_ ?_<;>intro h
 ·have h1 : ¬ rchk ns = 0 := by
   have h2 : (!decide (rchk ns = 0)) = true := h
   simpa using h2
  rw [if_neg h1]
  repeat ((conv => whnf); refine ⟨by first | (unfold inI64; omega) | omega | exact ⟨by omega, by omega⟩ | exact rfl | decide +kernel, ?_⟩)
  conv => whnf
  exact eR9
 have h1 : rchk ns = 0 := by
  have h2 : (!decide (rchk ns = 0)) = false := h
  simpa using h2
 rw [if_pos h1]
 have hf := rchk_frm h1
 repeat ((conv => whnf); refine ⟨by first | exact ⟨rfl, hf⟩ | (unfold inI64; omega) | omega | exact ⟨by omega, by omega⟩ | exact rfl | decide +kernel, ?_⟩)
 conv => whnf
 refine cI9 ?_ ?_<;>intro h3
 ·have h4 : 0 ≤ rfV ns s := oT9 h3
  rw [if_pos h4]
  repeat ((conv => whnf); refine ⟨by first | (unfold inI64; omega) | omega | exact ⟨by omega, by omega⟩ | exact rfl | decide +kernel, ?_⟩)
  conv => whnf
  exact eR9
 have h4 : ¬ 0 ≤ rfV ns s := oF9 h3
 rw [if_neg h4]
 repeat ((conv => whnf); refine ⟨by first | (unfold inI64; omega) | omega | exact ⟨by omega, by omega⟩ | exact rfl | decide +kernel, ?_⟩)
 conv => whnf
 exact eR9
def atGo : List Int → Nat → List Int → List Int
 | [], _, z => z
 | k :: r, i, z => atGo r (i + 1) (z.set k.toNat (i : Int))
def atW (ns : List Nd) : List Int := atGo (wk 120 ns 0) 0 (List.replicate ns.length 0)
def mvN (ns : List Nd) (k : Int) : Nd := if 0 < k then ((atW ns).getD (paI ns k.toNat).toNat 0, (ndAt ns k.toNat).2.1, (ndAt ns k.toNat).2.2) else ndAt ns k.toNat
def srtV (ns : List Nd) : List Nd := (wk 120 ns 0).map (mvN ns)
theorem atGo_length : ∀ (l : List Int) (i : Nat) (z : List Int), (atGo l i z).length = z.length := by
 intro l
 induction l with
 | nil => intro i z; rfl
 | cons k r ih =>
  intro i z
  unfold atGo
  rw [ih, List.length_set]
theorem atW_length (ns : List Nd) : (atW ns).length = ns.length := by
 unfold atW
 rw [atGo_length, List.length_replicate]
theorem wk_in {ns : List Nd} (hf : FrmT ns) {x : Int} (h : x ∈ wk 120 ns 0) : 0 ≤ x ∧ x < (ns.length : Nat) := by
 obtain ⟨j, _, h1, h2, _⟩ := wk_mem hf 120 0 hf.len.1 x h
 omega
def C12 : Table := ext C11 87 (saysG daT eaT fun ns => (some (FrmT ns), .a (.agg [.p (.l ndC (srtV ns))])))
theorem c12 : TS9 C12 := by
 refine extG c11 87 (fn := Tryz.f87) rfl rfl daT eaT _ (fun _ => nB9 rfl) [0, 1, 2, 3, 4, 5, 6, 7, 9, 10, 17, 18, 19, 20, 29, 30, 31, 32, 41] fun ns hok => ?_
 have hf : FrmT ns := hok
 have hlen := hf.len
 have hwl : (wk 120 ns 0).length ≤ ns.length := wk_length hf 120 (i := 0) hlen.1
 have hin := @wk_in _ ns hf
 dsimp only
 have hpre : eaTI (ns, 0) = eaTI (ns, 0) ∧ FrmT ns ∧ (0 : Int) ≤ 0 ∧ (0 : Int) < (ns.length : Nat) ∧ (ns.length : Int) - 0 ≤ ((120 : Nat) : Int) ∧ (wk 120 ns 0).length ≤ 1000000000 := ⟨rfl, hf, Int.le_refl _, by omega, by omega, by omega⟩
 have hmk : ((ns.length : Nat) : Int) = (ns.length : Nat) ∧ (0 : Int) < (ns.length : Nat) ∧ ((ns.length : Nat) : Int) ≤ 1000000 := by omega
 obtain ⟨W, hW⟩ : ∃ W, wk 120 ns 0 = W := ⟨_, rfl⟩
 repeat ((conv => whnf); refine ⟨by first | exact hpre | exact hmk | (unfold inI64; omega) | omega | exact ⟨by omega, by omega⟩ | exact rfl | decide +kernel, ?_⟩)
 conv => whnf
 rw [hW]
 rw [hW] at hwl
 have hin : ∀ x ∈ W, 0 ≤ x ∧ x < (ns.length : Nat) := fun x hx => wk_in hf (by rw [hW]; exact hx)
 have hsr : srtV ns = W.map (mvN ns) := by
  unfold srtV
  rw [hW]
 have hat : atW ns = atGo W 0 (List.replicate ns.length 0) := by
  unfold atW
  rw [hW]
 rw [hsr]
 obtain ⟨Z, hZ⟩ : ∃ Z, atW ns = Z := ⟨_, rfl⟩
 have hZl : Z.length = ns.length := by rw [← hZ]; exact atW_length ns
 rw [hZ] at hat
 refine lI9 (σ := Nat × List Int) (fun ⟨i, z⟩ => [(0, nX9), (1, XV.s (.a (.c (.ptr 0 0)))), (2, XV.s (.a (.c (.ptr 1 0)))), (3, XV.s (.a (.c (.p (.l (.int .i64) W))))), (4, XV.s (.a (.c (.sl 2 (.int .i64) 0 ns.length)))), (5, nX9), (6, nX9), (7, nX9), (9, nX9), (10, nX9), (17, XV.s (.a (.c (.p (.l (.int .i64) W))))), (18, XV.s (.int .i64 (W.length : Nat))), (19, XV.s (.int .i64 (i : Nat))), (20, nX9), (29, nX9), (30, nX9), (31, nX9), (32, nX9), (41, nX9)])
  (fun ⟨_, z⟩ => [.row [.p (.l ndC ns)], .row [.p (.v (.slice none 0 0))], .arr 3 (.int .i64) z 0]) (fun ⟨i, z⟩ => i ≤ W.length ∧ z.length = ns.length ∧ Z = atGo (W.drop i) i z) (fun ⟨i, _⟩ => W.length - i) (0, List.replicate ns.length 0) ?_ rfl ⟨nZ9 _, List.length_replicate .., hat⟩ ?_
 ·repeat first|exact lN9|refine lD9 ?_|refine lS9 ?_
 rintro ⟨i, z⟩ ⟨hi, hzl, hgo⟩
 repeat ((conv => whnf); refine ⟨by first | (unfold inI64; omega) | omega | exact ⟨by omega, by omega⟩ | exact rfl | decide +kernel, ?_⟩)
 conv => whnf
 refine cI9 ?_ ?_<;>intro h
 ·have hlt := lt_of_dec h
  have hb : 0 ≤ (i : Int) ∧ (i : Int) < (W.length : Nat) := by omega
  have he : W.getD i 0 = W[i] := by simp [hlt]
  have hwi := hin _ (List.getElem_mem hlt)
  have hob : 0 = 0 ∧ 0 ≤ W.getD i 0 ∧ W.getD i 0 < (z.length : Nat) := by
   rw [he]
   exact ⟨rfl, by omega, by omega⟩
  have hob2 : 0 = 0 ∧ 0 ≤ W.getD i 0 ∧ W.getD i 0 < (ns.length : Nat) := by
   rw [he]
   exact ⟨rfl, by omega, by omega⟩
  rw [List.drop_eq_getElem_cons hlt] at hgo
  have e : atGo (W[i] :: W.drop (i + 1)) i z = atGo (W.drop (i + 1)) (i + 1) (z.set (W[i]).toNat (i : Int)) := rfl
  rw [e, ← he] at hgo
  repeat ((conv => whnf); refine ⟨by first | exact hb | exact hob | exact hob2 | (unfold inI64; omega) | omega | exact ⟨by omega, by omega⟩ | exact rfl | decide +kernel, ?_⟩)
  conv => whnf
  refine kI9 (i + 1, z.set (W.getD i 0).toNat (i : Int)) [0, 1, 2] rfl id3 rfl ?_ ⟨hlt, by rw [List.length_set]; exact hzl, hgo⟩ (by show W.length - (i + 1) < W.length - i; omega)
  repeat first|exact kN9|refine kD9 ?_|refine kR9 rfl ?_
 obtain rfl : i = W.length := by have := ge_of_dec h; omega
 rw [List.drop_length] at hgo
 have hgo : Z = z := hgo
 subst hgo
 repeat ((conv => whnf); refine ⟨by first | (unfold inI64; omega) | omega | exact ⟨by omega, by omega⟩ | exact rfl | decide +kernel, ?_⟩)
 conv => whnf
 refine loop_weak (σ := Nat) (fun i => [(0, nX9), (1, XV.s (.a (.c (.ptr 0 0)))), (2, XV.s (.a (.c (.ptr 1 0)))), (3, nX9), (4, XV.s (.a (.c (.sl 2 (.int .i64) 0 ns.length)))), (5, nX9), (6, nX9), (7, XV.s (.a (.c (.ptr 3 0)))), (9, nX9), (10, nX9), (17, nX9), (18, nX9), (19, nX9), (20, nX9), (29, XV.s (.a (.c (.p (.l (.int .i64) W))))), (30, XV.s (.int .i64 (W.length : Nat))), (31, XV.s (.int .i64 (i : Nat))), (32, nX9), (41, nX9)])
  (fun i => [.row [.p (.l ndC ns)], .row [.p (.v (.slice none 0 0))], .arr 3 (.int .i64) Z 0, .row [.own 4 ndC ((W.take i).map (mvN ns))], tokN ((W.take i).map (mvN ns)).length]) (fun i => i ≤ W.length) (fun i => W.length - i) 0 ?_ (nZ9 _) fun i hi => ?_
 ·refine (Weak.cell 3 rfl 0 rfl ndT ndC).trans (Weak.le _ ?_)
  repeat first|exact lN9|refine lD9 ?_|refine lS9 ?_
 repeat ((conv => whnf); refine ⟨by first | (unfold inI64; omega) | omega | exact ⟨by omega, by omega⟩ | exact rfl | decide +kernel, ?_⟩)
 conv => whnf
 refine cI9 ?_ ?_<;>intro h2
 ·have hlt := lt_of_dec h2
  have hb : 0 ≤ (i : Int) ∧ (i : Int) < (W.length : Nat) := by omega
  have he : W.getD i 0 = W[i] := by simp [hlt]
  have hwi := hin _ (List.getElem_mem hlt)
  rw [← he] at hwi
  have hcap : ((W.take i).map (mvN ns)).length + 1 ≤ capBound := by
   rw [List.length_map, List.length_take]
   exact Nat.le_trans (m := 1000) (by omega) (by decide)
  have hnl : ((W.take i).map (mvN ns)).length + 1 = ((W.take (i + 1)).map (mvN ns)).length := by
   rw [List.length_map, List.length_map, List.length_take, List.length_take]
   omega
  have hnx : (W.take i).map (mvN ns) ++ [mvN ns (W.getD i 0)] = (W.take (i + 1)).map (mvN ns) := by
   rw [List.take_succ_eq_append_getElem hlt, List.map_append, he]
   rfl
  repeat ((conv => whnf); refine ⟨by first | exact hb | exact hwi | (unfold inI64; omega) | omega | exact ⟨by omega, by omega⟩ | exact rfl | decide +kernel, ?_⟩)
  conv => whnf
  have hids : ∀ k, k < 4 → [0, 1, 2, 3, 4][k]? = some k := fun k hk => id5 k (by omega)
  refine cI9 ?_ ?_<;>intro h5
  ·have hk0 : 0 < W.getD i 0 := oT9 h5
   have hp := hf.par (W.getD i 0).toNat (by omega) (by omega)
   have hob : 0 = 0 ∧ 0 ≤ paI ns (W.getD i 0).toNat ∧ paI ns (W.getD i 0).toNat < (Z.length : Nat) := ⟨rfl, by omega, by omega⟩
   have hob2 : 0 = 0 ∧ 0 ≤ paI ns (W.getD i 0).toNat ∧ paI ns (W.getD i 0).toNat < (ns.length : Nat) := ⟨rfl, by omega, by omega⟩
   have hm : mvN ns (W.getD i 0) = (Z.getD (paI ns (W.getD i 0).toNat).toNat 0, (ndAt ns (W.getD i 0).toNat).2.1, (ndAt ns (W.getD i 0).toNat).2.2) := by
    unfold mvN
    rw [if_pos hk0, hZ]
   rw [hm] at hnx
   repeat ((conv => whnf); refine ⟨by first | exact hob | exact hob2 | exact hcap | (unfold inI64; omega) | omega | exact ⟨by omega, by omega⟩ | exact rfl | decide +kernel, ?_⟩)
   conv => whnf
   refine kI9 (i + 1) [0, 1, 2, 3, 4] rfl hids ?_ ?_ hlt (by show W.length - (i + 1) < W.length - i; omega)
   ·show some [AO.row _, AO.row _, AO.arr _ (.int .i64) Z 0, AO.row [.own 4 ndC ((W.take i).map (mvN ns) ++ [(Z.getD (paI ns (W.getD i 0).toNat).toNat 0, (ndAt ns (W.getD i 0).toNat).2.1, (ndAt ns (W.getD i 0).toNat).2.2)])], tokN (((W.take i).map (mvN ns)).length + 1)] = _
    rw [hnx, hnl]
   ·repeat first|exact kN9|refine kD9 ?_|refine kR9 rfl ?_
  have hk0 : ¬ 0 < W.getD i 0 := oF9 h5
  have hm : mvN ns (W.getD i 0) = ((ndAt ns (W.getD i 0).toNat).1, (ndAt ns (W.getD i 0).toNat).2.1, (ndAt ns (W.getD i 0).toNat).2.2) := by
   unfold mvN
   rw [if_neg hk0]
  rw [hm] at hnx
  repeat ((conv => whnf); refine ⟨by first | exact hcap | (unfold inI64; omega) | omega | exact ⟨by omega, by omega⟩ | exact rfl | decide +kernel, ?_⟩)
  conv => whnf
  refine kI9 (i + 1) [0, 1, 2, 3, 4] rfl hids ?_ ?_ hlt (by show W.length - (i + 1) < W.length - i; omega)
  ·show some [AO.row _, AO.row _, AO.arr _ (.int .i64) Z 0, AO.row [.own 4 ndC ((W.take i).map (mvN ns) ++ [((ndAt ns (W.getD i 0).toNat).1, (ndAt ns (W.getD i 0).toNat).2.1, (ndAt ns (W.getD i 0).toNat).2.2)])], tokN (((W.take i).map (mvN ns)).length + 1)] = _
   rw [hnx, hnl]
  ·repeat first|exact kN9|refine kD9 ?_|refine kR9 rfl ?_
 obtain rfl : i = W.length := by have := ge_of_dec h2; omega
 repeat ((conv => whnf); refine ⟨by first | (unfold inI64; omega) | omega | exact ⟨by omega, by omega⟩ | exact rfl | decide +kernel, ?_⟩)
 conv => whnf
 rw [List.take_length]
 exact eR9
def anyGo (p : Nat → Bool) : Nat → Nat → Bool
 | 0, _ => false
 | m + 1, i => p i || anyGo p m (i + 1)
def rAddV (a : List Nd × ByteArray × ByteArray) : List Nd × Int :=
 if ¬ (begV (a.1, a.2.1)).2 = 0 then ([], (begV (a.1, a.2.1)).2)
 else if namB a.2.2 = false then ([], 1)
 else if anyGo (samB a.1 (begV (a.1, a.2.1)).1 a.2.2) a.1.length 0 = true then ([], 5)
 else if 8 ≤ dpV a.1 (begV (a.1, a.2.1)).1.toNat then ([], 2)
 else if 120 ≤ a.1.length then ([], 3)
 else (srtV (a.1 ++ [((begV (a.1, a.2.1)).1, a.2.2, [])]), 0)
theorem rf_lt (ns : List Nd) (s : ByteArray) (h0 : 0 < ns.length) : rfV ns s < (ns.length : Nat) := by
 unfold rfV
 split
 ·omega
 ·omega
theorem beg_ok {ns : List Nd} {p : ByteArray} (h : (begV (ns, p)).2 = 0) : FrmT ns ∧ 0 ≤ (begV (ns, p)).1 ∧ (begV (ns, p)).1 < (ns.length : Nat) := by
 unfold begV at *
 dsimp only at *
 split at h
 ·rename_i h1
  have hf := rchk_frm h1
  rw [if_pos h1]
  split at h
  ·rename_i h2
   rw [if_pos h2]
   exact ⟨hf, h2, rf_lt ns p hf.len.1⟩
  ·cases h
 ·rename_i h1
  exact absurd h h1
theorem frmGo_app : ∀ (l : List Nd) (i : Nat) (x : Nd), frmGo i (l ++ [x]) = (frmGo i l && ndFrm (i + l.length) x) := by
 intro l
 induction l with
 | nil =>
  intro i x
  show (ndFrm i x && true) = (true && ndFrm (i + 0) x)
  rw [Bool.and_true, Bool.true_and, Nat.add_zero]
 | cons n r ih =>
  intro i x
  show (ndFrm i n && frmGo (i + 1) (r ++ [x])) = ((ndFrm i n && frmGo (i + 1) r) && ndFrm (i + (r.length + 1)) x)
  rw [ih, Bool.and_assoc, show i + 1 + r.length = i + (r.length + 1) by omega]
theorem frm_app {ns : List Nd} {k : Int} {s : ByteArray} (hf : FrmT ns) (h0 : 0 ≤ k) (h1 : k < (ns.length : Nat)) (hs : namB s = true) (hl : ns.length < 120) : FrmT (ns ++ [(k, s, [])]) := by
 have hlim := hf.lim
 unfold limV at hlim
 simp only [Bool.and_eq_true, Bool.not_eq_true', decide_eq_false_iff_not, decide_eq_true_eq] at hlim
 constructor
 ·unfold limV
  rw [List.all_append, hlim.2, zP9, zC9, zN9, dF9 (by omega), dT9 (by omega)]
  rfl
 ·unfold frmV
  rw [frmGo_app, show frmGo 0 ns = true from hf.frm, Nat.zero_add]
  unfold ndFrm
  dsimp only
  rw [dF9 (show ¬ ((ns.length : Nat) : Int) = 0 by have := hf.len; omega), dF9 (show ¬ k < 0 by omega), dF9 (show ¬ ((ns.length : Nat) : Int) ≤ k by omega), hs]
  simp
def C13 : Table := ext C12 36 (saysG daTSS eaTSS fun a => (none, treR (rAddV a)))
theorem c13 : TS9 C13 := by
 refine extG c12 36 (fn := Tryz.f36) rfl rfl daTSS eaTSS _ (fun _ => nB9 rfl) [0, 1, 2, 3, 6, 7, 8, 9, 11, 12, 20, 25, 28, 29, 30, 31, 43, 49, 54] fun a _ => ?_
 obtain ⟨ns, p, s⟩ := a
 show runF _ _ _ [] [.agg [.p (.l ndC ns)], .c (.str p), .c (.str s)] [] fun r H => Ends r H (treR (rAddV (ns, p, s))) []
 repeat ((conv => whnf); refine ⟨by first | exact ⟨rfl, trivial⟩ | (unfold inI64; omega) | omega | exact ⟨by omega, by omega⟩ | exact rfl | decide +kernel, ?_⟩)
 conv => whnf
 refine cI9 ?_ ?_<;>intro h
 ·have h1 : ¬ (begV (ns, p)).2 = 0 := by
   have h2 : (!decide ((begV (ns, p)).2 = 0)) = true := h
   simpa using h2
  repeat ((conv => whnf); refine ⟨by first | (unfold inI64; omega) | omega | exact ⟨by omega, by omega⟩ | exact rfl | decide +kernel, ?_⟩)
  conv => whnf
  exact ends_nil (by unfold rAddV; rw [if_pos h1])
 have h1 : (begV (ns, p)).2 = 0 := by
  have h2 : (!decide ((begV (ns, p)).2 = 0)) = false := h
  simpa using h2
 have h1' : ¬ ¬ (begV (ns, p)).2 = 0 := fun h => h h1
 obtain ⟨hf, hk0, hk1⟩ := beg_ok h1
 have hlen := hf.len
 repeat ((conv => whnf); refine ⟨by first | (unfold inI64; omega) | omega | exact ⟨by omega, by omega⟩ | exact rfl | decide +kernel, ?_⟩)
 conv => whnf
 refine cI9 ?_ ?_<;>intro h2
 ·have h3 : namB s = false := not_b h2
  repeat ((conv => whnf); refine ⟨by first | (unfold inI64; omega) | omega | exact ⟨by omega, by omega⟩ | exact rfl | decide +kernel, ?_⟩)
  conv => whnf
  exact ends_nil (by unfold rAddV; rw [if_neg h1', if_pos h3])
 have h3 : namB s = true := not_f h2
 obtain ⟨k, hk⟩ : ∃ k, (begV (ns, p)).1 = k := ⟨_, rfl⟩
 rw [hk] at hk0 hk1
 repeat ((conv => whnf); refine ⟨by first | (unfold inI64; omega) | omega | exact ⟨by omega, by omega⟩ | exact rfl | decide +kernel, ?_⟩)
 conv => whnf
 rw [hk]
 obtain ⟨R, hR⟩ : ∃ R, rAddV (ns, p, s) = R := ⟨_, rfl⟩
 have hR2 : R = if anyGo (samB ns k s) ns.length 0 = true then ([], 5) else if 8 ≤ dpV ns k.toNat then ([], 2) else if 120 ≤ ns.length then ([], 3) else (srtV (ns ++ [(k, s, [])]), 0) := by
  rw [← hR]
  unfold rAddV
  rw [if_neg h1', if_neg (ne_f h3)]
  dsimp only
  rw [hk]
 rw [hR]
 refine lI9 (σ := Nat × Nat) (fun ⟨_, i⟩ => [(0, nX9), (1, nX9), (2, XV.s (.str s)), (3, XV.s (.a (.c (.ptr 0 0)))), (6, XV.s (.a (.c (.ptr 1 0)))), (7, nX9), (8, XV.s (.int .i64 k)), (9, nX9), (11, nX9), (12, nX9), (20, nX9), (25, nX9), (28, XV.s (.a (.c (.p (.l ndC ns))))), (29, XV.s (.int .i64 (ns.length : Nat))), (30, XV.s (.int .i64 (i : Nat))), (31, nX9), (43, nX9), (49, nX9), (54, nX9)])
  (fun _ => [.row [.p (.l ndC ns)], .row [.p (.v (.slice none 0 0))]]) (fun ⟨m, i⟩ => i + m = ns.length ∧ anyGo (samB ns k s) ns.length 0 = anyGo (samB ns k s) m i) (fun ⟨m, _⟩ => m) (ns.length, 0) ?_ rfl ⟨Nat.zero_add _, rfl⟩ ?_
 ·repeat first|exact lN9|refine lD9 ?_|refine lS9 ?_
 rintro ⟨m, i⟩ ⟨him, hgo⟩
 repeat ((conv => whnf); refine ⟨by first | (unfold inI64; omega) | omega | exact ⟨by omega, by omega⟩ | exact rfl | decide +kernel, ?_⟩)
 conv => whnf
 refine cI9 ?_ ?_<;>intro h4
 ·have hlt := lt_of_dec h4
  obtain ⟨m, rfl⟩ : ∃ q, m = q + 1 := ⟨m - 1, by omega⟩
  have hin : 0 ≤ (i : Int) ∧ (i : Int) < (ns.length : Nat) := by omega
  have e : anyGo (samB ns k s) (m + 1) i = (samB ns k s i || anyGo (samB ns k s) m (i + 1)) := rfl
  rw [e] at hgo
  repeat ((conv => whnf); refine ⟨by first | exact hin | (unfold inI64; omega) | omega | exact ⟨by omega, by omega⟩ | exact rfl | decide +kernel, ?_⟩)
  conv => whnf
  refine cI9 ?_ ?_<;>intro h5
  ·have h6 : samB ns k s i = true := h5
   rw [h6, Bool.true_or] at hgo
   rw [if_pos hgo] at hR2
   repeat ((conv => whnf); refine ⟨by first | (unfold inI64; omega) | omega | exact ⟨by omega, by omega⟩ | exact rfl | decide +kernel, ?_⟩)
   conv => whnf
   exact ends_nil hR2
  have h6 : samB ns k s i = false := h5
  rw [h6, Bool.false_or] at hgo
  repeat ((conv => whnf); refine ⟨by first | (unfold inI64; omega) | omega | exact ⟨by omega, by omega⟩ | exact rfl | decide +kernel, ?_⟩)
  conv => whnf
  refine kI9 (m, i + 1) [0, 1] rfl id2 rfl ?_ ⟨by omega, hgo⟩ (nS9 m)
  repeat first|exact kN9|refine kD9 ?_|refine kR9 rfl ?_
 have hge := ge_of_dec h4
 obtain rfl : m = 0 := by omega
 have hgo : anyGo (samB ns k s) ns.length 0 = false := hgo
 rw [if_neg (ne_t hgo)] at hR2
 have hpre : eaTI (ns, k) = eaTI (ns, k) ∧ ns.length ≤ 1000000000 ∧ ParOk ns ∧ 0 ≤ k ∧ k < (ns.length : Nat) := ⟨rfl, by omega, hf.par, hk0, hk1⟩
 repeat ((conv => whnf); refine ⟨by first | exact hpre | (unfold inI64; omega) | omega | exact ⟨by omega, by omega⟩ | exact rfl | decide +kernel, ?_⟩)
 conv => whnf
 refine cI9 ?_ ?_<;>intro h5
 ·have h6 : 8 ≤ dpV ns k.toNat := by
   have h7 : (8 : Int) ≤ (dpV ns k.toNat : Nat) := oT9 h5
   omega
  rw [if_pos h6] at hR2
  repeat ((conv => whnf); refine ⟨by first | (unfold inI64; omega) | omega | exact ⟨by omega, by omega⟩ | exact rfl | decide +kernel, ?_⟩)
  conv => whnf
  exact ends_nil hR2
 have h6 : ¬ 8 ≤ dpV ns k.toNat := by
  have h7 : ¬ (8 : Int) ≤ (dpV ns k.toNat : Nat) := oF9 h5
  omega
 rw [if_neg h6] at hR2
 repeat ((conv => whnf); refine ⟨by first | (unfold inI64; omega) | omega | exact ⟨by omega, by omega⟩ | exact rfl | decide +kernel, ?_⟩)
 conv => whnf
 refine cI9 ?_ ?_<;>intro h7
 ·have h8 : 120 ≤ ns.length := by
   have h9 : (120 : Int) ≤ (ns.length : Nat) := oT9 h7
   omega
  rw [if_pos h8] at hR2
  repeat ((conv => whnf); refine ⟨by first | (unfold inI64; omega) | omega | exact ⟨by omega, by omega⟩ | exact rfl | decide +kernel, ?_⟩)
  conv => whnf
  exact ends_nil hR2
 have h8 : ¬ 120 ≤ ns.length := by
  have h9 : ¬ (120 : Int) ≤ (ns.length : Nat) := oF9 h7
  omega
 rw [if_neg h8] at hR2
 have hln := lim_LenN hf.lim
 have hfa := frm_app hf hk0 hk1 h3 (by omega)
 have hcap : ns.length + 1 ≤ capBound := Nat.le_trans (m := 1000) (by omega) (by decide)
 repeat ((conv => whnf); refine ⟨by first | exact ⟨rfl, hln⟩ | exact hcap | exact ⟨rfl, hfa⟩ | (unfold inI64; omega) | omega | exact ⟨by omega, by omega⟩ | exact rfl | decide +kernel, ?_⟩)
 conv => whnf
 show Ends (treR (srtV (ns ++ [(k, s, [])]), 0)) [] (treR R) []
 rw [← hR2]
 exact eR9
def ltC (nm : ByteArray) : List Pt → Nat
 | [] => 0
 | q :: r => if bLt q.1 nm = true then ltC nm r + 1 else 0
def putV (a : List Pt × Pt) : List Pt :=
 a.1.take (ltC a.2.1 a.1) ++ a.2 :: (match a.1.drop (ltC a.2.1 a.1) with | [] => [] | q :: r => if q.1 = a.2.1 then r else q :: r)
theorem ltC_le (nm : ByteArray) : ∀ l, ltC nm l ≤ l.length := by
 intro l
 induction l with
 | nil => exact nR9 _
 | cons q r ih =>
  unfold ltC
  split
  ·simp only [zC9]; omega
  ·exact nZ9 _
def daPP : List AV → Option (List Pt × Pt)
 | [.c (.p (.l c0 ps)), .agg [.p (.v (.string n)), .p (.v (.string v))]] => match castD (e := ptC) (e' := c0) ps with | some ps => some (ps, n, v) | none => none
 | _ => none
def eaPP (a : List Pt × Pt) : List AV := [.c (.p (.l ptC a.1)), .agg [.str a.2.1, .str a.2.2]]
def C14 : Table := ext C13 90 (saysG daPP eaPP fun a => (some (a.1.length ≤ 1000000000), .a (.c (.p (.l ptC (putV a))))))
theorem c14 : TS9 C14 := by
 refine extG c13 90 (fn := Tryz.f90) rfl rfl daPP eaPP _ (fun _ => nB9 rfl) [0, 1, 3, 4, 5, 6, 7, 21, 40] fun a hok => ?_
 obtain ⟨ps, n, v⟩ := a
 have hl : ps.length ≤ 1000000000 := hok
 show runF _ _ _ [] [.c (.p (.l ptC ps)), .agg [.str n, .str v]] [] fun r H => Ends r H (.a (.c (.p (.l ptC (putV (ps, n, v)))))) []
 repeat ((conv => whnf); refine ⟨by first | (unfold inI64; omega) | omega | exact ⟨by omega, by omega⟩ | exact rfl | decide +kernel, ?_⟩)
 conv => whnf
 refine lI9 (σ := Nat) (fun i => [(0, XV.s (.a (.c (.p (.l ptC ps))))), (1, nX9), (3, XV.s (.a (.c (.ptr 0 0)))), (4, nX9), (5, XV.s (.int .i64 (i : Nat))), (6, nX9), (7, nX9), (21, nX9), (40, nX9)])
  (fun _ => [.row [.str n, .str v]]) (fun i => i ≤ ps.length ∧ ltC n ps = i + ltC n (ps.drop i)) (fun i => ps.length - i) 0 ?_ rfl ⟨nZ9 _, (Nat.zero_add _).symm⟩ fun i hI => ?_
 ·repeat first|exact lN9|refine lD9 ?_|refine lS9 ?_
 obtain ⟨hi, hpos⟩ := hI
 have g1 : lit true (decide ((i : Int) < (ps.length : Nat))) = true → 0 ≤ (i : Int) ∧ (i : Int) < (ps.length : Nat) := fun hg => by
  have hg2 : decide ((i : Int) < (ps.length : Nat)) = true := hg
  have hg3 : (i : Int) < (ps.length : Nat) := oT9 hg2
  omega
 repeat ((conv => whnf); refine ⟨by first | exact g1 | ((conv => whnf); exact ⟨⟨rfl, rfl, rfl⟩, trivial⟩) | exact Early.one (by decide +kernel) (by (conv => whnf); exact ⟨rfl, rfl, rfl⟩) trivial | (unfold inI64; omega) | omega | exact ⟨by omega, by omega⟩ | exact rfl | decide +kernel, ?_⟩)
 conv => whnf
 refine cI9 ?_ ?_<;>intro h5
 ·have h6 : (decide ((i : Int) < (ps.length : Nat)) && bLt (ps.getD i ptC.dflt).1 n) = true := h5
  obtain ⟨h7, h8⟩ := bA9.1 h6
  have hq2 : i < ps.length := lt_of_dec h7
  have he : ps.getD i ptC.dflt = ps[i] := by simp [hq2]
  rw [he] at h8
  have h9 : ltC n (ps.drop i) = ltC n (ps.drop (i + 1)) + 1 := by
   rw [List.drop_eq_getElem_cons hq2]
   show (if _ then _ else _) = _
   rw [if_pos h8]
  repeat ((conv => whnf); refine ⟨by first | (unfold inI64; omega) | omega | exact ⟨by omega, by omega⟩ | exact rfl | decide +kernel, ?_⟩)
  conv => whnf
  refine kI9 (i + 1) [0] rfl id0 rfl ?_ ⟨hq2, by rw [hpos, h9]; omega⟩ (by show ps.length - (i + 1) < ps.length - i; omega)
  repeat first|exact kN9|refine kD9 ?_|refine kR9 rfl ?_
 have h6 : (decide ((i : Int) < (ps.length : Nat)) && bLt (ps.getD i ptC.dflt).1 n) = false := h5
 have h9 : ltC n (ps.drop i) = 0 := by
  by_cases hq2 : i < ps.length
  ·have he : ps.getD i ptC.dflt = ps[i] := by simp [hq2]
   rw [he, dT9 (by omega), Bool.true_and] at h6
   rw [List.drop_eq_getElem_cons hq2]
   show (if _ then _ else _) = _
   rw [if_neg (by rw [h6]; exact Bool.false_ne_true)]
  ·rw [List.drop_of_length_le (by omega)]
   rfl
 rw [h9] at hpos
 have hpos : ltC n ps = i := hpos
 have c1 : (0 : Int) ≤ (i : Int) ∧ (i : Int) ≤ (ps.length : Nat) ∧ ((ps.length : Nat) : Int) ≤ (ps.length : Nat) := by omega
 have c2 : (0 : Int) ≤ 0 ∧ (0 : Int) ≤ (i : Int) ∧ (i : Int) ≤ (ps.length : Nat) := by omega
 have d1 : (((ps.length : Nat) : Int)).toNat = ps.length := rfl
 have d2 : ps.take (((ps.length : Nat) : Int)).toNat = ps := by rw [d1, List.take_length]
 have lt1 : (ps.take i).length ≤ 1000000000 := by rw [List.length_take]; omega
 have b1 : 0 + ((ps.take i).drop 0).length ≤ capBound := by
  rw [Nat.zero_add, List.drop_zero]
  exact Nat.le_trans lt1 (by decide)
 have b2 : (0 + ((ps.take i).drop 0).length) + 1 ≤ capBound := by
  rw [Nat.zero_add, List.drop_zero]
  exact Nat.le_trans (m := 1000000001) (by omega) (by decide)
 have b3 : ∀ j : Nat, (0 + ((ps.take i).drop 0).length) + 1 + ((ps.take (((ps.length : Nat) : Int)).toNat).drop j).length ≤ capBound := by
  intro j
  rw [Nat.zero_add, List.drop_zero, d2, List.length_drop]
  exact Nat.le_trans (m := 2000000001) (by omega) (by decide)
 have q1 : 0 + ((ps.take i).drop 0).length = (([] : List Pt) ++ (ps.take i).drop 0).length := by rw [List.nil_append, Nat.zero_add]
 have q2 : 0 + ((ps.take i).drop 0).length + 1 = ((([] : List Pt) ++ (ps.take i).drop 0) ++ [((n, v) : Pt)]).length := by
  rw [List.nil_append, Nat.zero_add, zP9]
  rfl
 repeat ((conv => whnf); refine ⟨by first | exact g1 | ((conv => whnf); exact ⟨⟨rfl, rfl, rfl⟩, trivial⟩) | exact Early.one (by decide +kernel) (by (conv => whnf); exact ⟨rfl, rfl, rfl⟩) trivial | exact c1 | (unfold inI64; omega) | omega | exact ⟨by omega, by omega⟩ | exact rfl | decide +kernel, ?_⟩)
 conv => whnf
 refine cI9 ?_ ?_<;>intro h7
 ·have h8 : (decide ((i : Int) < (ps.length : Nat)) && decide ((ps.getD i ptC.dflt).1 = n)) = true := h7
  obtain ⟨h10, h11⟩ := bA9.1 h8
  have hq2 : i < ps.length := lt_of_dec h10
  have he : ps.getD i ptC.dflt = ps[i] := by simp [hq2]
  have h12 : ps[i].1 = n := by rw [← he]; exact oT9 h11
  have c3 : (0 : Int) ≤ ((i : Int) + 1) ∧ ((i : Int) + 1) ≤ (ps.length : Nat) ∧ ((ps.length : Nat) : Int) ≤ (ps.length : Nat) := by omega
  repeat ((conv => whnf); refine ⟨by first | exact c3 | (unfold inI64; omega) | omega | exact ⟨by omega, by omega⟩ | exact rfl | decide +kernel, ?_⟩)
  conv => whnf
  refine Or.inl ?_
  repeat ((conv => whnf); refine ⟨by first | exact c3 | exact c2 | exact b1 | exact b2 | exact q1 | exact q2 | exact b3 (i + 1) | (unfold inI64; omega) | omega | exact ⟨by omega, by omega⟩ | exact rfl | decide +kernel, ?_⟩)
  conv => whnf
  have ep : putV (ps, n, v) = ([] ++ (ps.take i).drop 0 ++ [((n, v) : Pt)]) ++ (ps.take (((ps.length : Nat) : Int)).toNat).drop (i + 1) := by
   unfold putV
   dsimp only
   rw [hpos, List.drop_eq_getElem_cons hq2, d2, List.nil_append, List.drop_zero, List.append_assoc]
   dsimp only
   rw [if_pos h12]
   rfl
  rw [ep]
  exact eR9
 have h8 : (decide ((i : Int) < (ps.length : Nat)) && decide ((ps.getD i ptC.dflt).1 = n)) = false := h7
 repeat ((conv => whnf); refine ⟨by first | (unfold inI64; omega) | omega | exact ⟨by omega, by omega⟩ | exact rfl | decide +kernel, ?_⟩)
 conv => whnf
 refine Or.inl ?_
 repeat ((conv => whnf); refine ⟨by first | exact c2 | exact b1 | exact b2 | exact q1 | exact q2 | exact b3 i | (unfold inI64; omega) | omega | exact ⟨by omega, by omega⟩ | exact rfl | decide +kernel, ?_⟩)
 conv => whnf
 have ep : putV (ps, n, v) = ([] ++ (ps.take i).drop 0 ++ [((n, v) : Pt)]) ++ (ps.take (((ps.length : Nat) : Int)).toNat).drop i := by
  unfold putV
  dsimp only
  rw [hpos, d2, List.nil_append, List.drop_zero, List.append_assoc]
  by_cases hq2 : i < ps.length
  ·have he : ps.getD i ptC.dflt = ps[i] := by simp [hq2]
   rw [he, dT9 (by omega), Bool.true_and] at h8
   have h12 : ¬ ps[i].1 = n := oF9 h8
   rw [List.drop_eq_getElem_cons hq2]
   dsimp only
   rw [if_neg h12]
   rfl
  ·rw [List.drop_of_length_le (by omega)]
   rfl
 rw [ep]
 exact eR9
abbrev hpV (ns : List Nd) (v : Nat) : AO := .arr ndT ndC ns v
def saysRw : Says := fun args H => match H with
 | [] => match daT args with
  | some ns => some (some (args = eaT ns ∧ LenN ns ∧ 0 < ns.length), .a (.agg [.sl 0 ndC (ns.length - 1) ns.length]), [hpV ns (ns.length - 1)])
  | none => none
 | _ => none
def C15 : Table := ext C14 86 saysRw
theorem c15 : TS9 C15 := by
 refine ext_run c14 (f := 86) (fn := Tryz.f86) rfl rfl [0, 1, 2, 3, 5, 7, 8, 9, 10] fun args H p r' H' hs hp => ?_
 unfold saysRw at hs
 split at hs
 ·split at hs
  ·rename_i ns _
   cases hs
   obtain ⟨rfl, hl, hpos⟩ := hp
   have hlen := hl.len
   refine ⟨nB9 rfl, [3], rfl, nK9, ?_⟩
   repeat ((conv => whnf); refine ⟨by first | (unfold inI64; omega) | omega | exact ⟨by omega, by omega⟩ | exact rfl | decide +kernel, ?_⟩)
   conv => whnf
   refine lI9 (fun i : Nat => [(0, nX9), (1, XV.s (.a (.c (.ptr 0 0)))), (2, XV.s (.a (.c (.ptr 1 0)))), (3, XV.s (.a (.c (.ptr 2 0)))), (5, nX9), (7, XV.s (.a (.c (.p (.l ndC ns))))), (8, XV.s (.int .i64 (ns.length : Nat))), (9, XV.s (.int .i64 (i : Nat))), (10, nX9)])
    (fun i => match i with
     | 0 => [.row [.p (.l ndC ns)], .row [.p (.v (.slice none 0 0))], .row [.p (.v (.slice none 0 0))]]
     | i + 1 => [.row [.p (.l ndC ns)], .row [.p (.v (.slice none 0 0))], .row [.sl 3 ndC i (i + 1)], hpV (ns.take (i + 1)) i]) (fun i => i ≤ ns.length) (fun i => ns.length - i) 0 ?_ rfl (nZ9 _) fun i hi => ?_
   ·repeat first|exact lN9|refine lD9 ?_|refine lS9 ?_
   have hids : ∀ k, k < 3 → [0, 1, 2, 6][k]? = some k := fun k hk => by
    obtain rfl | rfl | rfl : k = 0 ∨ k = 1 ∨ k = 2 := by omega
    all_goals rfl
   have hcl : ∀ i, (hin : i < ns.length) → 0 + (ns.getD i ndC.dflt).2.2.length ≤ capBound := by
    intro i hin
    have he : ns.getD i ndC.dflt = ns[i] := by simp [hin]
    rw [he, Nat.zero_add]
    exact Nat.le_trans (hl.at hin) (by decide)
   cases i with
   | zero =>
    have hob : (0 : Int) ≤ 0 ∧ (0 : Int) < (ns.length : Nat) := by omega
    have hc0 := hcl 0 hpos
    repeat ((conv => whnf); refine ⟨by first | (unfold inI64; omega) | omega | exact ⟨by omega, by omega⟩ | exact rfl | decide +kernel, ?_⟩)
    conv => whnf
    refine cI9 ?_ ?_<;>intro h
    ·repeat ((conv => whnf); refine ⟨by first | exact hob | (unfold inI64; omega) | omega | exact ⟨by omega, by omega⟩ | exact rfl | decide +kernel, ?_⟩)
     conv => whnf
     refine Or.inl ?_
     repeat ((conv => whnf); refine ⟨by first | exact hc0 | (unfold inI64; omega) | omega | exact ⟨by omega, by omega⟩ | exact rfl | decide +kernel, ?_⟩)
     conv => whnf
     refine Or.inl ?_
     repeat ((conv => whnf); refine ⟨by first | (unfold inI64; omega) | omega | exact ⟨by omega, by omega⟩ | exact rfl | decide +kernel, ?_⟩)
     conv => whnf
     refine Or.inr ?_
     have hone : 1 ≤ capBound := by decide
     repeat ((conv => whnf); refine ⟨by first | exact hone | (unfold inI64; omega) | omega | exact ⟨by omega, by omega⟩ | exact rfl | decide +kernel, ?_⟩)
     conv => whnf
     have he : [((ns.getD 0 ndC.dflt).1, (ns.getD 0 ndC.dflt).2.1, ([] : List Pt) ++ (ns.getD 0 ndC.dflt).2.2)] = ns.take 1 := by
      rw [List.nil_append, List.take_succ_eq_append_getElem hpos]
      have he : ns.getD 0 ndC.dflt = ns[0] := by simp [hpos]
      rw [he]
      rfl
     refine kI9 1 [0, 1, 2, 6] rfl hids ?_ ?_ (by show 1 ≤ _; omega) (by show ns.length - 1 < ns.length - 0; omega)
     ·show some [AO.row _, AO.row _, AO.row [.sl 3 ndC 0 1], AO.arr ndT ndC [((ns.getD 0 ndC.dflt).1, (ns.getD 0 ndC.dflt).2.1, ([] : List Pt) ++ (ns.getD 0 ndC.dflt).2.2)] 0] = some [AO.row _, AO.row _, AO.row [.sl 3 ndC 0 1], AO.arr ndT ndC (ns.take 1) 0]
      rw [he]
     ·repeat first|exact kN9|refine kD9 ?_|refine kR9 rfl ?_
    ·exfalso
     have := ge_of_dec (i := 0) h
     omega
   | succ i =>
    repeat ((conv => whnf); refine ⟨by first | (unfold inI64; omega) | omega | exact ⟨by omega, by omega⟩ | exact rfl | decide +kernel, ?_⟩)
    conv => whnf
    refine cI9 ?_ ?_<;>intro h
    ·have hin : i + 1 < ns.length := by
      have h9 : ((i : Int) + 1) < (ns.length : Nat) := oT9 h
      omega
     have hob : (0 : Int) ≤ (i : Int) + 1 ∧ (i : Int) + 1 < (ns.length : Nat) := by omega
     have hc0 := hcl (i + 1) hin
     have h01 : 0 < 1 := Nat.zero_lt_one
     have hcap : i + 1 + 1 ≤ capBound := Nat.le_trans (m := 1000000001) (by omega) (by decide)
     repeat ((conv => whnf); refine ⟨by first | exact hob | (unfold inI64; omega) | omega | exact ⟨by omega, by omega⟩ | exact rfl | decide +kernel, ?_⟩)
     conv => whnf
     refine Or.inl ?_
     repeat ((conv => whnf); refine ⟨by first | exact hc0 | (unfold inI64; omega) | omega | exact ⟨by omega, by omega⟩ | exact rfl | decide +kernel, ?_⟩)
     conv => whnf
     refine Or.inl ?_
     repeat ((conv => whnf); refine ⟨by first | exact h01 | exact hcap | (unfold inI64; omega) | omega | exact ⟨by omega, by omega⟩ | exact rfl | decide +kernel, ?_⟩)
     conv => whnf
     have he : (ns.take (i + 1)).take (i + 1) ++ [((ns.getD (i + 1) ndC.dflt).1, (ns.getD (i + 1) ndC.dflt).2.1, ([] : List Pt) ++ (ns.getD (i + 1) ndC.dflt).2.2)] = ns.take (i + 1 + 1) := by
      rw [List.nil_append, List.take_succ_eq_append_getElem hin, List.take_take, Nat.min_self]
      have he : ns.getD (i + 1) ndC.dflt = ns[i + 1] := by simp [hin]
      rw [he]
     refine kI9 (i + 1 + 1) [0, 1, 2, 3] rfl id4' ?_ ?_ hin (by show ns.length - (i + 1 + 1) < ns.length - (i + 1); omega)
     ·show some [AO.row _, AO.row _, AO.row [.sl 3 ndC (i + 1) (i + 1 + 1)], AO.arr ndT ndC ((ns.take (i + 1)).take (i + 1) ++ [((ns.getD (i + 1) ndC.dflt).1, (ns.getD (i + 1) ndC.dflt).2.1, ([] : List Pt) ++ (ns.getD (i + 1) ndC.dflt).2.2)]) (i + 1)] = some [AO.row _, AO.row _, AO.row [.sl 3 ndC (i + 1) (i + 1 + 1)], AO.arr ndT ndC (ns.take (i + 1 + 1)) (i + 1)]
      rw [he]
     ·repeat first|exact kN9|refine kD9 ?_|refine kR9 rfl ?_
    ·have hie : i + 1 = ns.length := by
      have h9 : ¬ ((i : Int) + 1) < (ns.length : Nat) := oF9 h
      omega
     have hie2 : ns.length - 1 = i := by omega
     repeat ((conv => whnf); refine ⟨by first | (unfold inI64; omega) | omega | exact ⟨by omega, by omega⟩ | exact rfl | decide +kernel, ?_⟩)
     conv => whnf
     rw [hie2, ← hie, List.take_of_length_le (by omega)]
     exact eR9
  ·cases hs
 ·cases hs
end Go.Ab
