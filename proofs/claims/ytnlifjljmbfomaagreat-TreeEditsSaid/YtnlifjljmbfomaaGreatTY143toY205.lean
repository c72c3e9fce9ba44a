/- A walk that comes to the nodes in their order: each follows the one before. -/
import Derived.Test.YtnlifjljmbfomaaGreatTY204toY142
namespace Go.Ab
open Go.Proofs
set_option linter.unusedSectionVars false
set_option maxRecDepth 100000
variable [Base]
def NxE (ns : List Nd) (a b : Nat) : Prop := paN ns b = a ∨ ∃ t, 0 < upN ns t a ∧ paN ns (upN ns t a) = paN ns b ∧ bLe (ndAt ns (upN ns t a)).2.1 (ndAt ns b).2.1 = true
def ChE (ns : List Nd) : List Int → Prop
 | [] => True
 | [_] => True
 | a :: b :: r => NxE ns a.toNat b.toNat ∧ ChE ns (b :: r)
theorem che_app {ns : List Nd} : ∀ (l m : List Int), ChE ns l → ChE ns m → (∀ a b, a ∈ l → m.head? = some b → NxE ns a.toNat b.toNat) → ChE ns (l ++ m) := by
 intro l
 induction l with
 | nil => intro m _ h _; exact h
 | cons a l ih =>
  intro m hl hm hx
  cases l with
  | nil =>
   cases m with
   | nil => trivial
   | cons b m => exact ⟨hx a b (List.mem_cons_self ..) rfl, hm⟩
  | cons c l => exact ⟨hl.1, ih m hl.2 hm fun x b h1 h2 => hx x b (List.mem_cons_of_mem _ h1) h2⟩
theorem che_at {ns : List Nd} : ∀ (l : List Int), ChE ns l → ∀ i (h : i + 1 < l.length), NxE ns (l[i]'(by omega)).toNat (l[i + 1]).toNat := by
 intro l
 induction l with
 | nil => intro _ i h; cases h
 | cons a l ih =>
  intro hc i h
  cases l with
  | nil => simp at h
  | cons b l =>
   cases i with
   | zero => exact hc.1
   | succ i => exact ih hc.2 i (by simpa using h)
theorem wk_che {ns : List Nd} (hf : FrmT ns) : ∀ k (i : Nat), i < ns.length → ns.length - i ≤ k → ChE ns (wk k ns (i : Int)) := by
 intro k
 induction k with
 | zero => intro i hi hk; omega
 | succ k ih =>
  intro i hi hk
  have hch : ∀ c ∈ chS ns (i : Int), ∃ j : Nat, c = (j : Int) ∧ 0 < j ∧ j < ns.length ∧ paN ns j = i := by
   intro c hc
   obtain ⟨j, e1, e2, e3, e4⟩ := chS_mem hc
   have h5 := (par_lt hf.par e2 e3).2
   rw [e4] at h5
   exact ⟨j, e1, e2, e3, by omega⟩
  have main : ∀ cs : List Int, (∀ c ∈ cs, ∃ j : Nat, c = (j : Int) ∧ 0 < j ∧ j < ns.length ∧ paN ns j = i) → cs.Pairwise (fun a b => bLe (nmI ns a) (nmI ns b) = true) → ChE ns (cs.flatMap fun c => wk k ns c) ∧ ∀ b, (cs.flatMap fun c => wk k ns c).head? = some b → b ∈ cs := by
   intro cs
   induction cs with
   | nil => intro _ _; exact ⟨trivial, fun b hb => by cases hb⟩
   | cons c cs ihc =>
    intro hc hs
    obtain ⟨h1, h2⟩ := List.pairwise_cons.1 hs
    obtain ⟨h3, h4⟩ := ihc (fun x hx => hc x (List.mem_cons_of_mem _ hx)) h2
    obtain ⟨j, rfl, j1, j2, j3⟩ := hc c (List.mem_cons_self ..)
    have hji := (par_lt hf.par j1 j2).1
    obtain ⟨k, rfl⟩ : ∃ q, k = q + 1 := ⟨k - 1, by omega⟩
    rw [List.flatMap_cons]
    refine ⟨che_app _ _ (ih j j2 (by omega)) h3 fun a b ha hb => ?_, fun b hb => ?_⟩
    ·obtain ⟨x, t, rfl, x1, x2⟩ := wk_mem hf (k + 1) j j2 a ha
     have hbm := h4 b hb
     obtain ⟨y, rfl, y1, y2, y3⟩ := hc b (List.mem_cons_of_mem _ hbm)
     refine .inr ⟨t, ?_, ?_, ?_⟩
     ·show 0 < upN ns t x
      omega
     ·show paN ns (upN ns t x) = paN ns y
      rw [x2, j3, y3]
     ·show bLe (ndAt ns (upN ns t x)).2.1 (ndAt ns y).2.1 = true
      rw [x2]
      exact h1 _ hbm
    ·have e : (wk (k + 1) ns (j : Int) ++ cs.flatMap fun c => wk (k + 1) ns c).head? = some (j : Int) := rfl
     rw [e] at hb
     cases hb
     exact List.mem_cons_self ..
  obtain ⟨h1, h2⟩ := main _ hch (chS_srt ns (i : Int))
  show ChE ns ([(i : Int)] ++ (chS ns (i : Int)).flatMap fun c => wk k ns c)
  refine che_app _ _ trivial h1 fun a b ha hb => ?_
  obtain rfl : a = (i : Int) := by simpa using ha
  obtain ⟨j, rfl, j1, j2, j3⟩ := hch b (h2 b hb)
  exact .inl j3
theorem idOk_at : ∀ (l : List Int) (k : Nat), idOk k l = true → ∀ i (h : i < l.length), l[i] = ((k + i : Nat) : Int) := by
 intro l
 induction l with
 | nil => intro k _ i h; cases h
 | cons a l ih =>
  intro k hk i h
  obtain ⟨h1, h2⟩ := bA9.1 (show (decide ((k : Int) = a) && idOk (k + 1) l) = true from hk)
  have h1 : (k : Int) = a := oT9 h1
  cases i with
  | zero => exact h1.symm
  | succ i =>
   have := ih (k + 1) h2 i (by simpa using h)
   rw [List.getElem_cons_succ, this]
   omega
theorem id_nx {ns : List Nd} (hf : FrmT ns) (h : idOk 0 (wkT ns) = true) {i : Nat} (hi : i + 1 < ns.length) : NxE ns i (i + 1) := by
 have h1 := idOk_at _ _ h
 obtain ⟨q, hq, he⟩ := List.getElem_of_mem (wkT_all hf hi)
 have h2 := h1 q hq
 have hqi : q = i + 1 := by omega
 subst hqi
 have h3 := che_at _ (wk_che hf 120 0 hf.len.1 (by have := hf.len; omega)) i hq
 have e1 := h1 i (by omega)
 have e2 := h1 (i + 1) hq
 have h3 : NxE ns ((wkT ns)[i]'(by omega)).toNat ((wkT ns)[i + 1]).toNat := h3
 rw [e1, e2, Int.toNat_natCast, Int.toNat_natCast, Nat.zero_add, Nat.zero_add] at h3
 exact h3
theorem nx_flw {ns : List Nd} (hf : FrmT ns) {i : Nat} (hi : i + 1 < ns.length) (h : NxE ns i (i + 1)) : flwV ns (i + 1) = true := by
 have hpe := (par_lt hf.par (Nat.succ_pos i) hi).2
 unfold flwV
 rcases h with h5 | ⟨t, t1, t2, t3⟩
 ·have h6 : (ndAt ns (i + 1)).1 = ((i + 1 : Nat) : Int) - 1 := hpe.symm.trans (by rw [h5]; exact (by omega : ((i : Nat) : Int) = ((i + 1 : Nat) : Int) - 1))
  rw [if_pos h6]
 ·split
  ·rfl
  ·obtain ⟨c, hc⟩ : ∃ c, upN ns t i = c := ⟨_, rfl⟩
   have hci : c ≤ i := by rw [← hc]; exact up_le hf t i
   rw [hc] at t1 t2 t3
   have hce := (par_lt hf.par t1 (by omega)).2
   refine flw_up hf _ t (i + 1) i (by omega) (by omega) (by rw [hc]; exact t1) (by rw [hc, ← hce, ← hpe, t2]) fun s s1 s2 s3 => ?_
   have hsl : upN ns s i < ns.length := by
    have := up_le hf s i
    omega
   have hse := (par_lt hf.par s2 hsl).2
   have es : upN ns s i = c := up_same hf (i := paN ns c) s2 hsl t1 (by omega) (by
    rw [s3, ← hpe, t2.symm] at hse
    omega) rfl rfl hc
   rw [es]
   exact t3
theorem id_flw {ns : List Nd} (hf : FrmT ns) (h : idOk 0 (wkT ns) = true) {i : Nat} (h0 : 0 < i) (hi : i < ns.length) : flwV ns i = true := by
 obtain ⟨i, rfl⟩ : ∃ q, i = q + 1 := ⟨i - 1, by omega⟩
 exact nx_flw hf hi (id_nx hf h hi)
structure Fl (ns : List Nd) : Prop where
 f : FrmT ns
 flw : ∀ i, 0 < i → i < ns.length → flwV ns i = true
theorem fl_flw {ns : List Nd} (hv : Fl ns) {m : Nat} (hm : m + 1 < ns.length) : paN ns (m + 1) = m ∨ ∃ t, 0 < upN ns t m ∧ paN ns (upN ns t m) = paN ns (m + 1) ∧ bLe (ndAt ns (upN ns t m)).2.1 (ndAt ns (m + 1)).2.1 = true := by
 have h := hv.flw (m + 1) (by omega) hm
 unfold flwV at h
 split at h
 ·rename_i h1
  left
  unfold paN paI
  rw [h1]
  omega
 ·obtain ⟨t, h1, h2, h3⟩ := flwGo_ex _ _ h
  refine .inr ⟨t, h1, ?_, h3⟩
  have h2' : (ndAt ns (upN ns t m)).1 = (ndAt ns (m + 1)).1 := h2
  unfold paN paI
  rw [h2']
theorem fl_below {ns : List Nd} (hv : Fl ns) {a : Nat} : ∀ m, m < ns.length → (∃ t, upN ns t m = a) → ∀ j, a ≤ j → j ≤ m → ∃ t, upN ns t j = a := by
 intro m
 induction m with
 | zero =>
  intro _ h j _ h2
  obtain rfl : j = 0 := by omega
  exact h
 | succ m ih =>
  intro hm h j h1 h2
  by_cases hj : j = m + 1
  ·rw [hj]; exact h
  ·obtain ⟨t, ht⟩ := h
   cases t with
   | zero =>
    have : m + 1 = a := ht
    omega
   | succ t =>
    have ht : upN ns t (paN ns (m + 1)) = a := ht
    refine ih (by omega) ?_ j h1 (by omega)
    rcases fl_flw hv hm with h3 | ⟨u, h3, h4, _⟩
    ·rw [h3] at ht
     exact ⟨t, ht⟩
    ·rw [← h4, ← up_succ, ← upN_add] at ht
     exact ⟨_, ht⟩
theorem fl_next {ns : List Nd} (hv : Fl ns) {i c d : Nat} (hd : d < ns.length) (c0 : 0 < c) (hcd : c < d) (hpc : paN ns c = i) (hpd : paN ns d = i) (hno : ∀ e, c < e → e < d → ¬ paN ns e = i) : bLe (ndAt ns c).2.1 (ndAt ns d).2.1 = true := by
 obtain ⟨d, rfl⟩ : ∃ q, d = q + 1 := ⟨d - 1, by omega⟩
 have hci := (par_lt hv.f.par c0 (by omega)).1
 rcases fl_flw hv hd with h | ⟨t, h1, h2, h3⟩
 ·omega
 ·have hle := up_le hv.f t d
  obtain ⟨e, he⟩ : ∃ e, upN ns t d = e := ⟨_, rfl⟩
  rw [he] at h1 h2 h3 hle
  have hec : e ≤ c := by
   rcases Nat.lt_or_ge c e with h | h
   ·exact absurd (by omega) (hno e h (by omega))
   ·exact h
  obtain ⟨u, hu⟩ := fl_below hv d (by omega) ⟨t, he⟩ c hec (by omega)
  have hec2 : c = e := up_same hv.f (i := i) (j := c) (t := 0) (u := u) c0 (by omega) h1 (by omega) hpc (by omega) rfl hu
  subst hec2
  exact h3
theorem sib_le {ns : List Nd} (hv : Fl ns) {i : Nat} : ∀ n c d, d - c ≤ n → 0 < c → c < d → d < ns.length → paN ns c = i → paN ns d = i → bLe (ndAt ns c).2.1 (ndAt ns d).2.1 = true := by
 intro n
 induction n with
 | zero => intro c d h1 h2 h3; omega
 | succ n ih =>
  intro c d h1 c0 h3 hd hc hp
  by_cases hno : ∀ e, c < e → e < d → ¬ paN ns e = i
  ·exact fl_next hv hd c0 h3 hc hp hno
  ·have hno : ∃ e, c < e ∧ e < d ∧ paN ns e = i := by
    refine Classical.byContradiction fun h => hno fun e a b k => h ⟨e, a, b, k⟩
   obtain ⟨e, e1, e2, e3⟩ := hno
   exact bLe_trans (ih c e (by omega) c0 e1 (by omega) hc e3) (ih e d (by omega) (by omega) e2 hd e3 hp)
def LtR (ns : List Nd) (a b : Nat) : Prop := bLt (ndAt ns a).2.1 (ndAt ns b).2.1 = true ∨ ((ndAt ns a).2.1 = (ndAt ns b).2.1 ∧ a < b)
def NxT (ns : List Nd) (a b : Nat) : Prop := paN ns b = a ∨ ∃ t, 0 < upN ns t a ∧ paN ns (upN ns t a) = paN ns b ∧ LtR ns (upN ns t a) b
theorem nxt_lt {ns : List Nd} (hv : Fl ns) {a b : Nat} (ha : a < ns.length) (hb0 : 0 < b) (hb : b < ns.length) (h : NxT ns a b) : a < b := by
 rcases h with h | ⟨t, h1, h2, h3⟩
 ·have := (par_lt hv.f.par hb0 hb).1
  omega
 ·obtain ⟨c, hc⟩ : ∃ c, upN ns t a = c := ⟨_, rfl⟩
  rw [hc] at h1 h2 h3
  have hca : c ≤ a := by rw [← hc]; exact up_le hv.f t a
  have hcb : c < b := by
   rcases h3 with h3 | h3
   ·rcases Nat.lt_trichotomy c b with h | h | h
    ·exact h
    ·subst h
     rw [bLt_irrefl] at h3
     cases h3
    ·have h4 := sib_le hv (c - b) b c (nR9 _) hb0 h (by omega) h2.symm rfl
     rcases bLe_iff.1 h4 with h5 | h5
     ·have h6 := bLt_trans h3 h5
      rw [bLt_irrefl] at h6
      cases h6
     ·rw [h5, bLt_irrefl] at h3
      cases h3
   ·exact h3.2
  rcases Nat.lt_or_ge a b with h | h
  ·exact h
  ·exfalso
   obtain ⟨u, hu⟩ := fl_below hv a ha ⟨t, hc⟩ b (by omega) h
   cases u with
   | zero =>
    have : b = c := hu
    omega
   | succ u =>
    have hu : upN ns u (paN ns b) = c := hu
    have h4 := up_le hv.f u (paN ns b)
    have h5 := (par_lt hv.f.par h1 (by omega)).1
    omega
def SrtR (ns : List Nd) (cs : List Int) : Prop := cs.Pairwise fun a b => bLt (nmI ns a) (nmI ns b) = true ∨ (nmI ns a = nmI ns b ∧ a < b)
theorem srtR_C {ns : List Nd} {cs : List Int} (h : SrtR ns cs) : SrtC ns cs := List.Pairwise.imp (fun h => bLe_iff.2 (h.imp id fun k => k.1)) h
theorem pos_drop_lt {ns : List Nd} {nm : ByteArray} : ∀ (cs : List Int), SrtC ns cs → ∀ c ∈ cs.drop (posC ns nm cs), bLt nm (nmI ns c) = true := by
 intro cs
 induction cs with
 | nil => intro _ c hc; cases hc
 | cons a r ih =>
  intro hs c hc
  obtain ⟨h1, h2⟩ := List.pairwise_cons.1 hs
  unfold posC at hc
  split at hc
  ·exact ih h2 c (by simpa using hc)
  ·rename_i h
   have ha : bLt nm (nmI ns a) = true := bLe_total (Bool.eq_false_iff.2 h)
   rcases List.mem_cons.1 hc with rfl | hc
   ·exact ha
   ·rcases bLe_iff.1 (h1 c hc) with h3 | h3
    ·exact bLt_trans ha h3
    ·rw [← h3]; exact ha
theorem insC_srtR {ns : List Nd} {i : Nat} {cs : List Int} (h : SrtR ns cs) (hi : ∀ c ∈ cs, c < (i : Int)) : SrtR ns (insC ns i cs) := by
 unfold insC SrtR
 have hn : nmI ns (i : Int) = (ndAt ns i).2.1 := rfl
 have h0 : (cs.take (posC ns (ndAt ns i).2.1 cs) ++ cs.drop (posC ns (ndAt ns i).2.1 cs)).Pairwise fun a b => bLt (nmI ns a) (nmI ns b) = true ∨ (nmI ns a = nmI ns b ∧ a < b) := by rw [List.take_append_drop]; exact h
 rw [List.pairwise_append] at h0 ⊢
 refine ⟨h0.1, List.pairwise_cons.2 ⟨fun c hc => ?_, h0.2.1⟩, fun a ha b hb => ?_⟩
 ·rw [hn]
  exact .inl (pos_drop_lt cs (srtR_C h) c hc)
 ·rcases List.mem_cons.1 hb with rfl | hb
  ·rw [hn]
   rcases bLe_iff.1 (pos_take cs a ha) with h1 | h1
   ·exact .inl h1
   ·exact .inr ⟨h1, hi a (List.mem_of_mem_take ha)⟩
  ·exact h0.2.2 a ha b hb
theorem insC_in9 {ns : List Nd} {i : Nat} {cs : List Int} {c : Int} (h : c ∈ insC ns i cs) : c = (i : Int) ∨ c ∈ cs := by
 unfold insC at h
 rcases List.mem_append.1 h with h | h
 ·exact .inr (List.mem_of_mem_take h)
 ·rcases List.mem_cons.1 h with h | h
  ·exact .inl h
  ·exact .inr (List.mem_of_mem_drop h)
theorem chGo_srtR (ns : List Nd) (node : Int) : ∀ (m i : Nat) (cs : List Int), SrtR ns cs → (∀ c ∈ cs, c < (i : Int)) → SrtR ns (chGo ns node m i cs) := by
 intro m
 induction m with
 | zero => intro i cs h _; exact h
 | succ m ih =>
  intro i cs h hi
  unfold chGo
  refine ih _ _ ?_ ?_
  ·split
   ·exact insC_srtR h hi
   ·exact h
  ·intro c hc
   split at hc
   ·rcases insC_in9 hc with h1 | h1
    ·omega
    ·have := hi c h1
     omega
   ·have := hi c hc
    omega
theorem chS_srtR (ns : List Nd) (node : Int) : SrtR ns (chS ns node) := chGo_srtR ns node _ _ _ List.Pairwise.nil fun c hc => by cases hc
def ChT (ns : List Nd) : List Int → Prop
 | [] => True
 | [_] => True
 | a :: b :: r => NxT ns a.toNat b.toNat ∧ ChT ns (b :: r)
theorem cht_app {ns : List Nd} : ∀ (l m : List Int), ChT ns l → ChT ns m → (∀ a b, a ∈ l → m.head? = some b → NxT ns a.toNat b.toNat) → ChT ns (l ++ m) := by
 intro l
 induction l with
 | nil => intro m _ h _; exact h
 | cons a l ih =>
  intro m hl hm hx
  cases l with
  | nil =>
   cases m with
   | nil => trivial
   | cons b m => exact ⟨hx a b (List.mem_cons_self ..) rfl, hm⟩
  | cons c l => exact ⟨hl.1, ih m hl.2 hm fun x b h1 h2 => hx x b (List.mem_cons_of_mem _ h1) h2⟩
theorem wk_cht {ns : List Nd} (hf : FrmT ns) : ∀ k (i : Nat), i < ns.length → ns.length - i ≤ k → ChT ns (wk k ns (i : Int)) := by
 intro k
 induction k with
 | zero => intro i hi hk; omega
 | succ k ih =>
  intro i hi hk
  have hch : ∀ c ∈ chS ns (i : Int), ∃ j : Nat, c = (j : Int) ∧ 0 < j ∧ j < ns.length ∧ paN ns j = i := by
   intro c hc
   obtain ⟨j, e1, e2, e3, e4⟩ := chS_mem hc
   have h5 := (par_lt hf.par e2 e3).2
   rw [e4] at h5
   exact ⟨j, e1, e2, e3, by omega⟩
  have main : ∀ cs : List Int, (∀ c ∈ cs, ∃ j : Nat, c = (j : Int) ∧ 0 < j ∧ j < ns.length ∧ paN ns j = i) → SrtR ns cs → ChT ns (cs.flatMap fun c => wk k ns c) ∧ ∀ b, (cs.flatMap fun c => wk k ns c).head? = some b → b ∈ cs := by
   intro cs
   induction cs with
   | nil => intro _ _; exact ⟨trivial, fun b hb => by cases hb⟩
   | cons c cs ihc =>
    intro hc hs
    obtain ⟨h1, h2⟩ := List.pairwise_cons.1 hs
    obtain ⟨h3, h4⟩ := ihc (fun x hx => hc x (List.mem_cons_of_mem _ hx)) h2
    obtain ⟨j, rfl, j1, j2, j3⟩ := hc c (List.mem_cons_self ..)
    have hji := (par_lt hf.par j1 j2).1
    obtain ⟨k, rfl⟩ : ∃ q, k = q + 1 := ⟨k - 1, by omega⟩
    rw [List.flatMap_cons]
    refine ⟨cht_app _ _ (ih j j2 (by omega)) h3 fun a b ha hb => ?_, fun b hb => ?_⟩
    ·obtain ⟨x, t, rfl, x1, x2⟩ := wk_mem hf (k + 1) j j2 a ha
     have hbm := h4 b hb
     obtain ⟨y, rfl, y1, y2, y3⟩ := hc b (List.mem_cons_of_mem _ hbm)
     refine .inr ⟨t, ?_, ?_, ?_⟩
     ·show 0 < upN ns t x
      omega
     ·show paN ns (upN ns t x) = paN ns y
      rw [x2, j3, y3]
     ·show LtR ns (upN ns t x) y
      rw [x2]
      rcases h1 _ hbm with h5 | h5
      ·exact .inl h5
      ·exact .inr ⟨h5.1, by omega⟩
    ·have e : (wk (k + 1) ns (j : Int) ++ cs.flatMap fun c => wk (k + 1) ns c).head? = some (j : Int) := rfl
     rw [e] at hb
     cases hb
     exact List.mem_cons_self ..
  obtain ⟨h1, h2⟩ := main _ hch (chS_srtR ns (i : Int))
  show ChT ns ([(i : Int)] ++ (chS ns (i : Int)).flatMap fun c => wk k ns c)
  refine cht_app _ _ trivial h1 fun a b ha hb => ?_
  obtain rfl : a = (i : Int) := by simpa using ha
  obtain ⟨j, rfl, j1, j2, j3⟩ := hch b (h2 b hb)
  exact .inl j3
theorem cht_asc {ns : List Nd} (hv : Fl ns) : ∀ (l : List Int), ChT ns l → (∀ c ∈ l, 0 ≤ c ∧ c < (ns.length : Nat)) → (∀ c ∈ l.drop 1, 0 < c) → l.Pairwise fun a b => a < b := by
 intro l
 induction l with
 | nil => intro _ _ _; exact List.Pairwise.nil
 | cons a l ih =>
  intro h1 h2 h3
  cases l with
  | nil => exact List.Pairwise.cons (fun b hb => by cases hb) List.Pairwise.nil
  | cons b l =>
   obtain ⟨h4, h5⟩ := h1
   have h3 : ∀ c ∈ b :: l, 0 < c := h3
   have ih := ih h5 (fun c hc => h2 c (List.mem_cons_of_mem _ hc)) fun c hc => h3 c (List.mem_cons_of_mem _ hc)
   have ha := h2 a (List.mem_cons_self ..)
   have hb := h2 b (List.mem_cons_of_mem _ (List.mem_cons_self ..))
   have hb0 := h3 b (List.mem_cons_self ..)
   have hab : a < b := by
    have := nxt_lt hv (a := a.toNat) (b := b.toNat) (by omega) (by omega) (by omega) h4
    omega
   refine List.pairwise_cons.2 ⟨fun c hc => ?_, ih⟩
   rcases List.mem_cons.1 hc with rfl | hc
   ·exact hab
   ·have := (List.pairwise_cons.1 ih).1 c hc
    omega
theorem fl_ord {ns : List Nd} (hv : Fl ns) : idOk 0 (wk 120 ns 0) = true := by
 have hin : ∀ c ∈ wkT ns, 0 ≤ c ∧ c < (ns.length : Nat) := fun c hc => by
  obtain ⟨i, hi, rfl⟩ := List.getElem_of_mem hc
  exact wkT_in hv.f hi
 have hch : ChT ns (wkT ns) := wk_cht hv.f 120 0 hv.f.len.1 (by have := hv.f.len; omega)
 refine asc_id _ 0 ns.length (cht_asc hv _ hch hin fun c hc => ?_) (fun c hc => by have := hin c hc; omega) fun j _ hj => wkT_all hv.f hj
 obtain ⟨i, hi, rfl⟩ := List.getElem_of_mem hc
 rw [List.getElem_drop]
 rw [List.length_drop] at hi
 have hi : i < (wkT ns).length - 1 := hi
 exact wkT_gt hv.f (by omega) (by omega)
theorem ord_same {ns : List Nd} (hf : FrmT ns) : ordV ns = rOrd ns := by
 cases h : ordV ns with
 | true =>
  symm
  have h1 := fl_ord ⟨hf, fun i h0 hi => ord_flw h h0 hi⟩
  unfold rOrd
  rw [h1, Bool.true_and, List.all_eq_true]
  intro n hn
  obtain ⟨i, hi, rfl⟩ := List.getElem_of_mem hn
  rw [← nd_at' hi]
  exact ord_asc h hi
 | false =>
  symm
  cases h2 : rOrd ns with
  | false => rfl
  | true =>
   exfalso
   unfold rOrd at h2
   obtain ⟨h3, h4⟩ := bA9.1 h2
   have h5 : ordV ns = true := by
    unfold ordV
    refine ordGo_all _ _ fun j _ hj => ?_
    have hj : j < ns.length := by omega
    unfold ordAt
    have h6 : ascV (ndAt ns j).2.2 = true := by rw [nd_at' hj]; exact List.all_eq_true.1 h4 _ (List.getElem_mem hj)
    rw [h6]
    rcases Nat.eq_zero_or_pos j with h0 | h0
    ·subst h0
     rfl
    ·rw [id_flw hf h3 h0 hj]
     simp
   rw [h5] at h
   cases h
theorem chk_same (ns : List Nd) : chkP ns = rchk ns := by
 unfold chkP rchk
 by_cases h1 : limV ns = false
 ·rw [if_pos h1, if_pos h1]
 ·rw [if_neg h1, if_neg h1]
  by_cases h2 : frmV ns = false
  ·rw [if_pos h2, if_pos h2]
  ·rw [if_neg h2, if_neg h2]
   have hf : FrmT ns := ⟨by simpa using h1, by simpa using h2⟩
   rw [ord_same hf, tw_rt hf, deep_rl]
def rvC (a : List Nd × Int × ByteArray) : Bool := (!decide (rchk a.1 = 0) || decide (a.2.1 < 0)) || decide (((a.1.length : Nat) : Int) ≤ a.2.1)
def rValV (a : List Nd × Int × ByteArray) : ByteArray × Bool := if rvC a = true then (⟨#[]⟩, false) else ofV (ndAt a.1 a.2.1.toNat).2.2 a.2.2
def BT4 : Table := ext BT3 25 (saysG daTIS eaTIS fun a => (none, valR (rValV a)))
theorem bT4 : TS9 BT4 := by
 refine extG bT3 25 (fn := Tryz.f25) rfl rfl daTIS eaTIS _ (fun _ => nB9 rfl) [0, 1, 2, 3, 6, 7, 21] fun a _ => ?_
 obtain ⟨ns, k, s⟩ := a
 show runF _ _ _ [] [.agg [.p (.l ndC ns)], .c (.int .i64 k), .c (.str s)] [] fun r H => Ends r H (valR (rValV (ns, k, s))) []
 unfold rValV
 obtain ⟨C, hC⟩ : ∃ C, rvC (ns, k, s) = C := ⟨_, rfl⟩
 rw [hC]
 unfold rvC at hC
 repeat ((conv => whnf); refine ⟨by first | exact ⟨rfl, trivial⟩ | (unfold inI64; omega) | omega | exact ⟨by omega, by omega⟩ | exact rfl | decide +kernel, ?_⟩)
 conv => whnf
 refine cI9 ?_ ?_<;>intro h
 ·have h1 : C = true := hC.symm.trans h
  rw [if_pos h1]
  repeat ((conv => whnf); refine ⟨by first | (unfold inI64; omega) | omega | exact ⟨by omega, by omega⟩ | exact rfl | decide +kernel, ?_⟩)
  conv => whnf
  exact eR9
 have h1 : C = false := hC.symm.trans h
 rw [if_neg (by rw [h1]; decide)]
 rw [h1] at hC
 dsimp only at hC
 simp only [Bool.or_eq_false_iff, decide_eq_false_iff_not] at hC
 have hb : 0 ≤ k ∧ k < (ns.length : Nat) := by omega
 have hc : rchk ns = 0 := by
  have := hC.1.1
  simpa using this
 have hlen := (lim_len (chk_vld.1 ((chk_same ns).trans hc)).lim).1
 have hps : (ndAt ns k.toNat).2.2.length ≤ 1000000000 := by rw [nd_at' (by omega)]; exact hlen.at (by omega)
 repeat ((conv => whnf); refine ⟨by first | exact hb | exact ⟨rfl, hps⟩ | (unfold inI64; omega) | omega | exact ⟨by omega, by omega⟩ | exact rfl | decide +kernel, ?_⟩)
 conv => whnf
 exact eR9
def rchlV (a : List Nd × Int) : List Int := if (decide (rchk a.1 = 0) && decide (0 ≤ a.2)) = true then chlGo a.1 a.2 a.1.length 0 [] else []
def BT5 : Table := ext BT4 22 (saysG daTI eaTI fun a => (none, .list (.int .i64) (rchlV a)))
theorem bT5 : TS9 BT5 := by
 refine extG bT4 22 (fn := Tryz.f22) rfl rfl daTI eaTI _ (fun _ => nB9 rfl) [0, 1, 2, 4, 5, 6, 7, 14, 16, 17, 18, 19, 26] fun a _ => ?_
 obtain ⟨ns, i⟩ := a
 dsimp only
 unfold rchlV
 obtain ⟨C, hC⟩ : ∃ C, (decide (rchk ns = 0) && decide (0 ≤ i)) = C := ⟨_, rfl⟩
 dsimp only
 rw [hC]
 repeat ((conv => whnf); refine ⟨by first | exact ⟨rfl, trivial⟩ | (unfold inI64; omega) | omega | exact ⟨by omega, by omega⟩ | exact rfl | decide +kernel, ?_⟩)
 conv => whnf
 refine cI9 ?_ ?_<;>intro h
 ·have h1 : C = true := hC.symm.trans h
  rw [if_pos h1]
  rw [h1] at hC
  have hc : rchk ns = 0 := oT9 (bA9.1 hC).1
  have hlen : ns.length ≤ 1000000000 := (lim_len (chk_vld.1 ((chk_same ns).trans hc)).lim).1.len
  repeat ((conv => whnf); refine ⟨by first | (unfold inI64; omega) | omega | exact ⟨by omega, by omega⟩ | exact rfl | decide +kernel, ?_⟩)
  conv => whnf
  refine loop_weak (σ := Nat × Nat × List Int) (fun ⟨_, j, out⟩ => [(0, nX9), (1, XV.s (.int .i64 i)), (2, nX9), (4, nX9), (5, XV.s (.a (.c (.own 1 (.int .i64) out)))), (6, nX9), (7, nX9), (14, nX9), (16, XV.s (.a (.c (.p (.l ndC ns))))), (17, XV.s (.int .i64 (ns.length : Nat))), (18, XV.s (.int .i64 (j : Nat))), (19, nX9), (26, nX9)])
   (fun ⟨_, _, out⟩ => [.row [.p (.l ndC ns)], .tok 3 (.int .i64) out.length true]) (fun ⟨m, j, out⟩ => j + m = ns.length ∧ out.length ≤ j ∧ chlGo ns i ns.length 0 [] = chlGo ns i m j out) (fun ⟨m, _, _⟩ => m) (ns.length, 0, []) ?_ ⟨Nat.zero_add _, nZ9 _, rfl⟩ ?_
  ·refine Weak.own 3 ?_
   repeat first|exact wN9|refine wD9 ?_|refine wS9 ?_|refine wO9 ?_
  rintro ⟨m, j, out⟩ ⟨hjm, hol, hgo⟩
  repeat ((conv => whnf); refine ⟨by first | (unfold inI64; omega) | omega | exact ⟨by omega, by omega⟩ | exact rfl | decide +kernel, ?_⟩)
  conv => whnf
  refine cI9 ?_ ?_<;>intro h2
  ·have hlt := lt_of_dec h2
   obtain ⟨m, rfl⟩ : ∃ q, m = q + 1 := ⟨m - 1, by omega⟩
   have hin : 0 ≤ (j : Int) ∧ (j : Int) < (ns.length : Nat) := by omega
   have e : chlGo ns i (m + 1) j out = chlGo ns i m (j + 1) (if (ndAt ns j).1 = i then out ++ [(j : Int)] else out) := rfl
   rw [e] at hgo
   repeat ((conv => whnf); refine ⟨by first | exact hin | (unfold inI64; omega) | omega | exact ⟨by omega, by omega⟩ | exact rfl | decide +kernel, ?_⟩)
   conv => whnf
   rw [nd_at]
   refine cI9 ?_ ?_<;>intro h3
   ·have h4 : (ndAt ns j).1 = i := oT9 h3
    rw [if_pos h4] at hgo
    have c1 : out.length + 1 ≤ 1000000000000 := by omega
    repeat ((conv => whnf); refine ⟨by first | (unfold inI64; omega) | omega | exact ⟨by omega, by omega⟩ | exact rfl | decide +kernel, ?_⟩)
    conv => whnf
    refine ⟨c1, ?_⟩
    repeat ((conv => whnf); refine ⟨by first | (unfold inI64; omega) | omega | exact ⟨by omega, by omega⟩ | exact rfl | decide +kernel, ?_⟩)
    conv => whnf
    refine kI9 (m, j + 1, out ++ [(j : Int)]) [0, 1] rfl id2c ?_ ?_ ⟨by omega, ?_, hgo⟩ (nS9 m)
    ·show _ = some [AO.row _, AO.tok _ _ (out ++ [(j : Int)]).length true]
     rw [zP9]
     rfl
    ·repeat first|exact kN9|refine kD9 ?_|refine kR9 rfl ?_
    ·rw [zP9]; simp only [zC9, zN9]; omega
   have h4 : ¬ (ndAt ns j).1 = i := oF9 h3
   rw [if_neg h4] at hgo
   repeat ((conv => whnf); refine ⟨by first | (unfold inI64; omega) | omega | exact ⟨by omega, by omega⟩ | exact rfl | decide +kernel, ?_⟩)
   conv => whnf
   refine kI9 (m, j + 1, out) [0, 1] rfl id2c rfl ?_ ⟨by omega, by omega, hgo⟩ (nS9 m)
   repeat first|exact kN9|refine kD9 ?_|refine kR9 rfl ?_
  ·have hge := ge_of_dec h2
   obtain rfl : m = 0 := by omega
   repeat ((conv => whnf); refine ⟨by first | (unfold inI64; omega) | omega | exact ⟨by omega, by omega⟩ | exact rfl | decide +kernel, ?_⟩)
   conv => whnf
   rw [hgo]
   exact eR9
 have h1 : C = false := hC.symm.trans h
 rw [if_neg (by rw [h1]; decide)]
 repeat ((conv => whnf); refine ⟨by first | (unfold inI64; omega) | omega | exact ⟨by omega, by omega⟩ | exact rfl | decide +kernel, ?_⟩)
 conv => whnf
 refine eO9 (fun G v hv => ?_) rfl
 obtain ⟨_, rfl⟩ := hv
 exact .inl ⟨rfl, rfl⟩
theorem pa_0 {ns : List Nd} (hf : FrmT ns) : (ndAt ns 0).1 = -1 := by
 have h4 := frm_nd hf.frm (i := 0) (by have := hf.len; omega)
 unfold ndFrm at h4
 obtain ⟨h5, _⟩ := bA9.1 h4
 obtain ⟨h6, _⟩ := bA9.1 h5
 simp at h6
 exact h6.1
def saysBn (q : List Int → Int → List Nd → Prop) : Says := fun args H => match args, H with
 | [.c (.ptr 0 0), .agg [.p (.l (.pair (.int .i64) (.pair .str (.list (.pair .str .str)))) ns)]], [.row [.p (.l (.int .i64) zs), .p (.v (.int .i64 n))]] =>
  some (some ((tapeOk zs n ∧ LenN ns ∧ ns.length ≤ 1000) ∧ q zs n ns), .a (.agg [.p (.l ndC (bnV zs n ns).1)]), [tapeO zs (bnV zs n ns).2])
 | _, _ => none
theorem tp_pure (zs : List Int) (n : Int) : ∀ y ∈ [AC.p (.l (.int .i64) zs), AC.p (.v (.int .i64 n))], ∃ z, y = .p z := fun y hy => by
 simp only [List.mem_cons, List.not_mem_nil, or_false] at hy
 rcases hy with rfl | rfl <;> exact ⟨_, rfl⟩
def saysBn0 : Says := fun args H => match args, H with
 | [.c (.ptr 0 0), .agg [.p (.l (.pair (.int .i64) (.pair .str (.list (.pair .str .str)))) ns)]], [.row [.p (.l (.int .i64) zs), .p (.v (.int .i64 n))]] =>
  some (some (ns = []), .a (.agg [.p (.v (.slice none 0 0))]), [tapeO zs n])
 | _, _ => none
theorem bn_0 : TS9 (ext N6 12 saysBn0) := by
 refine ext_run n6 (f := 12) (fn := Tryz.f12) rfl rfl [0, 1, 3, 4, 5, 7, 8, 9, 10, 12, 13, 14, 15, 33, 45, 51, 62, 72, 86, 103, 115, 124, 142, 149] fun args H p r' H' hs hp => ?_
 unfold saysBn0 at hs
 split at hs
 ·rename_i ns zs n
  cases hs
  have hn : ns = [] := hp
  subst hn
  refine ⟨nB9 rfl, [0], rfl, id0, ?_⟩
  repeat ((conv => whnf); refine ⟨by first | (unfold inI64; omega) | omega | exact ⟨by omega, by omega⟩ | exact rfl | decide +kernel, ?_⟩)
  conv => whnf
  refine lI9 (fun i : Nat => [(0, XV.s (.a (.c (.ptr 0 0)))), (1, nX9), (3, XV.s (.a (.c (.ptr 1 0)))), (4, XV.s (.a (.c (.ptr 2 0)))), (5, XV.s (.a (.c (.ptr 3 0)))), (7, nX9), (8, nX9), (9, nX9), (10, nX9), (12, XV.s (.a (.c (.p (.l ndC []))))), (13, XV.s (.int .i64 0)), (14, XV.s (.int .i64 0)), (15, nX9), (33, nX9), (45, nX9), (51, nX9), (62, nX9), (72, nX9), (86, nX9), (103, nX9), (115, nX9), (124, nX9), (142, nX9), (149, nX9)])
   (fun _ => [tapeO zs n, .row [.p (.l ndC [])], .row [.p (.v (.slice none 0 0))], .row [.p (.v (.slice none 0 0))]]) (fun _ => True) (fun i => i) 0 ?_ rfl trivial fun i _ => ?_
  ·repeat first|exact lN9|refine lD9 ?_|refine lS9 ?_
  repeat ((conv => whnf); refine ⟨by first | (unfold inI64; omega) | omega | exact ⟨by omega, by omega⟩ | exact rfl | decide +kernel, ?_⟩)
  conv => whnf
  exact eR9
 ·cases hs
theorem bn_0c : TS9 (ext N6 12 (saysBn fun _ _ ns => ns = [])) := by
 refine ext_rowT bn_0 n6 fun args H p r H' hs hp => ?_
 unfold saysBn at hs
 split at hs
 ·rename_i ns zs n
  cases hs
  obtain ⟨_, hn⟩ := hp
  have hn : ns = [] := hn
  subst hn
  have hb : bnV zs n [] = ([], n) := by unfold bnV; exact if_pos rfl
  rw [hb]
  exact ⟨some (([] : List Nd) = []), _, [.p (.l (.int .i64) zs), .p (.v (.int .i64 n))], [], .p (.v (.slice none 0 0)), ndC, [], rfl, rfl, rfl, tp_pure zs n, .inr (.inr (.inl ⟨rfl, rfl⟩)), rfl, rfl⟩
 ·cases hs
theorem bn_pc : TS9 (ext N6 12 (saysBn fun zs n ns => 0 < ns.length ∧ bnPl zs n ns)) := by
 refine ext_rowT bn_p n6 fun args H p r H' hs hp => ?_
 unfold saysBn at hs
 split at hs
 ·rename_i ns zs n
  cases hs
  obtain ⟨⟨h1, h2, h3⟩, h4, h5⟩ := hp
  have hm0 := mN9 (rawV zs n) ns.length
  have hm1 := modV_lt (rawV zs n) ns.length (by omega)
  have hk : bnK zs n ns < ns.length := by unfold bnK; omega
  have hc0 : 0 ≤ bnC zs n := mN9 _ 9
  have hc1 : bnC zs n < 9 := modV_lt _ 9 (by decide)
  refine ⟨some (tapeOk zs n ∧ LenN ns ∧ 0 < ns.length ∧ ns.length ≤ 1000 ∧ bnPl zs n ns), _, [.p (.l (.int .i64) zs), .p (.v (.int .i64 (bnV zs n ns).2))], _, _, ndC, _, ⟨h1, h2, h4, h3, h5⟩, rfl, rfl, tp_pure zs _, .inr (.inl ⟨1, _, _, _, _, rfl, rfl, ?_, ?_, ?_⟩), rfl, rfl⟩
  ·split
   ·exact h4
   ·rename_i h8
    unfold bnV
    rw [if_neg (by omega)]
    split
    ·rw [List.length_set]; exact h4
    split
    ·rw [List.length_set]; exact h4
    split
    ·show 0 < (List.set _ _ _).length; rw [List.length_set]; exact h4
    split
    ·show 0 < (List.set _ _ _).length; rw [List.length_set]; exact h4
    split
    ·rw [zP9]; omega
    split
    ·rw [zP9]; omega
    split
    ·show 0 < (List.set _ _ _).length; rw [List.length_set]; exact h4
    split
    ·show 0 < (List.set _ _ _).length; rw [List.length_set]; exact h4
    ·omega
  ·split
   ·rename_i h8
    have : (bnV zs n ns).1 = ns.take (bnK zs n ns) := by
     unfold bnV
     rw [if_neg (by omega), if_neg (by omega), if_neg (by omega), if_neg (by omega), if_neg (by omega), if_neg (by omega), if_neg (by omega), if_neg (by omega), if_neg (by omega)]
    rw [this, List.length_take]
    omega
   ·exact nR9 _
  ·split
   ·rename_i h8
    have : (bnV zs n ns).1 = ns.take (bnK zs n ns) := by
     unfold bnV
     rw [if_neg (by omega), if_neg (by omega), if_neg (by omega), if_neg (by omega), if_neg (by omega), if_neg (by omega), if_neg (by omega), if_neg (by omega), if_neg (by omega)]
    rw [this, List.length_take, Nat.min_eq_left (by omega)]
   ·rw [List.take_length]
 ·cases hs
theorem bn_hc : TS9 (ext N6 12 (saysBn fun zs n ns => 0 < ns.length ∧ (bnC zs n = 2 ∨ bnC zs n = 3 ∨ bnC zs n = 6))) := by
 refine ext_rowT bn_h n6 fun args H p r H' hs hp => ?_
 unfold saysBn at hs
 split at hs
 ·rename_i ns zs n
  cases hs
  obtain ⟨⟨h1, h2, h3⟩, h4, h5⟩ := hp
  have hm0 := mN9 (rawV zs n) ns.length
  have hm1 := modV_lt (rawV zs n) ns.length (by omega)
  have hk : bnK zs n ns < ns.length := by unfold bnK; omega
  have hV : bnV zs n ns = (bnP ns (bnK zs n ns) ((ndAt ns (bnK zs n ns)).2.2 ++ [bnNw zs n]), rawN zs (bnN zs n)) := by
   unfold bnV bnNw
   rw [if_neg (by omega)]
   rcases h5 with h5 | h5 | h5
   ·rw [if_neg (by omega), if_neg (by omega), if_pos h5, if_pos h5]
   ·rw [if_neg (by omega), if_neg (by omega), if_neg (by omega), if_pos h5, if_neg (by omega), if_pos h5]
   ·rw [if_neg (by omega), if_neg (by omega), if_neg (by omega), if_neg (by omega), if_neg (by omega), if_neg (by omega), if_pos h5, if_neg (by omega), if_neg (by omega)]
  rw [hV]
  refine ⟨some (tapeOk zs n ∧ LenN ns ∧ 0 < ns.length ∧ ns.length ≤ 1000 ∧ (bnC zs n = 2 ∨ bnC zs n = 3 ∨ bnC zs n = 6)), _, [.p (.l (.int .i64) zs), .p (.v (.int .i64 (rawN zs (bnN zs n))))], _, _, ndC, _, ⟨h1, h2, h4, h3, h5⟩, rfl, rfl, tp_pure zs _, .inl ⟨1, _, bnP ns (bnK zs n ns) [], bnK zs n ns, 2, _, ns.length - 1, ?_, rfl, ?_⟩, rfl, rfl⟩
  ·rw [bnP_len]
  ·show some (bnP (bnP ns (bnK zs n ns) []) (bnK zs n ns) ((ndAt ns (bnK zs n ns)).2.2 ++ [bnNw zs n])) = _
   rw [bnP_again _ _ hk]
 ·cases hs
theorem prSw_len (l : List Pt) : (prSw l).length = l.length := by
 cases l with
 | nil => rfl
 | cons a r => cases r <;> rfl
theorem bn_sc : TS9 (ext N6 12 (saysBn fun zs n ns => 0 < ns.length ∧ bnC zs n = 7 ∧ 1 < (ndAt ns (bnK zs n ns)).2.2.length)) := by
 refine ext_rowT bn_s n6 fun args H p r H' hs hp => ?_
 unfold saysBn at hs
 split at hs
 ·rename_i ns zs n
  cases hs
  obtain ⟨⟨h1, h2, h3⟩, h4, h5, h6⟩ := hp
  have hm0 := mN9 (rawV zs n) ns.length
  have hm1 := modV_lt (rawV zs n) ns.length (by omega)
  have hk : bnK zs n ns < ns.length := by unfold bnK; omega
  have hV : bnV zs n ns = (bnP ns (bnK zs n ns) (prSw (ndAt ns (bnK zs n ns)).2.2), bnN zs n) := by
   unfold bnV
   rw [if_neg (by omega), if_neg (by omega), if_neg (by omega), if_neg (by omega), if_neg (by omega), if_neg (by omega), if_neg (by omega), if_neg (by omega), if_pos h5]
  rw [hV]
  refine ⟨some (tapeOk zs n ∧ LenN ns ∧ 0 < ns.length ∧ ns.length ≤ 1000 ∧ (bnC zs n = 7 ∧ 1 < (ndAt ns (bnK zs n ns)).2.2.length)), _, [.p (.l (.int .i64) zs), .p (.v (.int .i64 (bnN zs n)))], _, _, ndC, _, ⟨h1, h2, h4, h3, h5, h6⟩, rfl, rfl, tp_pure zs _, .inr (.inr (.inr ⟨1, ndT, bnP ns (bnK zs n ns) [], bnK zs n ns, 2, ns.length - 1, 2, ptT, ptC, prSw (ndAt ns (bnK zs n ns)).2.2, 0, ?_, ?_, rfl, ?_, ?_⟩)), rfl, rfl⟩
  ·rw [bnP_len]
  ·rw [prSw_len]; rfl
  ·rw [prSw_len]; omega
  ·show some (bnP (bnP ns (bnK zs n ns) []) (bnK zs n ns) (prSw (ndAt ns (bnK zs n ns)).2.2)) = _
   rw [bnP_again _ _ hk]
 ·cases hs
def BT6 : Table := ext BT5 12 (saysBn fun _ _ _ => True)
theorem bT6 : TS9 BT6 := by
 refine ext_case (ext_case (ext_only (U := N6) bn_0c bT5) (ext_only (U := N6) bn_pc bT5) bT5 (s' := saysBn fun zs n ns => ns = [] ∨ (0 < ns.length ∧ bnPl zs n ns)) fun args H p r H' hs hp => ?_) (ext_case (ext_only (U := N6) bn_hc bT5) (ext_only (U := N6) bn_sc bT5) bT5 (s' := saysBn fun zs n ns => (0 < ns.length ∧ (bnC zs n = 2 ∨ bnC zs n = 3 ∨ bnC zs n = 6)) ∨ (0 < ns.length ∧ bnC zs n = 7 ∧ 1 < (ndAt ns (bnK zs n ns)).2.2.length)) fun args H p r H' hs hp => ?_) bT5 fun args H p r H' hs hp => ?_
 all_goals
  unfold saysBn at hs
  split at hs
  ·rename_i ns zs n
   cases hs
   obtain ⟨h1, h2⟩ := hp
   first
    | (rcases h2 with h2 | h2
       ·exact .inl ⟨some (_ ∧ _), ⟨h1, h2⟩, rfl⟩
       ·exact .inr ⟨some (_ ∧ _), ⟨h1, h2⟩, rfl⟩)
    | (have hc0 : 0 ≤ bnC zs n := mN9 _ 9
       have hc1 : bnC zs n < 9 := modV_lt _ 9 (by decide)
       rcases Nat.eq_zero_or_pos ns.length with h3 | h3
       ·exact .inl ⟨some (_ ∧ _), ⟨h1, .inl (List.eq_nil_of_length_eq_zero h3)⟩, rfl⟩
       ·by_cases h4 : bnC zs n = 2 ∨ bnC zs n = 3 ∨ bnC zs n = 6
        ·exact .inr ⟨some (_ ∧ _), ⟨h1, .inl ⟨h3, h4⟩⟩, rfl⟩
        ·by_cases h5 : bnC zs n = 7 ∧ 1 < (ndAt ns (bnK zs n ns)).2.2.length
         ·exact .inr ⟨some (_ ∧ _), ⟨h1, .inr ⟨h3, h5⟩⟩, rfl⟩
         ·exact .inl ⟨some (_ ∧ _), ⟨h1, .inr ⟨h3, by omega, by omega, by omega, fun h6 => by omega⟩⟩, rfl⟩)
  ·cases hs
end Go.Ab
