/- Package source: includes. -/
import Derived.Test.YteidakoieemlgaaGreatTX12toX13
import Derived.Test.YteidakoieemlgaaGreatTX8toX9
namespace Go.Ab
open Go.Proofs
set_option linter.unusedSectionVars false
set_option maxRecDepth 100000
variable [Glob]

abbrev srR (id : Nat) (r : Sr) : AO := .row [.p (.l tkC r.toks), .int .i64 r.at_, .int .i64 r.bod, .own id defC r.defs]
abbrev srT (r : Sr) : AO := .tok 52 defC r.defs.length true
/-- The reader and a box with its address: from the box, and from the reader. -/
abbrev srI (r : Sr) : List AO := [.row [.ptr 1 0], srR 2 r, srT r]
abbrev srK (r : Sr) : List AO := [srR 2 r, .row [.ptr 0 0], srT r]

def srOfR (x : AO) : Option Sr :=
  match x with
  | .row [.p (.l c0 toks), .p (.v (.int .i64 a)), .p (.v (.int .i64 b)), .own _ c1 ds] =>
    match castD (e := tkC) (e' := c0) toks, castD (e := defC) (e' := c1) ds with
    | some toks, some ds => some ⟨toks, a.toNat, b.toNat, ds⟩
    | _, _ => none
  | _ => none

def saysIn : Says := fun args H => match args, H with
  | [.c (.ptr 0 0)], [.row _, x, .tok _ _ _ _] => match srOfR x with
    | some r => some (some (H = srI r ∧ Vld r), nmSV (nmS .str r).1, srI (nmS .str r).2)
    | none => none
  | _, _ => none

theorem id3n : ∀ k, k < 3 → [0, 1, 2][k]? = some k := fun k hk => by
  have : k = 0 ∨ k = 1 ∨ k = 2 := by omega
  rcases this with rfl | rfl | rfl <;> rfl

def Z1 : Table := ext (tN 6001) 51 saysIn
theorem z1 : TSound Tryz.prog Z1 := by
  refine ext_run (yN 6001 (tBk 6001)) (f := 51) (fn := Tryz.f51) rfl rfl [0, 1, 2] fun args H p r' H' hs hp => ?_
  unfold saysIn at hs
  split at hs
  · split at hs
    · rename_i r _
      cases hs
      obtain ⟨he, hv⟩ := hp
      rw [he]
      refine ⟨Nat.le_of_ble_eq_true rfl, [0, 1, 2], rfl, id3n, ?_⟩
      repeat ((conv => whnf); refine ⟨by first | exact ⟨rfl, rfl, hv, by decide, .inr (.inr (.inr rfl))⟩ | (unfold inI64; omega) | omega | exact ⟨by omega, by omega⟩ | (intro hg; first | (unfold inI64; omega) | omega | exact ⟨by omega, by omega⟩ | (simp [lit] at hg; unfold inI64; omega) | (simp [lit] at hg; omega) | (simp [lit] at hg; exact ⟨by omega, by omega⟩)) | (show (_ : Nat) + 1 ≤ 1000000000000; omega) | exact rfl | (unfold inI64; dsimp only; omega) | (dsimp only; omega) | (intro hg; simp [lit] at hg; first | (unfold inI64; dsimp only; omega) | (dsimp only; omega)) | decide +kernel, ?_⟩)
      conv => whnf
      exact ends_eq ⟨rfl, rfl⟩
    · cases hs
  · cases hs

def saysCI : Says := fun args H => match args, H with
  | [.c (.ptr 0 0), .c (.p (.v (.int .i64 k))), .c (.clo _ _f _)], [x, .row _, .tok _ _ _ _] => match srOfR x with
    | some r => some (some (args = [.c (.ptr 0 0), .c (.int .i64 k), .c (.clo false 51 [1])] ∧ H = srK r ∧ Vld r ∧ r.tok.1 ≠ 8), .int .i64 (cmdS k .str r).1, srK (cmdS k .str r).2)
    | none => none
  | _, _ => none

theorem z2a : TSound Tryz.prog (ext Z1 50 saysCI) := by
  refine ext_run z1 (f := 50) (fn := Tryz.f50) rfl rfl [0, 1, 2, 6, 7, 8, 28] fun args H p r' H' hs hp => ?_
  unfold saysCI at hs
  split at hs
  · split at hs
    · rename_i k _ f cs _ _ _ _ _ _ _ r _
      cases hs
      obtain ⟨ha, he, hv, hk⟩ := hp
      rw [ha, he]
      have hi := hv.i64
      have hv1 := hv.adv_v hk
      refine ⟨Nat.le_of_ble_eq_true rfl, [0, 1, 2], rfl, id3n, ?_⟩
      unfold cmdS
      repeat ((conv => whnf); refine ⟨by first | exact ⟨rfl, rfl, hv⟩ | exact hi | exact ⟨rfl, hv1⟩ | (unfold inI64; omega) | omega | exact ⟨by omega, by omega⟩ | (intro hg; first | (unfold inI64; omega) | omega | exact ⟨by omega, by omega⟩ | (simp [lit] at hg; unfold inI64; omega) | (simp [lit] at hg; omega) | (simp [lit] at hg; exact ⟨by omega, by omega⟩)) | (show (_ : Nat) + 1 ≤ 1000000000000; omega) | exact rfl | (unfold inI64; dsimp only; omega) | (dsimp only; omega) | (intro hg; simp [lit] at hg; first | (unfold inI64; dsimp only; omega) | (dsimp only; omega)) | decide +kernel, ?_⟩)
      conv => whnf
      refine cond_intro (fun h => ?_) (fun h => ?_)
      · have h1 : ¬ (nmS .str r.adv).1.2 = 0 := by
          have h2 : (!decide ((nmS .str r.adv).1.2 = 0)) = true := h
          simpa using h2
        simp only
        rw [if_neg h1]
        repeat ((conv => whnf); refine ⟨by first | (unfold inI64; omega) | omega | exact ⟨by omega, by omega⟩ | (intro hg; first | (unfold inI64; omega) | omega | exact ⟨by omega, by omega⟩ | (simp [lit] at hg; unfold inI64; omega) | (simp [lit] at hg; omega) | (simp [lit] at hg; exact ⟨by omega, by omega⟩)) | (show (_ : Nat) + 1 ≤ 1000000000000; omega) | exact rfl | (unfold inI64; dsimp only; omega) | (dsimp only; omega) | (intro hg; simp [lit] at hg; first | (unfold inI64; dsimp only; omega) | (dsimp only; omega)) | decide +kernel, ?_⟩)
        conv => whnf
        exact ends_eq ⟨rfl, rfl⟩
      · have h1 : (nmS .str r.adv).1.2 = 0 := by
          have h2 : (!decide ((nmS .str r.adv).1.2 = 0)) = false := h
          simpa using h2
        simp only
        rw [if_pos h1]
        obtain ⟨c1, c2⟩ := cmd_add hv hk h1 (dfn k e0 (nmS .str r.adv).1.1 [] r.tok)
        repeat ((conv => whnf); refine ⟨by first | exact c2 | exact ⟨rfl, srH_add _ _, c1⟩ | (unfold inI64; omega) | omega | exact ⟨by omega, by omega⟩ | (intro hg; first | (unfold inI64; omega) | omega | exact ⟨by omega, by omega⟩ | (simp [lit] at hg; unfold inI64; omega) | (simp [lit] at hg; omega) | (simp [lit] at hg; exact ⟨by omega, by omega⟩)) | (show (_ : Nat) + 1 ≤ 1000000000000; omega) | exact rfl | (unfold inI64; dsimp only; omega) | (dsimp only; omega) | (intro hg; simp [lit] at hg; first | (unfold inI64; dsimp only; omega) | (dsimp only; omega)) | decide +kernel, ?_⟩)
        conv => whnf
        exact ends_eq ⟨rfl, rfl⟩
    · cases hs
  · cases hs

def Z2 : Table := ext Z1 50 (orS (saysR daIC eaIC cmdPre fun r a => (.int .i64 (cmdS a.1 (nmF a.2) r).1, (cmdS a.1 (nmF a.2) r).2)) saysCI)

theorem z2b : TSound Tryz.prog (ext Z1 50 (saysR daIC eaIC cmdPre fun r a => (.int .i64 (cmdS a.1 (nmF a.2) r).1, (cmdS a.1 (nmF a.2) r).2))) := ext_only y54 z1

theorem z2 : TSound Tryz.prog Z2 := ext_or z2b z2a

def Z3 : Table := ext Z2 32 (saysR da0 ea0 (fun r _ => Vld r) fun r _ => (.int .i64 (topS r).1, (topS r).2))

theorem z3 : TSound Tryz.prog Z3 := by
  refine extR z2 32 (fn := Tryz.f32) rfl rfl da0 ea0 _ _ (fun _ => Nat.le_of_ble_eq_true rfl) [0, 1, 2, 3, 6, 12, 19] fun r _ hs => ?_
  have hv : Vld r := hs
  have hk : r.toks.length ≤ 6001 + 1 + r.at_ := by have := hv.len; omega
  unfold topS
  repeat ((conv => whnf); refine ⟨by first | exact ⟨rfl, rfl, hv⟩ | (unfold inI64; omega) | omega | exact ⟨by omega, by omega⟩ | (intro hg; first | (unfold inI64; omega) | omega | exact ⟨by omega, by omega⟩ | (simp [lit] at hg; unfold inI64; omega) | (simp [lit] at hg; omega) | (simp [lit] at hg; exact ⟨by omega, by omega⟩)) | (show (_ : Nat) + 1 ≤ 1000000000000; omega) | exact rfl | (unfold inI64; dsimp only; omega) | (dsimp only; omega) | (intro hg; simp [lit] at hg; first | (unfold inI64; dsimp only; omega) | (dsimp only; omega)) | decide +kernel, ?_⟩)
  conv => whnf
  refine cond_intro (fun h => ?_) (fun h => ?_)
  · have h1 : wrdI r.tok ⟨#[105, 110, 99, 108, 117, 100, 101]⟩ = true := h
    rw [if_pos h1]
    repeat ((conv => whnf); refine ⟨by first | exact ⟨rfl, rfl, hv, wrdI_kind h1⟩ | (unfold inI64; omega) | omega | exact ⟨by omega, by omega⟩ | (intro hg; first | (unfold inI64; omega) | omega | exact ⟨by omega, by omega⟩ | (simp [lit] at hg; unfold inI64; omega) | (simp [lit] at hg; omega) | (simp [lit] at hg; exact ⟨by omega, by omega⟩)) | (show (_ : Nat) + 1 ≤ 1000000000000; omega) | exact rfl | (unfold inI64; dsimp only; omega) | (dsimp only; omega) | (intro hg; simp [lit] at hg; first | (unfold inI64; dsimp only; omega) | (dsimp only; omega)) | decide +kernel, ?_⟩)
    conv => whnf
    exact ends_eq ⟨rfl, rfl⟩
  have h1 : ¬ wrdI r.tok ⟨#[105, 110, 99, 108, 117, 100, 101]⟩ = true := by
    have h4 : wrdI r.tok ⟨#[105, 110, 99, 108, 117, 100, 101]⟩ = false := h
    rw [h4]; simp
  rw [if_neg h1]
  repeat ((conv => whnf); refine ⟨by first | (unfold inI64; omega) | omega | exact ⟨by omega, by omega⟩ | (intro hg; first | (unfold inI64; omega) | omega | exact ⟨by omega, by omega⟩ | (simp [lit] at hg; unfold inI64; omega) | (simp [lit] at hg; omega) | (simp [lit] at hg; exact ⟨by omega, by omega⟩)) | (show (_ : Nat) + 1 ≤ 1000000000000; omega) | exact rfl | (unfold inI64; dsimp only; omega) | (dsimp only; omega) | (intro hg; simp [lit] at hg; first | (unfold inI64; dsimp only; omega) | (dsimp only; omega)) | decide +kernel, ?_⟩)
  conv => whnf
  refine cond_intro (fun h2 => ?_) (fun h2 => ?_)
  · have h3 : wrdI r.tok ⟨#[100, 101, 108, 101, 116, 101, 45, 110, 111, 100, 101]⟩ = true := h2
    rw [if_pos h3]
    repeat ((conv => whnf); refine ⟨by first | exact ⟨rfl, rfl, hv, wrdI_kind h3, .inr (.inr (.inl rfl))⟩ | (unfold inI64; omega) | omega | exact ⟨by omega, by omega⟩ | (intro hg; first | (unfold inI64; omega) | omega | exact ⟨by omega, by omega⟩ | (simp [lit] at hg; unfold inI64; omega) | (simp [lit] at hg; omega) | (simp [lit] at hg; exact ⟨by omega, by omega⟩)) | (show (_ : Nat) + 1 ≤ 1000000000000; omega) | exact rfl | (unfold inI64; dsimp only; omega) | (dsimp only; omega) | (intro hg; simp [lit] at hg; first | (unfold inI64; dsimp only; omega) | (dsimp only; omega)) | decide +kernel, ?_⟩)
    conv => whnf
    exact ends_eq ⟨rfl, rfl⟩
  have h3 : ¬ wrdI r.tok ⟨#[100, 101, 108, 101, 116, 101, 45, 110, 111, 100, 101]⟩ = true := by
    have h4 : wrdI r.tok ⟨#[100, 101, 108, 101, 116, 101, 45, 110, 111, 100, 101]⟩ = false := h2
    rw [h4]; simp
  rw [if_neg h3]
  repeat ((conv => whnf); refine ⟨by first | (unfold inI64; omega) | omega | exact ⟨by omega, by omega⟩ | (intro hg; first | (unfold inI64; omega) | omega | exact ⟨by omega, by omega⟩ | (simp [lit] at hg; unfold inI64; omega) | (simp [lit] at hg; omega) | (simp [lit] at hg; exact ⟨by omega, by omega⟩)) | (show (_ : Nat) + 1 ≤ 1000000000000; omega) | exact rfl | (unfold inI64; dsimp only; omega) | (dsimp only; omega) | (intro hg; simp [lit] at hg; first | (unfold inI64; dsimp only; omega) | (dsimp only; omega)) | decide +kernel, ?_⟩)
  conv => whnf
  refine cond_intro (fun h5 => ?_) (fun h5 => ?_)
  · have h6 : r.tok.1 = 6 := of_decide_eq_true h5
    rw [if_pos h6]
    repeat ((conv => whnf); refine ⟨by first | exact ⟨rfl, rfl, hv, hk, .inr (.inr (.inl rfl))⟩ | (unfold inI64; omega) | omega | exact ⟨by omega, by omega⟩ | (intro hg; first | (unfold inI64; omega) | omega | exact ⟨by omega, by omega⟩ | (simp [lit] at hg; unfold inI64; omega) | (simp [lit] at hg; omega) | (simp [lit] at hg; exact ⟨by omega, by omega⟩)) | (show (_ : Nat) + 1 ≤ 1000000000000; omega) | exact rfl | (unfold inI64; dsimp only; omega) | (dsimp only; omega) | (intro hg; simp [lit] at hg; first | (unfold inI64; dsimp only; omega) | (dsimp only; omega)) | decide +kernel, ?_⟩)
    conv => whnf
    exact ends_eq ⟨rfl, rfl⟩
  · have h6 : ¬ r.tok.1 = 6 := of_decide_eq_false h5
    rw [if_neg h6]
    repeat ((conv => whnf); refine ⟨by first | exact ⟨rfl, rfl, hv, hk, .inr (.inr (.inr rfl))⟩ | (unfold inI64; omega) | omega | exact ⟨by omega, by omega⟩ | (intro hg; first | (unfold inI64; omega) | omega | exact ⟨by omega, by omega⟩ | (simp [lit] at hg; unfold inI64; omega) | (simp [lit] at hg; omega) | (simp [lit] at hg; exact ⟨by omega, by omega⟩)) | (show (_ : Nat) + 1 ≤ 1000000000000; omega) | exact rfl | (unfold inI64; dsimp only; omega) | (dsimp only; omega) | (intro hg; simp [lit] at hg; first | (unfold inI64; dsimp only; omega) | (dsimp only; omega)) | decide +kernel, ?_⟩)
    conv => whnf
    exact ends_eq ⟨rfl, rfl⟩
end Go.Ab

/- What tokens are read: their texts are no longer than the text, and their numbers are in range. -/
namespace Go.Ab
open Go.Proofs
set_option linter.unusedSectionVars false
set_option maxRecDepth 100000
variable [Glob]

def tvOk (t : TokV) (n : Nat) : Prop := t.text.size ≤ n ∧ 0 ≤ t.value ∧ t.value ≤ 4294967295

theorem tvOk_none (n : Nat) (k : Int) : tvOk { kind := k } n := ⟨Nat.zero_le _, (show (0 : Int) ≤ 0 by decide), (show (0 : Int) ≤ 4294967295 by decide)⟩
theorem tvOk_text {l : List UInt8} {n : Nat} (k : Int) (h : l.length ≤ n) : tvOk { kind := k, text := B l } n := ⟨h, (show (0 : Int) ≤ 0 by decide), (show (0 : Int) ≤ 4294967295 by decide)⟩

theorem comp_rng (b : Int) (hb : 0 ≤ b) : ∀ (l : List UInt8) (v : Int), 0 ≤ v → 0 ≤ (compLgo b l v).1 ∧ (compLgo b l v).1 ≤ 4294967295 := by
  intro l
  induction l with
  | nil =>
    intro v hv
    unfold compLgo
    split
    · exact ⟨by decide, by decide⟩
    · exact ⟨hv, by omega⟩
  | cons d r ih =>
    intro v hv
    unfold compLgo
    split
    · exact ⟨by decide, by decide⟩
    · refine ih _ ?_
      have h1 := (digitV_range ((d.toNat : Nat) : Int)).1
      have h2 := Int.mul_nonneg hv hb
      split
      · decide
      · omega

theorem str_rng (N : Nat) : ∀ (k : Nat) (l : List UInt8) (out : List Int) (n : Nat), out.length + l.length ≤ N → tvOk (strL k l out n).1 N := by
  intro k
  induction k with
  | zero => intro l out n _; exact tvOk_none _ _
  | succ k ih =>
    intro l out n h
    cases l with
    | nil => exact tvOk_none _ _
    | cons a r =>
      simp only [List.length_cons] at h
      simp only [strL]
      split
      · exact tvOk_none _ _
      · split
        · refine ⟨?_, (show (0 : Int) ≤ 0 by decide), (show (0 : Int) ≤ 4294967295 by decide)⟩
          show (bytesOf out).size ≤ N
          have : (bytesOf out).size = out.length := by
            unfold bytesOf
            show (out.map _).toArray.size = _
            simp
          omega
        · split
          · split
            · rename_i he
              refine ih _ _ _ ?_
              have h3 := escV_n (B (a :: r)) he
              have h4 : 1 ≤ (escL (a :: r)).2.1.toNat := by
                show 1 ≤ (escV (B (a :: r))).2.1.toNat
                omega
              rw [List.length_append, List.length_drop]
              simp only [List.length_cons, List.length_nil]
              omega
            · exact tvOk_none _ _
          · refine ih _ _ _ ?_
            rw [List.length_append]
            simp only [List.length_cons, List.length_nil]
            omega

theorem cut_rng (l : List UInt8) : tvOk (cutL l).1 l.length := by
  cases l with
  | nil => exact tvOk_none _ _
  | cons a r =>
    show tvOk (cutC a r).1 (r.length + 1)
    unfold cutC
    have hn := tw_len nameB (a :: r)
    have hw := tw_len wordB r
    have hs := tw_len slashB r
    simp only [List.length_cons] at hn
    split
    · unfold nameLx
      split
      · split
        · exact tvOk_none _ _
        · exact tvOk_text _ (by omega)
      · exact tvOk_text _ (by omega)
    · split
      · unfold numLx
        split
        · refine ⟨Nat.zero_le _, ?_⟩
          show 0 ≤ (compL _ _).1 ∧ (compL _ _).1 ≤ 4294967295
          unfold compL
          split
          · exact ⟨by decide, by decide⟩
          · refine comp_rng _ ?_ _ _ (Int.le_refl 0)
            unfold splitL
            split
            · exact (show (0 : Int) ≤ 16 by decide)
            · split
              · exact (show (0 : Int) ≤ 8 by decide)
              · exact (show (0 : Int) ≤ 10 by decide)
        · exact tvOk_none _ _
      · split
        · have := str_rng r.length (r.length + 1) r [] 1 (by simp)
          exact ⟨Nat.le_succ_of_le this.1, this.2⟩
        · split
          · exact tvOk_text _ (by omega)
          · split
            · exact tvOk_text _ (by omega)
            · split
              · refine tvOk_text _ ?_
                rw [List.length_take]
                simp only [List.length_cons]
                omega
              · exact tvOk_none _ _

theorem skipL_len : ∀ (k : Nat) (l : List UInt8) (p : Int × Int), (skipL k l p).2.1.length ≤ l.length := by
  intro k
  induction k with
  | zero => intro l p; exact Nat.le_refl _
  | succ k ih =>
    intro l p
    unfold skipL
    split
    · exact Nat.le_refl _
    · refine Nat.le_trans (ih _ _) ?_
      rw [List.length_drop]
      omega

def tkFit (t : tkC.den) : Prop := t.2.1.size ≤ 16000 ∧ 0 ≤ t.2.2.1 ∧ t.2.2.1 ≤ 4294967295

theorem readL_fit (f : Int) : ∀ (k : Nat) (l : List UInt8) (p : Int × Int) (zs : List tokC.den), l.length ≤ 16000 → (∀ t ∈ zs, tkFit t) → ∀ t ∈ (readL f k l p zs).toks, tkFit t := by
  intro k
  induction k with
  | zero => intro l p zs _ _ t ht; cases ht
  | succ k ih =>
    intro l p zs hl hz t ht
    have hs : (skipA l p).2.1.length ≤ l.length := skipL_len _ _ _
    have hc := cut_rng (skipA l p).2.1
    have hadd : ∀ t ∈ zs ++ [tokD (cutL (skipA l p).2.1).1 f (skipA l p).2.2], tkFit t := fun t ht => by
      rcases List.mem_append.1 ht with h1 | h1
      · exact hz t h1
      · obtain rfl := List.mem_singleton.1 h1
        exact ⟨Nat.le_trans hc.1 (by omega), hc.2⟩
    simp only [readL] at ht
    split at ht
    · split at ht
      · split at ht
        · exact hadd t ht
        · refine ih _ _ _ ?_ hadd t ht
          rw [List.length_drop]
          omega
      · cases ht
    · cases ht

theorem readV_fit (s : ByteArray) (f : Int) : ∀ t ∈ (readV s f).toks, tkFit t := by
  intro t ht
  by_cases h : s.size ≤ 16000
  · obtain ⟨l, rfl⟩ : ∃ l, s = B l := ⟨s.data.toList, rfl⟩
    rw [readV_L l f h] at ht
    exact readL_fit f _ l _ [] h (fun t h => by cases h) t ht
  · unfold readV at ht
    rw [if_pos (by omega)] at ht
    cases ht

theorem srV_vld' {s : ByteArray} {f : Int} (h0 : (readV s f).err = 0) : Vld ⟨(readV s f).toks, 0, 0, []⟩ := by
  obtain ⟨h1, h2⟩ := rV_end s f
  obtain ⟨ys, e, h3, h4⟩ := h2 h0
  refine ⟨by show (readV s f).toks.length ≤ 6001; omega, ?_, ?_, readV_fit s f, Nat.le_refl _, Nat.zero_le _⟩
  · show 0 < (readV s f).toks.length
    rw [h3]; simp
  · intro i hi
    show ((readV s f).toks.getD i tkC.dflt).1 = 8
    have hi' : i + 1 = (readV s f).toks.length := hi
    rw [h3] at hi' ⊢
    have : i = ys.length := by simpa using hi'
    subst this
    rw [List.getD_eq_getElem?_getD]
    simp [h4]

def Z4 : Table := ext Z3 31 (looks (looksR da0 ea0 (fun r _ => TokP r) fun r _ => tokA r.tok))
theorem z4 : TSound Tryz.prog Z4 := by
  refine extLR z3 31 (fn := Tryz.f31) rfl rfl da0 ea0 _ _ (fun _ => Nat.le_of_ble_eq_true rfl) [0, 2] fun r _ hs => ?_
  obtain ⟨hn, hl⟩ := hs
  have h0 : 0 ≤ (r.at_ : Int) ∧ (r.at_ : Int) < (r.toks.length : Nat) := by omega
  repeat ((conv => whnf); refine ⟨by first | exact h0 | (unfold inI64; omega) | omega | exact ⟨by omega, by omega⟩ | (intro hg; first | (unfold inI64; omega) | omega | exact ⟨by omega, by omega⟩ | (simp [lit] at hg; unfold inI64; omega) | (simp [lit] at hg; omega) | (simp [lit] at hg; exact ⟨by omega, by omega⟩)) | (show (_ : Nat) + 1 ≤ 1000000000000; omega) | exact rfl | (unfold inI64; dsimp only; omega) | (dsimp only; omega) | (intro hg; simp [lit] at hg; first | (unfold inI64; dsimp only; omega) | (dsimp only; omega)) | decide +kernel, ?_⟩)
  conv => whnf
  exact ends_eq ⟨rfl, rfl⟩

/-- Read, for every text. -/
def Z5 : Table := ext Z4 13 (saysSI fun s f => (none, (srcV s f).sv))
theorem z5 : TSound Tryz.prog Z5 := by
  refine extSI z4 13 (fn := Tryz.f13) rfl rfl (by decide) _ [0, 1, 4, 5, 6, 7, 8, 9, 10, 11, 20, 27, 30] fun s f _ => ?_
  repeat ((conv => whnf); refine ⟨by first | (unfold inI64; omega) | omega | exact ⟨by omega, by omega⟩ | (intro hg; first | (unfold inI64; omega) | omega | exact ⟨by omega, by omega⟩ | (simp [lit] at hg; unfold inI64; omega) | (simp [lit] at hg; omega) | (simp [lit] at hg; exact ⟨by omega, by omega⟩)) | (show (_ : Nat) + 1 ≤ 1000000000000; omega) | exact rfl | (unfold inI64; dsimp only; omega) | (dsimp only; omega) | (intro hg; simp [lit] at hg; first | (unfold inI64; dsimp only; omega) | (dsimp only; omega)) | decide +kernel, ?_⟩)
  conv => whnf
  refine cond_intro (fun h => ?_) (fun h => ?_)
  · have h1 : ¬ (readV s f).err = 0 := by
      have h2 : (!decide ((readV s f).err = 0)) = true := h
      simpa using h2
    repeat ((conv => whnf); refine ⟨by first | (unfold inI64; omega) | omega | exact ⟨by omega, by omega⟩ | (intro hg; first | (unfold inI64; omega) | omega | exact ⟨by omega, by omega⟩ | (simp [lit] at hg; unfold inI64; omega) | (simp [lit] at hg; omega) | (simp [lit] at hg; exact ⟨by omega, by omega⟩)) | (show (_ : Nat) + 1 ≤ 1000000000000; omega) | exact rfl | (unfold inI64; dsimp only; omega) | (dsimp only; omega) | (intro hg; simp [lit] at hg; first | (unfold inI64; dsimp only; omega) | (dsimp only; omega)) | decide +kernel, ?_⟩)
    conv => whnf
    refine ends_of (fun G v hv => ?_) rfl
    have := nil_sle defC G v hv
    show RepS G (srcV s f).sv v
    unfold srcV
    rw [if_neg h1]
    exact this
  have h1 : (readV s f).err = 0 := by
    have h2 : (!decide ((readV s f).err = 0)) = false := h
    simpa using h2
  have hv := srV_vld' h1
  have hS : srcV s f = (let x := topsS (readV s f).toks.length ⟨(readV s f).toks, 0, 0, []⟩
      if x.1 = 0 then ⟨x.2.defs, 0, 0, 0, 0⟩ else ⟨[], x.2.tok.2.2.2.1, x.2.tok.2.2.2.2.1, x.2.tok.2.2.2.2.2, x.1⟩) := by
    unfold srcV
    rw [if_pos h1]
  repeat ((conv => whnf); refine ⟨by first | (unfold inI64; omega) | omega | exact ⟨by omega, by omega⟩ | (intro hg; first | (unfold inI64; omega) | omega | exact ⟨by omega, by omega⟩ | (simp [lit] at hg; unfold inI64; omega) | (simp [lit] at hg; omega) | (simp [lit] at hg; exact ⟨by omega, by omega⟩)) | (show (_ : Nat) + 1 ≤ 1000000000000; omega) | exact rfl | (unfold inI64; dsimp only; omega) | (dsimp only; omega) | (intro hg; simp [lit] at hg; first | (unfold inI64; dsimp only; omega) | (dsimp only; omega)) | decide +kernel, ?_⟩)
  conv => whnf
  refine loop_weak (σ := Sr × Nat) (fun _ => [(0, XV.s .none), (1, XV.s .none), (4, XV.s .none), (5, XV.s (.a (.c (.ptr 0 0)))), (6, XV.s .none), (7, XV.s .none), (8, XV.s .none), (9, XV.s .none), (10, XV.s (.a (.c (.ptr 2 0)))), (11, XV.s .none), (20, XV.s .none), (27, XV.s .none), (30, XV.s .none)])
    (fun ⟨q, _⟩ => [.row [.int .i64 0, .int .i64 0, .int .i64 0], .row [.int .i64 (readV s f).file, .int .i64 (readV s f).line, .int .i64 (readV s f).column], .row [.p (.l tkC q.toks), .int .i64 q.at_, .int .i64 q.bod, .own 3 defC q.defs], .tok 52 defC q.defs.length true])
    (fun ⟨q, n⟩ => Vld q ∧ q.toks = (readV s f).toks ∧ q.toks.length ≤ n + q.at_ ∧ topsS n q = topsS (readV s f).toks.length ⟨(readV s f).toks, 0, 0, []⟩) (fun ⟨_, n⟩ => n)
    (⟨(readV s f).toks, 0, 0, []⟩, (readV s f).toks.length) ?_ ?_ ?_
  · refine (Weak.cell 2 rfl 3 rfl 52 defC).trans (Weak.le _ ?_)
    repeat (first | exact LeL.nil | refine LeL.drop ?_ | refine LeL.same ?_)
  · exact ⟨hv, rfl, Nat.le_add_right _ _, rfl⟩
  rintro ⟨q, n⟩ ⟨hq, htk, hl, hgo⟩
  have hql := hq.lt
  have hp := hq.tokP
  obtain ⟨n, rfl⟩ : ∃ j, n = j + 1 := ⟨n - 1, by omega⟩
  simp only [topsS] at hgo
  repeat ((conv => whnf); refine ⟨by first | exact ⟨rfl, rfl, hp⟩ | (unfold inI64; omega) | omega | exact ⟨by omega, by omega⟩ | (intro hg; first | (unfold inI64; omega) | omega | exact ⟨by omega, by omega⟩ | (simp [lit] at hg; unfold inI64; omega) | (simp [lit] at hg; omega) | (simp [lit] at hg; exact ⟨by omega, by omega⟩)) | (show (_ : Nat) + 1 ≤ 1000000000000; omega) | exact rfl | (unfold inI64; dsimp only; omega) | (dsimp only; omega) | (intro hg; simp [lit] at hg; first | (unfold inI64; dsimp only; omega) | (dsimp only; omega)) | decide +kernel, ?_⟩)
  conv => whnf
  refine cond_intro (fun h3 => ?_) (fun h3 => ?_)
  · have h4 : ¬ q.tok.1 = 8 := by
      have h5 : (!decide (q.tok.1 = 8)) = true := h3
      simpa using h5
    rw [if_neg h4] at hgo
    have g := topS_good hq
    have hp2 : TokP (topS q).2 := ⟨by rw [g.adv.toks]; exact hq.len, by rw [g.adv.toks]; exact g.adv.lt⟩
    repeat ((conv => whnf); refine ⟨by first | exact ⟨rfl, rfl, hq⟩ | (unfold inI64; omega) | omega | exact ⟨by omega, by omega⟩ | (intro hg; first | (unfold inI64; omega) | omega | exact ⟨by omega, by omega⟩ | (simp [lit] at hg; unfold inI64; omega) | (simp [lit] at hg; omega) | (simp [lit] at hg; exact ⟨by omega, by omega⟩)) | (show (_ : Nat) + 1 ≤ 1000000000000; omega) | exact rfl | (unfold inI64; dsimp only; omega) | (dsimp only; omega) | (intro hg; simp [lit] at hg; first | (unfold inI64; dsimp only; omega) | (dsimp only; omega)) | decide +kernel, ?_⟩)
    conv => whnf
    refine cond_intro (fun h5 => ?_) (fun h5 => ?_)
    · have h6 : ¬ (topS q).1 = 0 := by
        have h7 : (!decide ((topS q).1 = 0)) = true := h5
        simpa using h7
      rw [if_neg h6] at hgo
      repeat ((conv => whnf); refine ⟨by first | exact ⟨rfl, rfl, hp2⟩ | (unfold inI64; omega) | omega | exact ⟨by omega, by omega⟩ | (intro hg; first | (unfold inI64; omega) | omega | exact ⟨by omega, by omega⟩ | (simp [lit] at hg; unfold inI64; omega) | (simp [lit] at hg; omega) | (simp [lit] at hg; exact ⟨by omega, by omega⟩)) | (show (_ : Nat) + 1 ≤ 1000000000000; omega) | exact rfl | (unfold inI64; dsimp only; omega) | (dsimp only; omega) | (intro hg; simp [lit] at hg; first | (unfold inI64; dsimp only; omega) | (dsimp only; omega)) | decide +kernel, ?_⟩)
      conv => whnf
      refine ends_of (fun G v hv => ?_) rfl
      have hw := nil_sle defC G v hv
      show RepS G (srcV s f).sv v
      rw [hS]
      simp only
      rw [← hgo, if_neg h6]
      exact hw
    · have h6 : (topS q).1 = 0 := by
        have h7 : (!decide ((topS q).1 = 0)) = false := h5
        simpa using h7
      rw [if_pos h6] at hgo
      rw [h6] at g
      repeat ((conv => whnf); refine ⟨by first | (unfold inI64; omega) | omega | exact ⟨by omega, by omega⟩ | (intro hg; first | (unfold inI64; omega) | omega | exact ⟨by omega, by omega⟩ | (simp [lit] at hg; unfold inI64; omega) | (simp [lit] at hg; omega) | (simp [lit] at hg; exact ⟨by omega, by omega⟩)) | (show (_ : Nat) + 1 ≤ 1000000000000; omega) | exact rfl | (unfold inI64; dsimp only; omega) | (dsimp only; omega) | (intro hg; simp [lit] at hg; first | (unfold inI64; dsimp only; omega) | (dsimp only; omega)) | decide +kernel, ?_⟩)
      conv => whnf
      refine head_intro ((topS q).2, n) ?_ ?_ ?_ ?_
      · repeat (first | exact LeL.nil | refine LeL.drop ?_ | refine LeL.same ?_)
      · rfl
      · refine ⟨g.vld hq, g.adv.toks.trans htk, ?_, hgo⟩
        rw [g.adv.toks]
        have := (g.ok rfl).1
        show q.toks.length ≤ n + (topS q).2.at_
        omega
      · exact Nat.lt_succ_self n
  · have h4 : q.tok.1 = 8 := by
      have h5 : (!decide (q.tok.1 = 8)) = false := h3
      simpa using h5
    rw [if_pos h4] at hgo
    repeat ((conv => whnf); refine ⟨by first | (unfold inI64; omega) | omega | exact ⟨by omega, by omega⟩ | (intro hg; first | (unfold inI64; omega) | omega | exact ⟨by omega, by omega⟩ | (simp [lit] at hg; unfold inI64; omega) | (simp [lit] at hg; omega) | (simp [lit] at hg; exact ⟨by omega, by omega⟩)) | (show (_ : Nat) + 1 ≤ 1000000000000; omega) | exact rfl | (unfold inI64; dsimp only; omega) | (dsimp only; omega) | (intro hg; simp [lit] at hg; first | (unfold inI64; dsimp only; omega) | (dsimp only; omega)) | decide +kernel, ?_⟩)
    conv => whnf
    refine ends_eq ⟨?_, rfl⟩
    show _ = (srcV s f).sv
    rw [hS]
    simp only
    rw [← hgo, if_pos rfl]
    rfl
end Go.Ab

/- Package include: files are sought. -/
namespace Go.Ab
open Go.Proofs
set_option linter.unusedSectionVars false
set_option maxRecDepth 100000
variable [Glob]

abbrev flC : CT := .pair .str .str

/-- The index of the first file with a name, from a place on; -1 if there is none. -/
def seekGo (name : ByteArray) : List flC.den → Nat → Int
  | [], _ => -1
  | f :: r, i => if f.1 = name then (i : Int) else seekGo name r (i + 1)
def seekV (files : List flC.den) (name : ByteArray) : Int := seekGo name files 0

theorem seekGo_le (name : ByteArray) : ∀ (l : List flC.den) (i : Nat), seekGo name l i = -1 ∨ ((i : Int) ≤ seekGo name l i ∧ seekGo name l i < (i + l.length : Nat)) := by
  intro l
  induction l with
  | nil => intro i; exact .inl rfl
  | cons f r ih =>
    intro i
    unfold seekGo
    split
    · refine .inr ⟨by omega, ?_⟩
      simp only [List.length_cons]
      omega
    · rcases ih (i + 1) with h | ⟨h1, h2⟩
      · exact .inl h
      · refine .inr ⟨by omega, ?_⟩
        simp only [List.length_cons]
        omega
theorem seek_lt {files : List flC.den} {name : ByteArray} (h : 0 ≤ seekV files name) : (seekV files name).toNat < files.length ∧ seekV files name < (files.length : Nat) := by
  unfold seekV at *
  rcases seekGo_le name files 0 with h1 | ⟨h1, h2⟩
  · rw [h1] at h; omega
  · omega

theorem seek_drop {name : ByteArray} {files : List flC.den} {i : Nat} (h : i < files.length) : seekGo name (files.drop i) i = if (files.getD i flC.dflt).1 = name then (i : Int) else seekGo name (files.drop (i + 1)) (i + 1) := by
  rw [List.drop_eq_getElem_cons h]
  simp [seekGo, h]

/-- What a list of files has wrong. -/
def chkGo (files : List flC.den) : Nat → Nat → Int
  | 0, _ => 0
  | m + 1, i => if seekV files (files.getD i flC.dflt).1 < (i : Int) then 5 else chkGo files m (i + 1)
theorem chkGo_succ (files : List flC.den) (m i : Nat) : chkGo files (m + 1) i = if seekV files (files.getD i flC.dflt).1 < (i : Int) then 5 else chkGo files m (i + 1) := rfl
def chkV (files : List flC.den) : Int := if 8 < files.length then 3 else chkGo files files.length 0

section
variable {T : Table} (hT : TSound Tryz.prog T)

def saysSk1 : Says := fun args H => match args, H with
  | [.agg [.p (.v (.string a)), .p (.v (.string _))], .c (.ptr 0 0)], [.row [.p (.v (.string n))]] => some (none, .bool (decide (a = n)), [.row [.str n]])
  | _, _ => none
abbrev I1 (T : Table) : Table := ext T 120 saysSk1
include hT in
theorem i1 : TSound Tryz.prog (I1 T) := by
  refine ext_run hT (f := 120) (fn := Tryz.f120) rfl rfl [0, 1, 2, 3] fun args H p r' H' hs hp => ?_
  unfold saysSk1 at hs
  split at hs
  · rename_i a b n
    cases hs
    refine ⟨Nat.le_of_ble_eq_true rfl, [0], rfl, id0, ?_⟩
    repeat ((conv => whnf); refine ⟨by first | (unfold inI64; omega) | omega | exact ⟨by omega, by omega⟩ | exact rfl | decide +kernel, ?_⟩)
    conv => whnf
    exact ends_eq ⟨rfl, rfl⟩
  · cases hs

def daFl : AV → Option (List flC.den)
  | .c (.p (.l c0 fs)) => castD (e := flC) (e' := c0) fs
  | _ => none
def saysIdx : Says := fun args H => match args, H with
  | [a, .c (.clo _ _ _)], [.row [.p (.v (.string n))]] => match daFl a with
    | some fs => some (some (args = [.c (.p (.l flC fs)), .c (.clo false 120 [0])] ∧ H = [.row [.str n]] ∧ fs.length ≤ 1000000000), .int .i64 (seekV fs n), [.row [.str n]])
    | none => none
  | _, _ => none
abbrev I2 (T : Table) : Table := ext (I1 T) 119 saysIdx
include hT in
theorem i2 : TSound Tryz.prog (I2 T) := by
  refine ext_run (i1 hT) (f := 119) (fn := Tryz.f119) rfl rfl [0, 1, 4, 5, 7, 8, 9, 16] fun args H p r' H' hs hp => ?_
  unfold saysIdx at hs
  split at hs
  · split at hs
    · rename_i a _ _ _ n _ fs _
      cases hs
      obtain ⟨ha, hH, hl⟩ := hp
      rw [ha, hH]
      refine ⟨Nat.le_of_ble_eq_true rfl, [0], rfl, id0, ?_⟩
      repeat ((conv => whnf); refine ⟨by first | (unfold inI64; omega) | omega | exact ⟨by omega, by omega⟩ | exact rfl | decide +kernel, ?_⟩)
      conv => whnf
      refine loop_intro (σ := Nat) (fun i => [(0, XV.s (.a (.c (.p (.l flC fs))))), (1, XV.s (.a (.c (.clo false 120 [0])))), (4, XV.s .none), (5, XV.s .none), (7, XV.s (.int .i64 (fs.length : Nat))), (8, XV.s (.int .i64 (i : Nat))), (9, XV.s .none), (16, XV.s .none)])
        (fun _ => [.row [.str n]]) (fun i => i ≤ fs.length ∧ seekGo n (fs.drop i) i = seekV fs n) (fun i => fs.length - i) 0 ?_ rfl ?_ fun i hI => ?_
      · repeat (first | exact LeL.nil | refine LeL.drop ?_ | refine LeL.same ?_)
      · exact ⟨Nat.zero_le _, rfl⟩
      obtain ⟨h1, h2⟩ := hI
      repeat ((conv => whnf); refine ⟨by first | (unfold inI64; omega) | omega | exact ⟨by omega, by omega⟩ | exact rfl | decide +kernel, ?_⟩)
      conv => whnf
      refine cond_intro (fun h => ?_) (fun h => ?_)
      · have h3 : i < fs.length := by
          have : (i : Int) < (fs.length : Nat) := of_decide_eq_true h
          omega
        rw [seek_drop h3] at h2
        have hin : 0 ≤ (i : Int) ∧ (i : Int) < (fs.length : Nat) := by omega
        repeat ((conv => whnf); refine ⟨by first | exact hin | (unfold inI64; omega) | omega | exact ⟨by omega, by omega⟩ | exact rfl | decide +kernel, ?_⟩)
        conv => whnf
        refine cond_intro (fun h4 => ?_) (fun h4 => ?_)
        · have h5 : (fs.getD i flC.dflt).1 = n := of_decide_eq_true h4
          rw [if_pos h5] at h2
          repeat ((conv => whnf); refine ⟨by first | (unfold inI64; omega) | omega | exact ⟨by omega, by omega⟩ | exact rfl | decide +kernel, ?_⟩)
          conv => whnf
          rw [← h2]
          exact ends_eq ⟨rfl, rfl⟩
        · have h5 : ¬ (fs.getD i flC.dflt).1 = n := of_decide_eq_false h4
          rw [if_neg h5] at h2
          repeat ((conv => whnf); refine ⟨by first | (unfold inI64; omega) | omega | exact ⟨by omega, by omega⟩ | exact rfl | decide +kernel, ?_⟩)
          conv => whnf
          refine head_intro (i + 1) ?_ rfl ?_ ?_
          · repeat (first | exact LeL.nil | refine LeL.drop ?_ | refine LeL.same ?_)
          · exact ⟨h3, h2⟩
          · omega
      · have h3 : ¬ i < fs.length := by
          have : ¬ (i : Int) < (fs.length : Nat) := of_decide_eq_false h
          omega
        rw [List.drop_eq_nil_of_le (by omega)] at h2
        repeat ((conv => whnf); refine ⟨by first | (unfold inI64; omega) | omega | exact ⟨by omega, by omega⟩ | exact rfl | decide +kernel, ?_⟩)
        conv => whnf
        rw [← h2]
        exact ends_eq ⟨rfl, rfl⟩
    · cases hs
  · cases hs

def saysSeek : Says := fun args H => match args, H with
  | [a, .c (.p (.v (.string n)))], [] => match daFl a with
    | some fs => some (some (args = [.c (.p (.l flC fs)), .c (.str n)] ∧ fs.length ≤ 1000000000), .int .i64 (seekV fs n), [])
    | none => none
  | _, _ => none
abbrev I3 (T : Table) : Table := ext (I2 T) 91 saysSeek
include hT in
theorem i3 : TSound Tryz.prog (I3 T) := by
  refine ext_run (i2 hT) (f := 91) (fn := Tryz.f91) rfl rfl [0, 1, 3, 4] fun args H p r' H' hs hp => ?_
  unfold saysSeek at hs
  split at hs
  · split at hs
    · rename_i a n _ fs _
      cases hs
      obtain ⟨ha, hl⟩ := hp
      rw [ha]
      refine ⟨Nat.le_of_ble_eq_true rfl, [], rfl, fun k hk => absurd hk (Nat.not_lt_zero k), ?_⟩
      repeat ((conv => whnf); refine ⟨by first | exact ⟨rfl, rfl, hl⟩ | (unfold inI64; omega) | omega | exact ⟨by omega, by omega⟩ | exact rfl | decide +kernel, ?_⟩)
      conv => whnf
      exact ends_eq ⟨rfl, rfl⟩
    · cases hs
  · cases hs

def saysChk : Says := fun args H => match args, H with
  | [a], [] => match daFl a with
    | some fs => some (some (args = [.c (.p (.l flC fs))] ∧ fs.length ≤ 1000000000), .int .i64 (chkV fs), [])
    | none => none
  | _, _ => none
abbrev I4 (T : Table) : Table := ext (I3 T) 66 saysChk
include hT in
theorem i4 : TSound Tryz.prog (I4 T) := by
  refine ext_run (i3 hT) (f := 66) (fn := Tryz.f66) rfl rfl [0, 2, 3, 4, 7, 8, 9, 10, 11, 20] fun args H p r' H' hs hp => ?_
  unfold saysChk at hs
  split at hs
  · split at hs
    · rename_i a fs _
      cases hs
      obtain ⟨ha, hl⟩ := hp
      rw [ha]
      refine ⟨Nat.le_of_ble_eq_true rfl, [], rfl, fun k hk => absurd hk (Nat.not_lt_zero k), ?_⟩
      unfold chkV
      repeat ((conv => whnf); refine ⟨by first | (unfold inI64; omega) | omega | exact ⟨by omega, by omega⟩ | exact rfl | decide +kernel, ?_⟩)
      conv => whnf
      refine cond_intro (fun h => ?_) (fun h => ?_)
      · have h1 : 8 < fs.length := by
          have : (8 : Int) < (fs.length : Nat) := of_decide_eq_true h
          omega
        rw [if_pos h1]
        repeat ((conv => whnf); refine ⟨by first | (unfold inI64; omega) | omega | exact ⟨by omega, by omega⟩ | exact rfl | decide +kernel, ?_⟩)
        conv => whnf
        exact ends_eq ⟨rfl, rfl⟩
      have h1 : ¬ 8 < fs.length := by
        have : ¬ (8 : Int) < (fs.length : Nat) := of_decide_eq_false h
        omega
      rw [if_neg h1]
      repeat ((conv => whnf); refine ⟨by first | (unfold inI64; omega) | omega | exact ⟨by omega, by omega⟩ | exact rfl | decide +kernel, ?_⟩)
      conv => whnf
      refine loop_intro (σ := Nat × Nat) (fun ⟨i, _⟩ => [(0, XV.s (.a (.c (.p (.l flC fs))))), (2, XV.s .none), (3, XV.s .none), (4, XV.s .none), (7, XV.s .none), (8, XV.s (.a (.c (.p (.l flC fs))))), (9, XV.s (.int .i64 (fs.length : Nat))), (10, XV.s (.int .i64 (i : Nat))), (11, XV.s .none), (20, XV.s .none)])
        (fun _ => []) (fun ⟨i, m⟩ => i + m = fs.length ∧ chkGo fs m i = chkGo fs fs.length 0) (fun ⟨_, m⟩ => m) (0, fs.length) ?_ rfl ?_ ?_
      · repeat (first | exact LeL.nil | refine LeL.drop ?_ | refine LeL.same ?_)
      · exact ⟨Nat.zero_add _, rfl⟩
      rintro ⟨i, m⟩ ⟨h2, h3⟩
      repeat ((conv => whnf); refine ⟨by first | (unfold inI64; omega) | omega | exact ⟨by omega, by omega⟩ | exact rfl | decide +kernel, ?_⟩)
      conv => whnf
      refine cond_intro (fun h4 => ?_) (fun h4 => ?_)
      · have h5 : i < fs.length := by
          have : (i : Int) < (fs.length : Nat) := of_decide_eq_true h4
          omega
        obtain ⟨m, rfl⟩ : ∃ j, m = j + 1 := ⟨m - 1, by omega⟩
        rw [chkGo_succ] at h3
        have hin : 0 ≤ (i : Int) ∧ (i : Int) < (fs.length : Nat) := by omega
        repeat ((conv => whnf); refine ⟨by first | exact hin | exact ⟨rfl, hl⟩ | (unfold inI64; omega) | omega | exact ⟨by omega, by omega⟩ | exact rfl | decide +kernel, ?_⟩)
        conv => whnf
        refine cond_intro (fun h6 => ?_) (fun h6 => ?_)
        · have h7 : seekV fs (fs.getD i flC.dflt).1 < (i : Int) := of_decide_eq_true h6
          rw [if_pos h7] at h3
          rw [← h3]
          repeat ((conv => whnf); refine ⟨by first | (unfold inI64; omega) | omega | exact ⟨by omega, by omega⟩ | exact rfl | decide +kernel, ?_⟩)
          conv => whnf
          exact ends_eq ⟨rfl, rfl⟩
        · have h7 : ¬ seekV fs (fs.getD i flC.dflt).1 < (i : Int) := of_decide_eq_false h6
          rw [if_neg h7] at h3
          repeat ((conv => whnf); refine ⟨by first | (unfold inI64; omega) | omega | exact ⟨by omega, by omega⟩ | exact rfl | decide +kernel, ?_⟩)
          conv => whnf
          refine head_keep (i + 1, m) [] rfl (fun k hk => absurd hk (Nat.not_lt_zero k)) ?_ ?_ ?_ ?_
          · rfl
          · repeat (first | exact KeepL.nil | refine KeepL.drop ?_ | refine KeepL.ren rfl ?_)
          · exact ⟨by omega, h3⟩
          · exact Nat.lt_succ_self m
      · have h5 : m = 0 := by
          have : ¬ (i : Int) < (fs.length : Nat) := of_decide_eq_false h4
          omega
        subst h5
        rw [← h3]
        repeat ((conv => whnf); refine ⟨by first | (unfold inI64; omega) | omega | exact ⟨by omega, by omega⟩ | exact rfl | decide +kernel, ?_⟩)
        conv => whnf
        exact ends_eq ⟨rfl, rfl⟩
    · cases hs
  · cases hs
end
end Go.Ab
