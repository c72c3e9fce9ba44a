/- ExpressionChoices: the texts and the law. -/
import Derived.Test.YtjphgbdjdldpjaaDoorTS8toV17
namespace Go.Ab
open Go.Proofs
set_option linter.unusedSectionVars false
set_option maxRecDepth 100000
variable [GlobX]

/-- A row of '?' and ':' from index i on, without its last value. -/
def chPc : Nat → List Nat → List Pc
  | _, [] => []
  | i, x :: l => .num (x % 3) :: .sp :: .sg [63] :: .num (1000 + i) :: .sp :: .sg [58] :: chPc (i + 1) l

def chVal (e : Nat) : Nat → List Nat → Nat
  | _, [] => e
  | i, x :: l => if x % 3 ≠ 0 then 1000 + i else chVal e (i + 1) l

theorem chPc_length : ∀ (l : List Nat) (i : Nat), (chPc i l).length = 6 * l.length := by
  intro l
  induction l with
  | nil => intro _; rfl
  | cons x l ih =>
    intro i
    simp only [chPc, List.length_cons, ih]
    omega

theorem chPc_ok (e : Nat) : ∀ (l : List Nat) (i : Nat), pcOk (chPc i l ++ [.num e]) = true := by
  intro l
  induction l with
  | nil => intro _; rfl
  | cons x l ih =>
    intro i
    have h := ih (i + 1)
    show (true && ((signs.contains [63]) && (true && ((signs.contains [58]) && pcOk (chPc (i + 1) l ++ [.num e]))))) = true
    rw [h]
    rfl

theorem chPc_num (e : Nat) (he : e ≤ 4294967295) : ∀ (l : List Nat) (i : Nat), i + l.length ≤ 1000 → ∀ n, Pc.num n ∈ chPc i l ++ [.num e] → n ≤ 4294967295 := by
  intro l
  induction l with
  | nil =>
    intro i _ n hn
    have : n = e := by simpa [chPc] using hn
    omega
  | cons x l ih =>
    intro i hi n hn
    simp only [chPc, List.cons_append, List.mem_cons, Pc.num.injEq, reduceCtorEq, false_or] at hn
    simp only [List.length_cons] at hi
    rcases hn with h | h | h
    · omega
    · omega
    · exact ih (i + 1) (by omega) n h

theorem chWhl {D : Nat} (hD : D ≤ 8) (e : Nat) (he : e < 4294967296) : ∀ (l : List Nat) (i : Nat), i + l.length ≤ 1000 → WhlOk D (pcToks (chPc i l ++ [.num e]) ++ [tkEnd]) (chVal e i l : Int) [tkEnd] := by
  intro l
  induction l with
  | nil =>
    intro i _
    exact wE hD (oN D he _) (rE _ _ _)
  | cons x l ih =>
    intro i hi
    simp only [List.length_cons] at hi
    have h := ih (i + 1) (by omega)
    have hn : x % 3 < 4294967296 := by omega
    have c := WhlOk.choice (D := D) (ts := tkNum (x % 3) :: tkSg sQ :: tkNum (1000 + i) :: tkSg sCol :: (pcToks (chPc (i + 1) l ++ [.num e]) ++ [tkEnd])) hD (oN D hn _) ((RwsOk.stop (by first | exact .inl (by rw [sgn_tk]; decide) | exact .inr (by rw [sgn_tk]; decide))).le (Nat.zero_le D))
      (WhlOk.plain hD (oN D (n := 1000 + i) (by omega) _) ((RwsOk.stop (by first | exact .inl (by rw [sgn_tk]; decide) | exact .inr (by rw [sgn_tk]; decide))).le (Nat.zero_le D)) (by rw [sgn_tk]; decide)) h
    have hv : (if ((x % 3 : Nat) : Int) ≠ 0 then ((1000 + i : Nat) : Int) else (chVal e (i + 1) l : Int)) = (chVal e i (x :: l) : Int) := by
      have hc : chVal e i (x :: l) = if x % 3 ≠ 0 then 1000 + i else chVal e (i + 1) l := rfl
      rw [hc]
      by_cases h0 : x % 3 = 0
      · rw [if_neg (by omega), if_neg (by omega)]
      · rw [if_pos (by omega), if_pos h0]
    rw [hv] at c
    exact c

theorem ch_cmp (l : List Nat) (hl : l.length ≤ 30) (e : Nat) (he : e < 4294967296) : cmpV (B (pcTxt (chPc 0 l ++ [.num e]))) = ((chVal e 0 l : Int), 0) :=
  cmp_pc (D := 2) (chPc_ok e l 0) (chPc_num e (by omega) l 0 (by omega)) (by rw [List.length_append, chPc_length]; simp only [List.length_cons, List.length_nil]; omega) (by decide) (chWhl (by decide) e he l 0 (by omega))

theorem pcTxt_append : ∀ ps qs : List Pc, pcTxt (ps ++ qs) = pcTxt ps ++ pcTxt qs := by
  intro ps qs
  induction ps with
  | nil => rfl
  | cons p ps ih => simp only [List.cons_append, pcTxt, ih, List.append_assoc]

theorem bsz' (a : Array UInt8) : (⟨a⟩ : ByteArray).size = a.size := rfl

theorem at_nat (zs : List Int) (hz : ∀ n ∈ zs, 0 ≤ n ∧ n ≤ 255) (i : Nat) (h1 : i < zs.length) : ∃ X : Nat, zs.getD (i : Int).toNat 0 = X ∧ (zs.map Int.toNat).drop i = X :: (zs.map Int.toNat).drop (i + 1) ∧ X ≤ 255 := by
  have h2 : zs[i]? = some zs[i] := List.getElem?_eq_getElem h1
  have h3 := hz _ (List.getElem_mem h1)
  refine ⟨zs[i].toNat, ?_, ?_, by omega⟩
  · rw [List.getD_eq_getElem?_getD]
    show (zs[i]?).getD _ = _
    rw [h2, Option.getD_some]
    omega
  · rw [List.drop_eq_getElem_cons (by rw [List.length_map]; exact h1), List.getElem_map]

def saysChoices : Says := fun args H => match args, H with
  | [.c (.p (.l (.int .u8) zs)), .c (.p (.v (.int .u16 e)))], [] => some (some ((∀ n ∈ (zs : List Int), 0 ≤ n ∧ n ≤ 255) ∧ (0 ≤ e ∧ e ≤ 65535)), .bool true, [])
  | _, _ => none

def X54 : Table := ext X52 4 saysChoices

set_option maxHeartbeats 4000000 in
theorem x54 : TSound Tryd.prog X54 := by
  refine ext_run x52 (f := 4) (fn := Tryd.f4) rfl rfl [0, 1, 4, 5, 6, 7, 8, 9, 10, 11, 14, 18, 19, 20, 21, 43] fun args H p r H' hs hp => ?_
  unfold saysChoices at hs
  split at hs
  · rename_i zs e
    cases hs
    obtain ⟨hz, he⟩ := hp
    refine ⟨Nat.le_of_ble_eq_true rfl, [], rfl, fun k hk => absurd hk (Nat.not_lt_zero k), ?_⟩
    have ze := fmtV_size e
    conv => whnf
    refine cond_intro (fun h30 => ?_) (fun h30 => ?_)
    · conv => whnf
      exact ends_eq ⟨rfl, rfl⟩
    · have hlen : zs.length ≤ 30 := by have := of_decide_eq_false h30; omega
      repeat ((conv => whnf); refine ⟨by first | (unfold inI64; omega) | omega | exact ⟨by omega, by omega⟩ | (intro hg; first | (unfold inI64; omega) | omega | exact ⟨by omega, by omega⟩ | (simp [lit] at hg; unfold inI64; omega) | (simp [lit] at hg; omega) | (simp [lit] at hg; exact ⟨by omega, by omega⟩)) | (show (_ : Nat) + 1 ≤ 1000000000000; omega) | exact rfl | (unfold inI64; dsimp only; omega) | (dsimp only; omega) | (intro hg; simp [lit] at hg; first | (unfold inI64; dsimp only; omega) | (dsimp only; omega)) | decide +kernel, ?_⟩)
      conv => whnf
      obtain ⟨E, rfl⟩ : ∃ n : Nat, e = n := ⟨e.toNat, by omega⟩
      have hE : E < 4294967296 := by omega
      let zn := (zs : List Int).map Int.toNat
      have hzn : zn.length = zs.length := List.length_map ..
      have hall := ch_cmp zn (by omega) E hE
      have hsz : (pcTxt (chPc 0 zn ++ [.num E])).length ≤ 12489 := by
        have h1 := pcTxt_len _ (chPc_ok E zn 0)
        rw [List.length_append, chPc_length] at h1
        simp only [List.length_cons, List.length_nil] at h1
        omega
      refine loop_intro (σ := ByteArray × Int × Bool × Nat) (fun ⟨t, w, b, i⟩ => [(0, XV.s (.a (.c (.p (.l (.int .u8) zs))))), (1, XV.s (.a (.c (.p (.v (.int .u16 E)))))), (4, XV.s (.a (.c (.p (.v (.bool false)))))), (5, XV.s (.a (.c (.p (.v (.string t)))))), (6, XV.s (.a (.c (.p (.v (.int .i64 w)))))),
          (7, XV.s (.a (.c (.p (.v (.bool b)))))), (8, XV.s .none), (9, XV.s .none), (10, XV.s .none), (11, XV.s .none), (14, XV.s .none), (18, XV.s (.a (.c (.p (.l (.int .u8) zs))))), (19, XV.s (.a (.c (.p (.v (.int .i64 zs.length)))))), (20, XV.s (.a (.c (.p (.v (.int .i64 i)))))), (21, XV.s .none), (43, XV.s .none)])
        (fun _ => []) (fun ⟨t, w, b, i⟩ => i ≤ zs.length ∧ (∃ u : List UInt8, t = B u ∧ u ++ pcTxt (chPc i (zn.drop i) ++ [.num E]) = pcTxt (chPc 0 zn ++ [.num E])) ∧ (b = false → w = E) ∧ (if b then w else (chVal E i (zn.drop i) : Int)) = (chVal E 0 zn : Int))
        (fun ⟨_, _, _, i⟩ => zs.length - i) (B [], E, false, 0) ?_ ?_ ?_ ?_
      · repeat (first | exact LeL.nil | refine LeL.drop ?_ | refine LeL.same ?_)
      · rfl
      · exact ⟨Nat.zero_le _, ⟨[], rfl, rfl⟩, fun _ => rfl, rfl⟩
      · rintro ⟨t, w, b, i⟩ ⟨hi, ⟨u, rfl, hu⟩, hw, hv⟩
        have hul : u.length ≤ 12489 := by rw [← hu, List.length_append] at hsz; omega
        conv => whnf
        refine cond_intro (fun h => ?_) (fun h => ?_)
        · have h1 : i < zs.length := by have := of_decide_eq_true h; omega
          obtain ⟨X, hX, hX2, hX3⟩ := at_nat zs hz i h1
          change (zs : List Int).getD (i : Int).toNat (CT.int IntKind.u8).dflt = (X : Int) at hX
          have q1 : 0 ≤ Int.tmod ((zs : List Int).getD (i : Int).toNat (CT.int IntKind.u8).dflt) 3 ∧ Int.tmod ((zs : List Int).getD (i : Int).toNat (CT.int IntKind.u8).dflt) 3 ≤ 2 := by
            rw [hX]
            have : ((X : Int).tmod 3) = ((X % 3 : Nat) : Int) := rfl
            omega
          have q2 := fmtV_size (Int.tmod ((zs : List Int).getD (i : Int).toNat (CT.int IntKind.u8).dflt) 3)
          have q3 := fmtV_size (1000 + (i : Int))
          repeat ((conv => whnf); refine ⟨by first | (simp only [ByteArray.size_append, bsz', List.size_toArray, List.length_cons, List.length_nil]; omega) | (unfold inI64; omega) | omega | exact ⟨by omega, by omega⟩ | (intro hg; first | (unfold inI64; omega) | omega | exact ⟨by omega, by omega⟩ | (simp [lit] at hg; unfold inI64; omega) | (simp [lit] at hg; omega) | (simp [lit] at hg; exact ⟨by omega, by omega⟩)) | (show (_ : Nat) + 1 ≤ 1000000000000; omega) | exact rfl | (unfold inI64; dsimp only; omega) | (dsimp only; omega) | (intro hg; simp [lit] at hg; first | (unfold inI64; dsimp only; omega) | (dsimp only; omega)) | decide +kernel, ?_⟩)
          conv => whnf
          have hsp : u ++ pcTxt [.num (X % 3), .sp, .sg [63], .num (1000 + i), .sp, .sg [58]] ++ pcTxt (chPc (i + 1) (zn.drop (i + 1)) ++ [.num E]) = pcTxt (chPc 0 zn ++ [.num E]) := by
            rw [← hu, hX2, List.append_assoc, ← pcTxt_append]
            rfl
          have htx : B u ++ (fmtV (Int.tmod ((zs : List Int).getD (i : Int).toNat (CT.int IntKind.u8).dflt) 3) ++ ⟨#[32, 63, 32]⟩ ++ fmtV (1000 + (i : Int)) ++ ⟨#[32, 58, 32]⟩) = B (u ++ pcTxt [.num (X % 3), .sp, .sg [63], .num (1000 + i), .sp, .sg [58]]) := by
            have bs : ∀ l : List UInt8, (⟨l.toArray⟩ : ByteArray) = B l := fun _ => rfl
            have e3 : (X : Int).tmod 3 = ((X % 3 : Nat) : Int) := rfl
            have e4 : (1000 + (i : Int)) = ((1000 + i : Nat) : Int) := by omega
            rw [hX, e3, e4, fmtV_L (by omega) (by omega), fmtV_L (by omega) (by omega), Int.toNat_natCast, Int.toNat_natCast]
            simp [bs, B_append, pcTxt, Pc.txt, List.append_assoc]
          have hcv : (chVal E i (zn.drop i)) = if X % 3 ≠ 0 then 1000 + i else chVal E (i + 1) (zn.drop (i + 1)) := by rw [hX2]; rfl
          refine cond_intro (fun hc => ?_) (fun hc => ?_)
          · repeat ((conv => whnf); refine ⟨by first | (unfold inI64; omega) | omega | exact ⟨by omega, by omega⟩ | (intro hg; first | (unfold inI64; omega) | omega | exact ⟨by omega, by omega⟩ | (simp [lit] at hg; unfold inI64; omega) | (simp [lit] at hg; omega) | (simp [lit] at hg; exact ⟨by omega, by omega⟩)) | (show (_ : Nat) + 1 ≤ 1000000000000; omega) | exact rfl | (unfold inI64; dsimp only; omega) | (dsimp only; omega) | (intro hg; simp [lit] at hg; first | (unfold inI64; dsimp only; omega) | (dsimp only; omega)) | decide +kernel, ?_⟩)
            conv => whnf
            rw [htx]
            have hb : b = false := by cases b <;> simp at hc ⊢
            have h0 : X % 3 ≠ 0 := by
              rw [hX] at hc
              have e3 : (X : Int).tmod 3 = ((X % 3 : Nat) : Int) := rfl
              rw [e3] at hc
              intro h0
              rw [h0] at hc
              simp at hc
            refine head_intro (B (u ++ pcTxt [.num (X % 3), .sp, .sg [63], .num (1000 + i), .sp, .sg [58]]), 1000 + (i : Int), true, i + 1) ?_ ?_ ?_ ?_
            · repeat (first | exact LeL.nil | refine LeL.drop ?_ | refine LeL.same ?_)
            · rfl
            · refine ⟨h1, ⟨_, rfl, hsp⟩, (fun h => by cases h), ?_⟩
              rw [hb, hcv, if_pos h0] at hv
              have e4 : (1000 + (i : Int)) = ((1000 + i : Nat) : Int) := by omega
              rw [e4]
              exact hv
            · show zs.length - (i + 1) < zs.length - i
              omega
          · repeat ((conv => whnf); refine ⟨by first | (unfold inI64; omega) | omega | exact ⟨by omega, by omega⟩ | (intro hg; first | (unfold inI64; omega) | omega | exact ⟨by omega, by omega⟩ | (simp [lit] at hg; unfold inI64; omega) | (simp [lit] at hg; omega) | (simp [lit] at hg; exact ⟨by omega, by omega⟩)) | (show (_ : Nat) + 1 ≤ 1000000000000; omega) | exact rfl | (unfold inI64; dsimp only; omega) | (dsimp only; omega) | (intro hg; simp [lit] at hg; first | (unfold inI64; dsimp only; omega) | (dsimp only; omega)) | decide +kernel, ?_⟩)
            conv => whnf
            rw [htx]
            refine head_intro (B (u ++ pcTxt [.num (X % 3), .sp, .sg [63], .num (1000 + i), .sp, .sg [58]]), w, b, i + 1) ?_ ?_ ?_ ?_
            · repeat (first | exact LeL.nil | refine LeL.drop ?_ | refine LeL.same ?_)
            · rfl
            · refine ⟨h1, ⟨_, rfl, hsp⟩, hw, ?_⟩
              cases b with
              | true => exact hv
              | false =>
                have h0 : X % 3 = 0 := by
                  rw [hX] at hc
                  have e3 : (X : Int).tmod 3 = ((X % 3 : Nat) : Int) := rfl
                  rw [e3] at hc
                  simp at hc
                  omega
                have hv2 : ((chVal E i (zn.drop i) : Nat) : Int) = (chVal E 0 zn : Int) := hv
                rw [hcv, if_neg (fun h => h h0)] at hv2
                exact hv2
            · show zs.length - (i + 1) < zs.length - i
              omega
        · have h1 : i = zs.length := by have := of_decide_eq_false h; omega
          have hd : zn.drop i = [] := List.drop_eq_nil_of_le (by omega)
          rw [hd] at hu hv
          have htx : B u ++ fmtV (E : Int) = B (pcTxt (chPc 0 zn ++ [.num E])) := by
            rw [fmtV_L (by omega) (by omega), Int.toNat_natCast, B_append, ← hu]
            simp [chPc, pcTxt, Pc.txt]
          have hcm : cmpV (B u ++ fmtV (E : Int)) = (w, 0) := by
            rw [htx, hall]
            cases b with
            | true => rw [← hv]; rfl
            | false => rw [hw rfl, ← hv]; rfl
          repeat ((conv => whnf); refine ⟨by first | (simp only [bsz', List.size_toArray]; omega) | (unfold inI64; omega) | omega | exact ⟨by omega, by omega⟩ | (intro hg; first | (unfold inI64; omega) | omega | exact ⟨by omega, by omega⟩ | (simp [lit] at hg; unfold inI64; omega) | (simp [lit] at hg; omega) | (simp [lit] at hg; exact ⟨by omega, by omega⟩)) | (show (_ : Nat) + 1 ≤ 1000000000000; omega) | exact rfl | (unfold inI64; dsimp only; omega) | (dsimp only; omega) | (intro hg; simp [lit] at hg; first | (unfold inI64; dsimp only; omega) | (dsimp only; omega)) | decide +kernel, ?_⟩)
          conv => whnf
          rw [hcm]
          exact ends_eq ⟨by simp, rfl⟩
  · cases hs
end Go.Ab
