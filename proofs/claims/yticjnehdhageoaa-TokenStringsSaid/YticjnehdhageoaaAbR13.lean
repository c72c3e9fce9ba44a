/- The law of strings. -/
import Derived.Test.YticjnehdhageoaaAbS4
namespace Go.Ab
open Go.Proofs
set_option linter.unusedSectionVars false
set_option maxRecDepth 100000
variable [Glob]

def T54 : Table := ext T52 8 (fun args H => match args, H with | [.c (.p (.v (.string _))), .c (.p (.v (.bool _)))], [] => some (none, .bool true, []) | _, _ => none)

theorem t54 : TSound Try.prog T54 := by
  refine ext_run t52 (f := 8) (fn := Try.f8) rfl rfl [0,1,4,5,6,7,8,9,10,11,14,19,41] fun args H p r H' hs hp => ?_
  split at hs
  · rename_i s b
    cases hs
    refine ⟨by show 2 ≤ _; decide, [], rfl, fun k hk => absurd hk (Nat.not_lt_zero k), ?_⟩
    obtain ⟨raw, rfl⟩ : ∃ raw, s = B raw := ⟨s.data.toList, rfl⟩
    conv => whnf
    refine cond_intro (fun h => ?_) (fun h => ?_)
    · conv => whnf
      exact ends_eq ⟨rfl, rfl⟩
    have hsz : raw.length ≤ 200 := by
      have : ¬ ((200 : Int) < (B raw).size) := of_decide_eq_false h
      rw [B_size] at this
      omega
    conv => whnf
    refine loop_intro (σ := Nat × List UInt8) (fun ⟨i, t⟩ => [(0, XV.s (SV.str (B raw))), (1, XV.s (.bool b)), (4, XV.s (.bool false)), (5, XV.s (SV.str (B t))), (6, XV.s (.int .i64 i)), (7, XV.s .none), (8, XV.s .none), (9, XV.s .none), (10, XV.s .none), (11, XV.s .none), (14, XV.s .none), (19, XV.s .none), (41, XV.s .none)]) (fun _ => [])
      (fun ⟨i, t⟩ => i ≤ raw.length ∧ t.length ≤ 3 + 4 * i ∧ t ++ encL b i (raw.drop i) = [120, 32, 34] ++ encL b 0 raw) (fun ⟨i, _⟩ => raw.length - i) (0, [120, 32, 34]) ?_ rfl ?_ fun ⟨i, t⟩ hI => ?_
    · repeat (first | exact LeL.nil | refine LeL.drop ?_ | refine LeL.same ?_)
    · exact ⟨Nat.zero_le _, by simp, by simp⟩
    obtain ⟨hi, ht, hgo⟩ := hI
    conv => whnf
    refine cond_intro (fun h2 => ?_) (fun h2 => ?_)
    · have hlt : i < raw.length := by have : (i : Int) < (B raw).size := of_decide_eq_true h2
                                      rw [B_size] at this
                                      omega
      obtain ⟨c, r, hdr⟩ : ∃ c r, raw.drop i = c :: r := ⟨_, _, List.drop_eq_getElem_cons hlt⟩
      have hr : raw.drop (i + 1) = r := by rw [← List.drop_drop, hdr]; rfl
      have hb : byteAt (B raw) (i : Int) = bi c := by
        rw [byteAt_B, List.getD_eq_getElem?_getD]
        have : raw[i]? = some c := by
          have h3 := List.getElem?_drop (xs := raw) (i := i) (j := 0)
          rw [hdr] at h3
          simpa using h3.symm
        rw [this]
        rfl
      rw [hdr] at hgo
      simp only [encL] at hgo
      conv => whnf
      refine ⟨⟨by omega, by rw [B_size]; omega⟩, ?_⟩
      conv => whnf
      refine cond_intro (fun h3 => ?_) (fun h3 => ?_)
      · conv => whnf
        refine ⟨by unfold inI64; omega, ?_⟩
        have hsl : (B raw).extract (i : Int).toNat ((i : Int) + 1).toNat = B [c] := by
          have h4 := piece1 raw i hlt
          rw [show ((i : Int)).toNat = i from rfl, show ((i : Int) + 1).toNat = i + 1 by omega, h4]
          rw [byteAt_B] at hb
          have h5 : raw.getD i 0 = c := by
            apply UInt8.toNat_inj.1
            exact_mod_cast hb
          rw [h5]
        have henc : encB b i c = [c] := by
          unfold encB
          rw [if_pos]
          rw [← hb]
          exact h3
        rw [henc] at hgo
        conv => whnf
        refine ⟨⟨by omega, by omega, by rw [B_size]; omega⟩, ?_⟩
        conv => whnf
        refine ⟨?_, ?_⟩
        · show ((t.length + ((B raw).extract (i : Int).toNat ((i : Int) + 1).toNat).size : Nat) : Int) ≤ _
          rw [hsl, B_size]
          simp only [List.length_cons, List.length_nil]
          omega
        conv => whnf
        refine ⟨by unfold inI64; omega, ?_⟩
        conv => whnf
        refine head_intro (i + 1, t ++ [c]) ?_ rfl ?_ ?_
        · repeat (first | exact LeL.nil | refine LeL.drop ?_ | refine LeL.same ?_ | refine LeL.eq (congrArg (fun x => XV.s (SV.str x)) (by rw [hsl, B_append])) ?_)
        · refine ⟨hlt, by simp only [List.length_append, List.length_cons, List.length_nil]; omega, ?_⟩
          rw [hr, List.append_assoc]
          exact hgo
        · show raw.length - (i + 1) < raw.length - i
          omega
      · have henc : encB b i c = 92 :: 120 :: (basedV (evenB i) 16 (c.toNat + 256)).drop 1 := by
          unfold encB
          rw [if_neg]
          rw [← hb]
          intro h4
          have h4' : plainB b (byteAt (B raw) (i : Int)) = true := h4
          have h3' : plainB b (byteAt (B raw) (i : Int)) = false := h3
          rw [h3'] at h4'
          cases h4'
        rw [henc] at hgo
        have hcl := c.toNat_lt
        have hv : (byteAt (B raw) (i : Int) + 256).toNat = c.toNat + 256 := by rw [hb]; show ((c.toNat : Int) + 256).toNat = _; omega
        have hbl := basedV_len (evenB i) 16 (c.toNat + 256)
        have hbn := basedV_ne (evenB i) 16 (c.toNat + 256)
        have hbp : 0 < (basedV (evenB i) 16 (c.toNat + 256)).length := List.length_pos_iff.2 hbn
        have hl2 : ((basedV (evenB i) 16 (c.toNat + 256)).drop 1).length = 2 := by
          rw [show (basedV (evenB i) 16 (c.toNat + 256)).drop 1 = _ from based_two (evenB i) ⟨c.toNat, c.toNat_lt⟩]; rfl
        have hdt : (B (basedV (evenB i) (16 : Int).toNat (byteAt (B raw) (i : Int) + 256).toNat)).extract (1 : Int).toNat ((B (basedV (evenB i) (16 : Int).toNat (byteAt (B raw) (i : Int) + 256).toNat)).size : Int).toNat = B ((basedV (evenB i) 16 (c.toNat + 256)).drop 1) := by
          rw [hv, B_extract, B_size, Int.toNat_natCast, List.take_of_length_le (Nat.le_refl _)]
          rfl
        conv => whnf
        refine ⟨by rw [hb]; show inI64 (c.toNat : Int); unfold inI64; omega, ?_⟩
        conv => whnf
        refine ⟨by rw [hb]; show inI64 ((c.toNat : Int) + 256); unfold inI64; omega, ?_⟩
        conv => whnf
        refine ⟨by decide, ?_⟩
        conv => whnf
        refine ⟨⟨by rw [hb]; show 0 ≤ ((c.toNat : Int) + 256); omega, by rw [hb]; show ((c.toNat : Int) + 256) ≤ _; omega, by decide, by decide⟩, ?_⟩
        conv => whnf
        refine ⟨⟨by decide, ?_, ?_⟩, ?_⟩
        · show (1 : Int) ≤ ((basedV (evenB i) (16 : Int).toNat (byteAt (B raw) (i : Int) + 256).toNat).length : Nat)
          rw [hv]
          show (1 : Int) ≤ ((basedV (evenB i) 16 (c.toNat + 256)).length : Nat)
          omega
        · exact Int.le_refl _
        conv => whnf
        refine ⟨?_, ?_⟩
        · show ((2 + ((B (basedV (evenB i) (16 : Int).toNat (byteAt (B raw) (i : Int) + 256).toNat)).extract (1 : Int).toNat ((B (basedV (evenB i) (16 : Int).toNat (byteAt (B raw) (i : Int) + 256).toNat)).size : Int).toNat).size : Nat) : Int) ≤ _
          rw [hdt, B_size, hl2]
          decide
        conv => whnf
        have happ : (⟨#[92, 120]⟩ : ByteArray) ++ (B (basedV (evenB i) (16 : Int).toNat (byteAt (B raw) (i : Int) + 256).toNat)).extract (1 : Int).toNat ((B (basedV (evenB i) (16 : Int).toNat (byteAt (B raw) (i : Int) + 256).toNat)).size : Int).toNat = B (92 :: 120 :: (basedV (evenB i) 16 (c.toNat + 256)).drop 1) := by
          rw [hdt, show (⟨#[92, 120]⟩ : ByteArray) = B [92, 120] from rfl, B_append]
          rfl
        refine ⟨?_, ?_⟩
        · show ((t.length + ((⟨#[92, 120]⟩ : ByteArray) ++ (B (basedV (evenB i) (16 : Int).toNat (byteAt (B raw) (i : Int) + 256).toNat)).extract (1 : Int).toNat ((B (basedV (evenB i) (16 : Int).toNat (byteAt (B raw) (i : Int) + 256).toNat)).size : Int).toNat).size : Nat) : Int) ≤ _
          rw [happ, B_size]
          simp only [List.length_cons, hl2]
          omega
        conv => whnf
        refine ⟨by unfold inI64; omega, ?_⟩
        conv => whnf
        refine head_intro (i + 1, t ++ 92 :: 120 :: (basedV (evenB i) 16 (c.toNat + 256)).drop 1) ?_ rfl ?_ ?_
        · repeat (first | exact LeL.nil | refine LeL.drop ?_ | refine LeL.same ?_ | refine LeL.eq (congrArg (fun x => XV.s (SV.str x)) (by rw [← B_append, ← happ]; rfl)) ?_)
        · refine ⟨hlt, by simp only [List.length_append, List.length_cons, hl2]; omega, ?_⟩
          rw [hr, List.append_assoc]
          exact hgo
        · show raw.length - (i + 1) < raw.length - i
          omega
    · have hie : i = raw.length := by have : ¬ (i : Int) < (B raw).size := of_decide_eq_false h2
                                      rw [B_size] at this
                                      omega
      rw [hie, List.drop_length] at hgo
      simp only [encL, List.append_nil] at hgo
      conv => whnf
      refine ⟨?_, ?_⟩
      · show ((t.length + 2 : Nat) : Int) ≤ _
        omega
      conv => whnf
      obtain ⟨x1, x2, x3, hrd⟩ := read_string b raw hsz
      have htx : B t ++ (⟨#[34, 59]⟩ : ByteArray) = B (strText b raw) := by
        rw [show (⟨#[34, 59]⟩ : ByteArray) = B [34, 59] from rfl, B_append, hgo]
        rfl
      have hlen : (readV (B t ++ (⟨#[34, 59]⟩ : ByteArray)) 0).toks.length = 4 := by rw [htx, hrd]; rfl
      refine ⟨fun _ => ⟨by omega, by rw [hlen]; decide⟩, ?_⟩
      conv => whnf
      refine ⟨fun _ => ⟨by omega, by rw [hlen]; decide⟩, ?_⟩
      conv => whnf
      refine ends_eq ⟨?_, rfl⟩
      rw [htx, hrd]
      simp
  · cases hs
end Go.Ab
