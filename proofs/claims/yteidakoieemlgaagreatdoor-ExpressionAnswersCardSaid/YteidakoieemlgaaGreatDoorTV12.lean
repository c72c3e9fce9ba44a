/- Numbers as text: Format. -/
import Derived.Test.YteidakoieemlgaaGreatDoorTV10toS1
import Derived.Test.YteidakoieemlgaaGreatDoorTS2toR11
namespace Go.Ab
open Go.Proofs
set_option linter.unusedSectionVars false
set_option maxRecDepth 100000

/-- One element of the table that counts trailing zeros. -/
class GlobX extends Glob where
  ht : (Var.mk 3 15 (.int .u8) (4 : Int)) ∈ vars

variable [GlobX]

theorem tz64 (w : World) (hc : w.cell? ⟨3, 15, none⟩ = some (.int .u8 4)) :
    Calls Tryz.prog 136 #[.int .u64 16] w fun e w' => e = .returned (.int .i64 4) ∧ w' = w := by
  have hi : IntKind.u64.wrap (bits BinOp.and IntKind.u64 16 (IntKind.u64.wrap (-16)) * 285870213051353865) / 288230376151711744 = 15 := by decide +kernel
  go_enter Tryz.func136, Tryz.ntmps136
  go_wp2
  go_ret
  exact ⟨rfl, rfl⟩

def saysU64 (g : Int → Option Prop × SV) : Says := fun args H => match args, H with
  | [.c (.p (.v (.int .u64 x)))], [] => some ((g x).1, (g x).2, [])
  | _, _ => none

def X42 : Table := ext X41 136 (saysU64 fun x => (some (x = 16), .int .i64 4))

theorem x42 : TSound Tryz.prog X42 := by
  refine ext_calls x41 136 (fn := Tryz.f136) rfl rfl rfl fun args H p r H' hs hp => ?_
  unfold saysU64 at hs
  split at hs
  · cases hs
    obtain rfl := hp
    refine ⟨rfl, fun G hS hH cargs ha => ?_⟩
    cases ha with
    | cons h1 t1 =>
      cases t1
      obtain ⟨_, rfl⟩ := h1
      obtain ⟨us, hu, hc⟩ := hS.vars _ GlobX.ht
      have hu' : us = [.int .u8 4] := hu
      subst hu'
      have := (hc 0 _ rfl).2
      exact ⟨_, ⟨rfl, rfl⟩, tz64 _ this⟩
  · cases hs

def X43 : Table := ext X42 104 (saysU64 fun x => (some (x = 16), .int .i64 4))

theorem x43 : TSound Tryz.prog X43 := by
  refine ext_run x42 (f := 104) (fn := Tryz.f104) rfl rfl [0, 2] fun args H p r H' hs hp => ?_
  unfold saysU64 at hs
  split at hs
  · cases hs
    obtain rfl := hp
    refine ⟨Nat.le_of_ble_eq_true rfl, [], rfl, fun k hk => absurd hk (Nat.not_lt_zero k), ?_⟩
    repeat ((conv => whnf); refine ⟨by first | (unfold inI64; omega) | omega | exact ⟨by omega, by omega⟩ | (intro hg; first | (unfold inI64; omega) | omega | exact ⟨by omega, by omega⟩ | (simp [lit] at hg; unfold inI64; omega) | (simp [lit] at hg; omega) | (simp [lit] at hg; exact ⟨by omega, by omega⟩)) | (show (_ : Nat) + 1 ≤ 1000000000000; omega) | exact rfl | (unfold inI64; dsimp only; omega) | (dsimp only; omega) | (intro hg; simp [lit] at hg; first | (unfold inI64; dsimp only; omega) | (dsimp only; omega)) | decide +kernel, ?_⟩)
    conv => whnf
    exact ends_eq ⟨rfl, rfl⟩
  · cases hs

def X44 : Table := ext X43 103 (saysI fun x => (some (x = 16), .bool true))

theorem x44 : TSound Tryz.prog X44 := by
  refine extI x43 103 (fn := Tryz.f103) rfl rfl (by decide) _ [0, 2] fun x hx => ?_
  obtain rfl : x = 16 := hx
  repeat ((conv => whnf); refine ⟨by first | (unfold inI64; omega) | omega | exact ⟨by omega, by omega⟩ | (intro hg; first | (unfold inI64; omega) | omega | exact ⟨by omega, by omega⟩ | (simp [lit] at hg; unfold inI64; omega) | (simp [lit] at hg; omega) | (simp [lit] at hg; exact ⟨by omega, by omega⟩)) | (show (_ : Nat) + 1 ≤ 1000000000000; omega) | exact rfl | (unfold inI64; dsimp only; omega) | (dsimp only; omega) | (intro hg; simp [lit] at hg; first | (unfold inI64; dsimp only; omega) | (dsimp only; omega)) | decide +kernel, ?_⟩)
  conv => whnf
  refine ends_eq ⟨?_, rfl⟩
  rfl

/-! Digits. -/
def hexG (k u : Nat) (out : List UInt8) : List UInt8 := basedL (digL false) 16 k (u / 16) ((digL false).getD (u % 16) 0 :: out)

theorem hexG_step (k u : Nat) (out : List UInt8) (h : 16 ≤ u) : hexG (k + 1) u out = hexG k (u / 16) ((digL false).getD (u % 16) 0 :: out) := by
  unfold hexG
  simp only [basedL]
  rw [if_neg (by omega)]
theorem hexG_end (k u : Nat) (out : List UInt8) (h : u < 16) : hexG k u out = (digL false).getD u 0 :: out := by
  unfold hexG
  rw [show u / 16 = 0 from by omega, show u % 16 = u from by omega]
  cases k <;> simp [basedL]

def zsOf (out : List UInt8) : List Int := List.replicate (65 - out.length) 0 ++ out.map fun u : UInt8 => ((u.toNat : Nat) : Int)

theorem zsOf_set (out : List UInt8) (d : UInt8) (h : out.length < 65) : (zsOf out).set (64 - out.length) ((d.toNat : Nat) : Int) = zsOf (d :: out) := by
  unfold zsOf
  obtain ⟨n, hn⟩ : ∃ n, 65 - out.length = n + 1 := ⟨64 - out.length, by omega⟩
  rw [hn, show 64 - out.length = n from by omega, show 65 - (d :: out).length = n from by simp; omega]
  rw [List.set_append_left _ _ (by simp)]
  rw [List.replicate_succ', List.set_append_right _ _ (by simp)]
  simp

theorem zsOf_len (out : List UInt8) (h : out.length ≤ 65) : (zsOf out).length = 65 := by
  unfold zsOf
  simp; omega

theorem zsOf_drop (out : List UInt8) (_h : out.length ≤ 65) : (zsOf out).drop (65 - out.length) = out.map fun u : UInt8 => ((u.toNat : Nat) : Int) := by
  unfold zsOf
  rw [List.drop_append_of_le_length (by simp)]
  simp

def hexS : ByteArray := ⟨#[48, 49, 50, 51, 52, 53, 54, 55, 56, 57, 97, 98, 99, 100, 101, 102, 103, 104, 105, 106, 107, 108, 109, 110, 111, 112, 113, 114, 115, 116, 117, 118, 119, 120, 121, 122]⟩

theorem hex_at : ∀ i : Fin 16, byteAt hexS (i.val : Nat) = ((((digL false).getD i.val 0).toNat : Nat) : Int) := by decide +kernel

theorem and15 (u : Nat) (h : u ≤ 4294967295) : bitsA .and .u64 (u : Int) 15 = ((u % 16 : Nat) : Int) := by
  have hu : u < 2 ^ 64 := by omega
  unfold bitsA
  have e1 : (BitVec.ofInt 64 (u : Int) &&& BitVec.ofInt 64 15).toNat = u % 16 := by
    rw [BitVec.toNat_and]
    have a1 : (BitVec.ofInt 64 (u : Int)).toNat = u := by
      simp
      omega
    have a2 : (BitVec.ofInt 64 15).toNat = 15 := by decide
    rw [a1, a2]
    exact Nat.and_two_pow_sub_one_eq_mod u 4
  show IntKind.u64.wrap (((BitVec.ofInt 64 (u : Int) &&& BitVec.ofInt 64 15).toNat : Nat) : Int) = _
  rw [e1]
  unfold IntKind.wrap
  simp only [IntKind.signed, IntKind.bits]
  simp
  omega

theorem bytes_nat (l : List UInt8) : bytesOf (l.map fun u : UInt8 => ((u.toNat : Nat) : Int)) = B l := by
  unfold bytesOf
  rw [List.map_map]
  have : ((fun n : Int => UInt8.ofNat n.toNat) ∘ fun u : UInt8 => ((u.toNat : Nat) : Int)) = id := by
    funext u
    simp
  rw [this, List.map_id]

def saysBits : Says := fun args H => match args, H with
  | [.c (.p (.v (.slice none 0 0))), .c (.p (.v (.int .u64 n))), .c (.p (.v (.int .i64 b))), .c (.p (.v (.bool x))), .c (.p (.v (.bool y)))], [] => some (some (0 ≤ n ∧ n ≤ 4294967295 ∧ b = 16 ∧ x = false ∧ y = false), .tup [.c (.p (.v (.slice none 0 0))), .c (.str (B (basedV false 16 n.toNat)))], [])
  | _, _ => none

def X45 : Table := ext X44 82 saysBits

theorem x45 : TSound Tryz.prog X45 := by
  refine ext_run x44 (f := 82) (fn := Tryz.f82) rfl rfl [0, 1, 2, 3, 4, 10, 11, 12, 13, 14, 15, 16, 17, 18, 28, 30, 34, 46, 68, 89, 94] fun args H p r H' hs hp => ?_
  unfold saysBits at hs
  split at hs
  · rename_i n b x y
    cases hs
    obtain ⟨h0, h1, rfl, rfl, rfl⟩ := hp
    obtain ⟨n, rfl⟩ : ∃ m : Nat, n = m := ⟨n.toNat, by omega⟩
    refine ⟨Nat.le_of_ble_eq_true rfl, [], rfl, fun k hk => absurd hk (Nat.not_lt_zero k), ?_⟩
    repeat ((conv => whnf); refine ⟨by first | exact rfl | (unfold inI64; omega) | omega | exact ⟨by omega, by omega⟩ | (intro hg; first | (unfold inI64; omega) | omega | exact ⟨by omega, by omega⟩ | (simp [lit] at hg; unfold inI64; omega) | (simp [lit] at hg; omega) | (simp [lit] at hg; exact ⟨by omega, by omega⟩)) | (show (_ : Nat) + 1 ≤ 1000000000000; omega) | exact rfl | (unfold inI64; dsimp only; omega) | (dsimp only; omega) | (intro hg; simp [lit] at hg; first | (unfold inI64; dsimp only; omega) | (dsimp only; omega)) | decide +kernel, ?_⟩)
    conv => whnf
    refine loop_intro (σ := List UInt8 × Nat × Int × Int) (fun ⟨_, _, i, x⟩ => [(0, XV.s (.v (.slice none 0 0))), (1, XV.s (.int .u64 x)), (2, XV.s .none), (3, XV.s (.bool false)), (4, XV.s (.bool false)), (10, XV.s (.v (.slice none 0 0))), (11, XV.s (SV.str ⟨#[]⟩)), (12, XV.s (.a (.c (.ep 0 (.int .u8) 0 0 0)))),
      (13, XV.s (.int .i64 i)), (14, XV.s (.int .u64 4)), (15, XV.s (.int .u64 16)), (16, XV.s (.int .u64 15)), (17, XV.s .none), (18, XV.s .none), (28, XV.s .none), (30, XV.s .none), (34, XV.s .none), (46, XV.s .none), (68, XV.s .none), (89, XV.s .none), (94, XV.s .none)])
      (fun ⟨out, _, _, _⟩ => [.arr 121 (.int .u8) (zsOf out) 0]) (fun ⟨out, u, i, x⟩ => x = u ∧ i = ((65 - out.length : Nat) : Int) ∧ u * 16 ^ out.length ≤ n ∧ hexG (64 - out.length) u out = basedV false 16 n ∧ out.length ≤ 8 ∧ u ≤ 4294967295) (fun ⟨_, u, _, _⟩ => u) ([], n, 65, n) ?_ rfl ?_ fun ⟨out, u, i, x⟩ hI => ?_
    · repeat (first | exact LeL.nil | refine LeL.drop ?_ | refine LeL.same ?_)
    · exact ⟨rfl, rfl, by simp, rfl, by simp, by omega⟩
    obtain ⟨rfl, rfl, g1, g2, g3, g4⟩ := hI
    have hb15 := and15 u g4
    have hzl := zsOf_len out (by omega)
    have hl : (((65 - out.length : Nat) : Int) - 1).toNat = 64 - out.length := by omega
    repeat ((conv => whnf); refine ⟨by first | (unfold inI64; omega) | omega | exact ⟨by omega, by omega⟩ | (intro hg; first | (unfold inI64; omega) | omega | exact ⟨by omega, by omega⟩ | (simp [lit] at hg; unfold inI64; omega) | (simp [lit] at hg; omega) | (simp [lit] at hg; exact ⟨by omega, by omega⟩)) | (show (_ : Nat) + 1 ≤ 1000000000000; omega) | exact rfl | (unfold inI64; dsimp only; omega) | (dsimp only; omega) | (intro hg; simp [lit] at hg; first | (unfold inI64; dsimp only; omega) | (dsimp only; omega)) | decide +kernel, ?_⟩)
    conv => whnf
    refine cond_intro (fun h => ?_) (fun h => ?_)
    · have hu : 16 ≤ u := by have : (16 : Int) ≤ (u : Int) := of_decide_eq_true h
                             omega
      have g5 : out.length ≤ 7 := by
        refine Nat.le_of_not_lt fun hlt => ?_
        have e8 : out.length = 8 := by omega
        rw [e8] at g1
        omega
      have hd := hex_at ⟨u % 16, by omega⟩
      repeat ((conv => whnf); refine ⟨by first | (rw [hb15]; exact ⟨by omega, (show ((u % 16 : Nat) : Int) < 36 by omega)⟩) | exact ⟨rfl, by omega, by omega, (show 65 ≤ (zsOf out).length by omega)⟩ | (unfold inI64; omega) | omega | exact ⟨by omega, by omega⟩ | (intro hg; first | (unfold inI64; omega) | omega | exact ⟨by omega, by omega⟩ | (simp [lit] at hg; unfold inI64; omega) | (simp [lit] at hg; omega) | (simp [lit] at hg; exact ⟨by omega, by omega⟩)) | (show (_ : Nat) + 1 ≤ 1000000000000; omega) | exact rfl | (unfold inI64; dsimp only; omega) | (dsimp only; omega) | (intro hg; simp [lit] at hg; first | (unfold inI64; dsimp only; omega) | (dsimp only; omega)) | decide +kernel, ?_⟩)
      conv => whnf
      refine head_intro ((digL false).getD (u % 16) 0 :: out, u / 16, ((65 - out.length : Nat) : Int) - 1, (u : Int).fdiv (2 ^ min (4 : Int).toNat 64)) ?_ ?_ ?_ ?_
      · repeat (first | exact LeL.nil | refine LeL.drop ?_ | refine LeL.same ?_)
      · show [AO.arr 121 (.int .u8) ((zsOf out).set (((65 - out.length : Nat) : Int) - 1).toNat (byteAt hexS (bitsA .and .u64 (u : Int) 15))) 0] = [AO.arr 121 (.int .u8) (zsOf ((digL false).getD (u % 16) 0 :: out)) 0]
        rw [hl, hb15, hd, zsOf_set _ _ (by omega)]
      · refine ⟨(show (u : Int).fdiv 16 = ((u / 16 : Nat) : Int) by rw [Int.fdiv_eq_ediv_of_nonneg _ (by decide)]; omega), ?_, ?_, ?_, ?_, ?_⟩
        · simp only [List.length_cons]
          omega
        · simp only [List.length_cons, Nat.pow_succ]
          have e1 : u / 16 * (16 ^ out.length * 16) = (u / 16 * 16) * 16 ^ out.length := by
            rw [Nat.mul_comm (16 ^ out.length) 16, Nat.mul_assoc]
          rw [e1]
          exact Nat.le_trans (Nat.mul_le_mul_right _ (Nat.div_mul_le_self u 16)) g1
        · rw [← g2, show 64 - out.length = (64 - ((digL false).getD (u % 16) 0 :: out).length) + 1 from by simp only [List.length_cons]; omega, hexG_step _ _ _ hu]
        · simp only [List.length_cons]
          omega
        · omega
      · show u / 16 < u
        omega
    · have hu : u < 16 := by have : ¬ (16 : Int) ≤ (u : Int) := of_decide_eq_false h
                             omega
      have hd := hex_at ⟨u, hu⟩
      repeat ((conv => whnf); refine ⟨by first | exact ⟨by omega, (show ((u : Nat) : Int) < 36 by omega)⟩ | exact ⟨rfl, by omega, by omega, (show 65 ≤ (zsOf out).length by omega)⟩ | exact ⟨rfl, by omega, by omega, by rw [List.length_set]; exact hzl.symm⟩ | (unfold inI64; omega) | omega | exact ⟨by omega, by omega⟩ | (intro hg; first | (unfold inI64; omega) | omega | exact ⟨by omega, by omega⟩ | (simp [lit] at hg; unfold inI64; omega) | (simp [lit] at hg; omega) | (simp [lit] at hg; exact ⟨by omega, by omega⟩)) | (show (_ : Nat) + 1 ≤ 1000000000000; omega) | exact rfl | (unfold inI64; dsimp only; omega) | (dsimp only; omega) | (intro hg; simp [lit] at hg; first | (unfold inI64; dsimp only; omega) | (dsimp only; omega)) | decide +kernel, ?_⟩)
      conv => whnf
      refine ends_eq ⟨?_, rfl⟩
      show SV.tup [_, .c (.str (bytesOf (((zsOf out).set (((65 - out.length : Nat) : Int) - 1).toNat (byteAt hexS ((u : Nat) : Int))).drop (((65 - out.length : Nat) : Int) - 1).toNat)))] = SV.tup [_, .c (.str (B (basedV false 16 n)))]
      rw [hl, hd, zsOf_set _ _ (by omega), show 64 - out.length = 65 - ((digL false).getD u 0 :: out).length from by simp only [List.length_cons]; omega, zsOf_drop _ (by simp only [List.length_cons]; omega), bytes_nat, ← g2, hexG_end _ _ _ hu]
  · cases hs
end Go.Ab
