/- Package blob: reading the root alone: names, nodes. -/
import Derived.Test.YtnlifjljmbfomaaTY154toY157
namespace Go.Ab
open Go.Proofs
set_option linter.unusedSectionVars false
set_option maxRecDepth 100000
variable [Base]

/-- An empty text stands there. -/
structure ZrOk (b : List Int) (a : Int) : Prop where
  num : NumOk b a
  al : 4 ∣ a.toNat
  z : ∀ i, i < 4 → b.getD (a.toNat + i) 0 = 0
def saysPad : Says := fun args H => match args, H with
  | [.c (.ptr 0 0), .c (.p (.v (.int .i64 l))), .c (.p (.v (.int .i64 z)))], [.row [.p (.l (.int .u8) b), .p (.v (.int .i64 a)), .p (.v (.string nm)), .p (.v (.slice none 0 0)), .p (.v (.int .i64 op)), .p (.v (.int .i64 lv)), .p (.v (.int .i64 pl)), .p (.v (.int .i64 e))]] => some (some (l = 0 ∧ z = 1 ∧ ZrOk b a), .tup [.c (.str (bytesOf ((b.take a.toNat).drop a.toNat))), .c (.bool true)], hqN b (a + 4) nm op lv pl e)
  | _, _ => none
def BA14 : Table := ext BA13 81 saysPad
theorem bA14 : TSound Try.prog BA14 := by
  refine ext_run bA13 (f := 81) (fn := Try.f81) rfl rfl [0, 1, 2, 6, 7, 8, 9, 11, 38, 55, 56, 57, 58, 62] fun args H p r H' hs hp => ?_
  unfold saysPad at hs
  split at hs
  · rename_i l z b a nm op lv pl e
    cases hs
    obtain ⟨rfl, rfl, hz⟩ := hp
    have h0 := hz.num.ge
    have h1 := hz.num.le
    have h2 := hz.num.len
    have h4 := hz.al
    refine ⟨Nat.le_of_ble_eq_true rfl, [0], rfl, id0, ?_⟩
    obtain ⟨a, rfl⟩ : ∃ k : Nat, a = k := ⟨a.toNat, by omega⟩
    rw [Int.toNat_natCast] at h4
    have hq : [AV.c (.int .i64 ((a : Int) + 0 + 1))] = eaI1 ((a : Int) + 0 + 1) ∧ (0 ≤ (a : Int) + 0 + 1 ∧ (a : Int) + 0 + 1 ≤ 1000000000000) := ⟨rfl, by omega, by omega⟩
    have ha4 : ((alN ((a : Int) + 0 + 1).toNat : Nat) : Int) = (a : Int) + 4 := by
      rw [show ((a : Int) + 0 + 1).toNat = a + 1 by omega, al_add h4]
      show (((a + 4 : Nat)) : Int) = _
      omega
    repeat ((conv => whnf); refine ⟨by first | exact hq | ((conv => whnf); exact ⟨⟨rfl, rfl, rfl⟩, trivial⟩) | exact Early.one (by decide +kernel) (by (conv => whnf); exact ⟨rfl, rfl, rfl⟩) trivial | (unfold inI64; omega) | omega | exact ⟨by omega, by omega⟩ | exact rfl | decide +kernel, ?_⟩)
    conv => whnf
    rw [ha4]
    refine cond_intro (fun h => ?_) (fun h => ?_)
    · exfalso
      have : (b.length : Int) < (a : Int) + 4 := of_decide_eq_true h
      omega
    have hb1 : 0 ≤ (a : Int) + 0 ∧ (a : Int) + 0 ≤ (a : Int) + 4 ∧ (a : Int) + 4 ≤ (b.length : Nat) := by omega
    have hb2 : 0 ≤ (a : Int) ∧ (a : Int) ≤ (a : Int) + 0 ∧ (a : Int) + 0 ≤ (b.length : Nat) := by omega
    repeat ((conv => whnf); refine ⟨by first | exact hb1 | ((conv => whnf); exact ⟨⟨rfl, rfl, rfl⟩, trivial⟩) | exact Early.one (by decide +kernel) (by (conv => whnf); exact ⟨rfl, rfl, rfl⟩) trivial | (unfold inI64; omega) | omega | exact ⟨by omega, by omega⟩ | exact rfl | decide +kernel, ?_⟩)
    conv => whnf
    obtain ⟨l, hl⟩ : ∃ l, (b.take ((a : Int) + 4).toNat).drop ((a : Int) + 0).toNat = l := ⟨_, rfl⟩
    have hll : l.length = 4 := by rw [← hl, List.length_drop, List.length_take]; omega
    have hlz : ∀ i, i < 4 → l.getD i 0 = 0 := fun i hi => by
      have := hz.z i hi
      rw [Int.toNat_natCast] at this
      rw [← hl, List.getD_eq_getElem?_getD, List.getElem?_drop, show ((a : Int) + 0).toNat = a by omega, show ((a : Int) + 4).toNat = a + 4 by omega, List.getElem?_take, if_pos (by omega), ← List.getD_eq_getElem?_getD]
      exact this
    rw [hl]
    refine loop_intro (σ := Nat) (fun i => [(0, XV.s (.a (.c (.ptr 0 0)))), (1, XV.s .none), (2, XV.s .none), (6, XV.s .none), (7, XV.s .none), (8, XV.s (.int .i64 (a : Nat))), (9, XV.s (.int .i64 ((a : Int) + 0))), (11, XV.s .none), (38, XV.s .none), (55, XV.s (.a (.c (.p (.l (.int .u8) l))))), (56, XV.s (.int .i64 (l.length : Nat))), (57, XV.s (.int .i64 (i : Nat))), (58, XV.s .none), (62, XV.s .none)])
      (fun _ => hqN b ((a : Int) + 4) nm op lv pl e) (fun i => i ≤ l.length) (fun i => l.length - i) 0 ?_ rfl (Nat.zero_le _) (fun i hi => ?_)
    · repeat (first | exact LeL.nil | refine LeL.drop ?_ | refine LeL.same ?_)
    repeat ((conv => whnf); refine ⟨by first | (unfold inI64; omega) | omega | exact ⟨by omega, by omega⟩ | exact rfl | decide +kernel, ?_⟩)
    conv => whnf
    refine cond_intro (fun h5 => ?_) (fun h5 => ?_)
    · have hlt : i < l.length := lt_of_dec h5
      have hin : 0 ≤ (i : Int) ∧ (i : Int) < (l.length : Nat) := by omega
      have hi0 : l.getD ((i : Int)).toNat (CT.int IntKind.u8).dflt = (0 : Int) := hlz i (by omega)
      repeat ((conv => whnf); refine ⟨by first | exact hin | (unfold inI64; omega) | omega | exact ⟨by omega, by omega⟩ | exact rfl | decide +kernel, ?_⟩)
      conv => whnf
      rw [hi0]
      repeat ((conv => whnf); refine ⟨by first | (unfold inI64; omega) | omega | exact ⟨by omega, by omega⟩ | exact rfl | decide +kernel, ?_⟩)
      conv => whnf
      refine head_intro (i + 1) ?_ rfl hlt (by omega)
      repeat (first | exact LeL.nil | refine LeL.drop ?_ | refine LeL.same ?_)
    · repeat ((conv => whnf); refine ⟨by first | exact hb2 | (unfold inI64; omega) | omega | exact ⟨by omega, by omega⟩ | exact rfl | decide +kernel, ?_⟩)
      conv => whnf
      refine ends_eq ⟨?_, rfl⟩
      show SV.tup [AV.c (.str (bytesOf ((b.take ((a : Int) + 0).toNat).drop ((a : Int)).toNat))), _] = _
      rw [show ((a : Int) + 0).toNat = a by omega]
      rfl
  · cases hs

/-- The zero byte is found at once. -/
theorem idx_zero {l : List Int} (h0 : 0 < l.length) (h : l.getD 0 0 = 0) : Lib.indexByte (Lib.bytesOf l) (Int.toNat 0).toUInt8 = 0 := by
  cases l with
  | nil => exact absurd h0 (Nat.lt_irrefl _)
  | cons x l =>
    have h : x = 0 := h
    subst h
    rfl
def saysTxt : Says := fun args H => match args, H with
  | [.c (.ptr 0 0)], [.row [.p (.l (.int .u8) b), .p (.v (.int .i64 a)), .p (.v (.string nm)), .p (.v (.slice none 0 0)), .p (.v (.int .i64 op)), .p (.v (.int .i64 lv)), .p (.v (.int .i64 pl)), .p (.v (.int .i64 e))]] => some (some (ZrOk b a), .tup [.c (.str (bytesOf ((b.take a.toNat).drop a.toNat))), .c (.bool true)], hqN b (a + 4) nm op lv pl e)
  | _, _ => none
def BA15 : Table := ext BA14 69 saysTxt
theorem bA15 : TSound Try.prog BA15 := by
  refine ext_run bA14 (f := 69) (fn := Try.f69) rfl rfl [0, 2, 3, 4, 16] fun args H p r H' hs hp => ?_
  unfold saysTxt at hs
  split at hs
  · rename_i b a nm op lv pl e
    cases hs
    have hz : ZrOk b a := hp
    have h0 := hz.num.ge
    have h1 := hz.num.le
    refine ⟨Nat.le_of_ble_eq_true rfl, [0], rfl, id0, ?_⟩
    have hb : 0 ≤ a ∧ a ≤ (b.length : Nat) ∧ ((b.length : Nat) : Int) ≤ (b.length : Nat) := by omega
    have hi : Lib.indexByte (Lib.bytesOf ((b.take ((b.length : Nat) : Int).toNat).drop a.toNat)) (Int.toNat 0).toUInt8 = 0 := by
      rw [Int.toNat_natCast, List.take_length]
      refine idx_zero (by rw [List.length_drop]; omega) ?_
      have := hz.z 0 (by decide)
      rw [List.getD_eq_getElem?_getD, List.getElem?_drop, ← List.getD_eq_getElem?_getD]
      exact this
    repeat ((conv => whnf); refine ⟨by first | exact hb | ((conv => whnf); exact ⟨⟨rfl, rfl, rfl⟩, trivial⟩) | exact Early.one (by decide +kernel) (by (conv => whnf); exact ⟨rfl, rfl, rfl⟩) trivial | (unfold inI64; omega) | omega | exact ⟨by omega, by omega⟩ | exact rfl | decide +kernel, ?_⟩)
    conv => whnf
    rw [hi]
    repeat ((conv => whnf); refine ⟨by first | exact ⟨rfl, rfl, hz⟩ | (unfold inI64; omega) | omega | exact ⟨by omega, by omega⟩ | exact rfl | decide +kernel, ?_⟩)
    conv => whnf
    exact ends_eq ⟨rfl, rfl⟩
  · cases hs

def saysBeg : Says := fun args H => match args, H with
  | [.c (.ptr 0 0)], [.row [.p (.l (.int .u8) b), .p (.v (.int .i64 a)), .p (.v (.string nm)), .p (.v (.slice none 0 0)), .p (.v (.int .i64 op)), .p (.v (.int .i64 lv)), .p (.v (.int .i64 pl)), .p (.v (.int .i64 e))]] => some (some (ZrOk b a ∧ lv = 0 ∧ op = -1), .bool true, hqO b (a + 4) nm [(-1, bytesOf ((b.take a.toNat).drop a.toNat), [])] 0 1 pl e)
  | _, _ => none
def BA16 : Table := ext BA15 48 saysBeg
theorem bA16 : TSound Try.prog BA16 := by
  refine ext_run bA15 (f := 48) (fn := Try.f48) rfl rfl [0, 2, 3, 4, 17, 26] fun args H p r H' hs hp => ?_
  unfold saysBeg at hs
  split at hs
  · rename_i b a nm op lv pl e
    cases hs
    obtain ⟨hz, rfl, rfl⟩ := hp
    refine ⟨Nat.le_of_ble_eq_true rfl, [0, 1], rfl, id2c, ?_⟩
    repeat ((conv => whnf); refine ⟨by first | exact hz | ((conv => whnf); exact ⟨⟨rfl, rfl, rfl⟩, trivial⟩) | exact Early.one (by decide +kernel) (by (conv => whnf); exact ⟨rfl, rfl, rfl⟩) trivial | (unfold inI64; omega) | omega | exact ⟨by omega, by omega⟩ | exact rfl | decide +kernel, ?_⟩)
    conv => whnf
    refine Or.inl ?_
    have hc : 1 ≤ capBound := by decide
    have hc2 : inI64 (((1 : Nat) : Int) - 1) := by unfold inI64; omega
    repeat ((conv => whnf); refine ⟨by first | exact hc | exact hc2 | ((conv => whnf); exact ⟨⟨rfl, rfl, rfl⟩, trivial⟩) | exact Early.one (by decide +kernel) (by (conv => whnf); exact ⟨rfl, rfl, rfl⟩) trivial | (unfold inI64; omega) | omega | exact ⟨by omega, by omega⟩ | exact rfl | decide +kernel, ?_⟩)
    conv => whnf
    exact ends_eq ⟨rfl, rfl⟩
  · cases hs

def saysElm : Says := fun args H => match args, H with
  | [.c (.ptr 0 0)], [.row [.p (.l (.int .u8) b), .p (.v (.int .i64 a)), .p (.v (.string nm)), .own 1 (.pair (.int .i64) (.pair .str (.list (.pair .str .str)))) ns, .p (.v (.int .i64 op)), .p (.v (.int .i64 lv)), .p (.v (.int .i64 pl)), .p (.v (.int .i64 e))], o] => some (some ((NumOk b a ∧ bnV b a.toNat = 2) ∧ o = tokN ns.length ∧ ns.length = 1 ∧ op = 0 ∧ lv = 1), .bool true, hqO b (a + 4) nm ns (ndAt ns 0).1 0 pl e)
  | _, _ => none
def BA17 : Table := ext BA16 49 saysElm
theorem bA17 : TSound Try.prog BA17 := by
  refine ext_run bA16 (f := 49) (fn := Try.f49) rfl rfl [0, 2, 3, 4, 5, 12, 24, 29, 53] fun args H p r H' hs hp => ?_
  unfold saysElm at hs
  split at hs
  · rename_i b a nm ns op lv pl e o
    cases hs
    obtain ⟨⟨hn, hw⟩, rfl, h1, rfl, rfl⟩ := hp
    refine ⟨Nat.le_of_ble_eq_true rfl, [0, 1], rfl, id2, ?_⟩
    have hi1 : inI64 (((ns.length : Nat) : Int) - 1) := by unfold inI64; omega
    have hb : 0 ≤ (0 : Int) ∧ (0 : Int) < (ns.length : Nat) := by omega
    repeat ((conv => whnf); refine ⟨by first | exact ⟨hn, rfl⟩ | exact hi1 | ((conv => whnf); exact ⟨⟨rfl, rfl, rfl⟩, trivial⟩) | exact Early.one (by decide +kernel) (by (conv => whnf); exact ⟨rfl, rfl, rfl⟩) trivial | (unfold inI64; omega) | omega | exact ⟨by omega, by omega⟩ | exact rfl | decide +kernel, ?_⟩)
    conv => whnf
    rw [hw]
    repeat ((conv => whnf); refine ⟨by first | exact hb | ((conv => whnf); exact ⟨⟨rfl, rfl, rfl⟩, trivial⟩) | exact Early.one (by decide +kernel) (by (conv => whnf); exact ⟨rfl, rfl, rfl⟩) trivial | (unfold inI64; omega) | omega | exact ⟨by omega, by omega⟩ | exact rfl | decide +kernel, ?_⟩)
    conv => whnf
    exact ends_eq ⟨rfl, rfl⟩
  · cases hs

/-- What the bytes of the root alone are, to the reader. -/
structure RtOk (b : List Int) : Prop where
  len : b.length = 44
  byt : BtL b
  n28 : bnV b 28 = 1
  z : ∀ i, i < 4 → b.getD (32 + i) 0 = 0
  n36 : bnV b 36 = 2
  n40 : bnV b 40 = 9
theorem RtOk.num {b : List Int} (h : RtOk b) {a : Int} (h0 : 0 ≤ a) (h1 : a ≤ 40) : NumOk b a := ⟨h0, by rw [h.len]; omega, by rw [h.len]; decide, h.byt⟩
theorem RtOk.zr {b : List Int} (h : RtOk b) : ZrOk b 32 := ⟨h.num (by decide) (by decide), ⟨8, rfl⟩, h.z⟩
abbrev rdT (b : List Int) : List Nd := [(-1, bytesOf ((b.take 32).drop 32), [])]
def saysRd : Says := fun args H => match args, H with
  | [.c (.ptr 0 0)], [.row [.p (.l (.int .u8) b), .p (.v (.int .i64 a)), .p (.v (.string nm)), .p (.v (.slice none 0 0)), .p (.v (.int .i64 op)), .p (.v (.int .i64 lv)), .p (.v (.int .i64 pl)), .p (.v (.int .i64 e))]] => some (some (RtOk b ∧ a = 28 ∧ lv = 0 ∧ op = -1), .bool true, hqO b 44 nm (rdT b) (-1) 0 pl e)
  | _, _ => none
def BA18 : Table := ext BA17 22 saysRd
theorem bA18 : TSound Try.prog BA18 := by
  refine ext_run bA17 (f := 22) (fn := Try.f22) rfl rfl [0, 2, 10, 15, 18, 21, 31] fun args H p r H' hs hp => ?_
  unfold saysRd at hs
  split at hs
  · rename_i b a nm op lv pl e
    cases hs
    obtain ⟨hb, rfl, rfl, rfl⟩ := hp
    have hx1 : NumOk b 28 ∧ bnV b (Int.toNat 28) = 1 := ⟨hb.num (by decide) (by decide), hb.n28⟩
    have hz := hb.zr
    refine ⟨Nat.le_of_ble_eq_true rfl, [0, 1], rfl, id2c, ?_⟩
    repeat ((conv => whnf); refine ⟨by first | exact hx1 | exact fun _ => ⟨hz, rfl, rfl⟩ | exact ⟨hz, rfl, rfl⟩ | ((conv => whnf); exact ⟨⟨rfl, rfl, rfl⟩, trivial⟩) | exact Early.one (by decide +kernel) (by (conv => whnf); exact ⟨rfl, rfl, rfl⟩) trivial | (unfold inI64; omega) | omega | exact ⟨by omega, by omega⟩ | exact rfl | decide +kernel, ?_⟩)
    conv => whnf
    have hy : (NumOk b 36 ∧ bnV b (Int.toNat 36) = 2) ∧ tokN (rdT b).length = tokN (rdT b).length ∧ (rdT b).length = 1 ∧ (0 : Int) = 0 ∧ (1 : Int) = 1 := ⟨⟨hb.num (by decide) (by decide), hb.n36⟩, rfl, rfl, rfl, rfl⟩
    have hw : (NumOk b 40 ∧ bnV b (Int.toNat 40) = 9) ∧ tokN (rdT b).length = tokN (rdT b).length := ⟨⟨hb.num (by decide) (by decide), hb.n40⟩, rfl⟩
    have hl44 : ((44 : Int) < (b.length : Nat)) = False := by rw [hb.len]; exact eq_false (by decide)
    refine loop_intro (σ := Bool) (fun _ => [(0, XV.s (.a (.c (.ptr 0 0)))), (2, XV.s .none), (10, XV.s .none), (15, XV.s .none), (18, XV.s .none), (21, XV.s .none), (31, XV.s .none)])
      (fun d => match d with | false => hqO b 36 nm (rdT b) 0 1 pl e | true => hqO b 40 nm (rdT b) (-1) 0 pl e) (fun _ => True) (fun d => match d with | false => 1 | true => 0) false ?_ rfl trivial ?_
    · repeat (first | exact LeL.nil | refine LeL.drop ?_ | refine LeL.same ?_)
    rintro (_ | _) _
    · repeat ((conv => whnf); refine ⟨by first | exact hy | ((conv => whnf); exact ⟨⟨rfl, rfl, rfl⟩, trivial⟩) | exact Early.one (by decide +kernel) (by (conv => whnf); exact ⟨rfl, rfl, rfl⟩) trivial | (unfold inI64; omega) | omega | exact ⟨by omega, by omega⟩ | exact rfl | decide +kernel, ?_⟩)
      conv => whnf
      refine head_intro true ?_ rfl trivial (Nat.zero_lt_one)
      repeat (first | exact LeL.nil | refine LeL.drop ?_ | refine LeL.same ?_)
    · repeat ((conv => whnf); refine ⟨by first | exact hw | ((conv => whnf); exact ⟨⟨rfl, rfl, rfl⟩, trivial⟩) | exact Early.one (by decide +kernel) (by (conv => whnf); exact ⟨rfl, rfl, rfl⟩) trivial | (unfold inI64; omega) | omega | exact ⟨by omega, by omega⟩ | exact rfl | decide +kernel, ?_⟩)
      conv => whnf
      refine cond_intro (fun h => ?_) (fun h => ?_)
      · exfalso
        have h9 : (44 : Int) < (b.length : Nat) := of_decide_eq_true h
        rw [hl44] at h9
        exact h9
      repeat ((conv => whnf); refine ⟨by first | (unfold inI64; omega) | omega | exact ⟨by omega, by omega⟩ | exact rfl | decide +kernel, ?_⟩)
      conv => whnf
      exact ends_eq ⟨rfl, rfl⟩
  · cases hs

/-! The bytes of the root alone. -/
def b44 : List Int := [208, 13, 254, 237, 0, 0, 0, 44, 0, 0, 0, 16, 0, 0, 0, 0, 0, 0, 0, 172, 0, 0, 0, 0, 0, 0, 23, 40, 0, 0, 0, 1, 0, 0, 0, 0, 0, 0, 0, 2, 0, 0, 0, 9]
theorem enc_rt : encV rtL = b44 := by decide +kernel

structure HdOk (b : List Int) : Prop where
  rt : RtOk b
  n0 : bnV b 0 = 3490578157
  n4 : bnV b 4 = 44
  n8 : bnV b 8 = 16
  n12 : bnV b 12 = 0
  n16 : bnV b 16 = sumV ((b.take 44).drop 28)
  n20 : bnV b 20 = sumV ((b.take b.length).drop 44)
  n24 : bnV b 24 = sumV ((b.take 24).drop 0)
theorem b44_ok : HdOk b44 := by
  refine ⟨⟨rfl, ?_, by decide +kernel, by decide +kernel, by decide +kernel, by decide +kernel⟩, by decide +kernel, by decide +kernel, by decide +kernel, by decide +kernel, by decide +kernel, by decide +kernel, by decide +kernel⟩
  unfold BtL
  decide +kernel
theorem nd_self {x : Int} (h : (!decide (x = x)) = true) : False := by simp at h
def BA19 : Table := ext BA18 20 (saysG daB eaB fun b => (some (HdOk b), .tup [.c (.int .i64 0), .c (.int .i64 0)]))
theorem bA19 : TSound Try.prog BA19 := by
  refine extG bA18 20 (fn := Try.f20) rfl rfl daB eaB _ (fun _ => Nat.le_of_ble_eq_true rfl) [0, 2, 3, 4, 5, 6, 7, 10, 21, 25, 32, 48, 55, 61, 69] fun b hok => ?_
  have hb : HdOk b := hok
  have hl := hb.rt.len
  dsimp only
  have hnum : ∀ a : Int, 0 ≤ a → a ≤ 40 → [AV.c (.p (.l u8C b)), AV.c (.int .i64 a)] = eaBI (b, a) ∧ (0 ≤ a ∧ a + 4 ≤ (b.length : Nat) ∧ b.length ≤ 1000000000 ∧ BtL b) := fun a h0 h1 => ⟨rfl, h0, by rw [hl]; omega, by rw [hl]; decide, hb.rt.byt⟩
  repeat ((conv => whnf); refine ⟨by first | exact hnum _ (by decide) (by decide) | ((conv => whnf); exact ⟨⟨rfl, rfl, rfl⟩, trivial⟩) | exact Early.one (by decide +kernel) (by (conv => whnf); exact ⟨rfl, rfl, rfl⟩) trivial | (unfold inI64; omega) | omega | exact ⟨by omega, by omega⟩ | exact rfl | decide +kernel, ?_⟩)
  conv => whnf
  refine cond_intro (fun h => ?_) (fun h => ?_)
  · exfalso
    have : ((b.length : Nat) : Int) < 28 := of_decide_eq_true h
    omega
  repeat ((conv => whnf); refine ⟨by first | exact hnum _ (by decide) (by decide) | ((conv => whnf); exact ⟨⟨rfl, rfl, rfl⟩, trivial⟩) | exact Early.one (by decide +kernel) (by (conv => whnf); exact ⟨rfl, rfl, rfl⟩) trivial | (unfold inI64; omega) | omega | exact ⟨by omega, by omega⟩ | exact rfl | decide +kernel, ?_⟩)
  conv => whnf
  rw [show bnV b (Int.toNat 8) = 16 from hb.n8, show bnV b (Int.toNat 4) = 44 from hb.n4, show bnV b (Int.toNat 12) = 0 from hb.n12]
  have hsl : ∀ i j, ((b.take i).drop j).length ≤ 1000000000 := fun i j => by rw [List.length_drop, List.length_take, hl]; omega
  have hb1 : 0 ≤ (0 : Int) ∧ (0 : Int) ≤ 24 ∧ (24 : Int) ≤ (b.length : Nat) := by omega
  have hb2 : 0 ≤ (28 : Int) ∧ (28 : Int) ≤ 28 + 16 ∧ (28 : Int) + 16 ≤ (b.length : Nat) := by omega
  have hb3 : 0 ≤ (28 : Int) + 16 ∧ (28 : Int) + 16 ≤ (b.length : Nat) ∧ ((b.length : Nat) : Int) ≤ (b.length : Nat) := by omega
  repeat ((conv => whnf); refine ⟨by first | exact hnum _ (by decide) (by decide) | ((conv => whnf); exact ⟨⟨rfl, rfl, rfl⟩, trivial⟩) | exact Early.one (by decide +kernel) (by (conv => whnf); exact ⟨rfl, rfl, rfl⟩) trivial | (unfold inI64; omega) | omega | exact ⟨by omega, by omega⟩ | exact rfl | decide +kernel, ?_⟩)
  conv => whnf
  rw [show bnV b (Int.toNat 0) = 3490578157 from hb.n0]
  repeat ((conv => whnf); refine ⟨by first | exact hb1 | exact hnum _ (by decide) (by decide) | exact ⟨rfl, hsl _ _⟩ | ((conv => whnf); exact ⟨⟨rfl, rfl, rfl⟩, trivial⟩) | exact Early.one (by decide +kernel) (by (conv => whnf); exact ⟨rfl, rfl, rfl⟩) trivial | (unfold inI64; omega) | omega | exact ⟨by omega, by omega⟩ | exact rfl | decide +kernel, ?_⟩)
  conv => whnf
  rw [show bnV b (Int.toNat 24) = sumV ((b.take (Int.toNat 24)).drop (Int.toNat 0)) from hb.n24]
  refine cond_intro (fun h2 => ?_) (fun h2 => ?_)
  · exact (nd_self h2).elim
  have hx3 : alN (Int.toNat 16) = 16 := by decide
  repeat ((conv => whnf); refine ⟨by first | exact fun _ => ⟨rfl, by decide, by decide⟩ | (unfold inI64; omega) | omega | exact ⟨by omega, by omega⟩ | exact rfl | decide +kernel, ?_⟩)
  conv => whnf
  refine cond_intro (fun h3 => ?_) (fun h3 => ?_)
  · exfalso
    have : ((b.length : Nat) : Int) < 44 := of_decide_eq_true h3
    omega
  repeat ((conv => whnf); refine ⟨by first | (unfold inI64; omega) | omega | exact ⟨by omega, by omega⟩ | exact rfl | decide +kernel, ?_⟩)
  conv => whnf
  refine cond_intro (fun h4 => ?_) (fun h4 => ?_)
  · exfalso
    have : (44 : Int) < ((b.length : Nat) : Int) := of_decide_eq_true h4
    omega
  repeat ((conv => whnf); refine ⟨by first | exact hb2 | exact hnum _ (by decide) (by decide) | exact ⟨rfl, hsl _ _⟩ | ((conv => whnf); exact ⟨⟨rfl, rfl, rfl⟩, trivial⟩) | exact Early.one (by decide +kernel) (by (conv => whnf); exact ⟨rfl, rfl, rfl⟩) trivial | (unfold inI64; omega) | omega | exact ⟨by omega, by omega⟩ | exact rfl | decide +kernel, ?_⟩)
  conv => whnf
  rw [show bnV b (Int.toNat 16) = sumV ((b.take (Int.toNat (28 + 16))).drop (Int.toNat 28)) from hb.n16]
  refine cond_intro (fun h5 => ?_) (fun h5 => ?_)
  · exact (nd_self h5).elim
  repeat ((conv => whnf); refine ⟨by first | exact hb3 | exact hnum _ (by decide) (by decide) | exact ⟨rfl, hsl _ _⟩ | ((conv => whnf); exact ⟨⟨rfl, rfl, rfl⟩, trivial⟩) | exact Early.one (by decide +kernel) (by (conv => whnf); exact ⟨rfl, rfl, rfl⟩) trivial | (unfold inI64; omega) | omega | exact ⟨by omega, by omega⟩ | exact rfl | decide +kernel, ?_⟩)
  conv => whnf
  rw [show bnV b (Int.toNat 20) = sumV ((b.take (Int.toNat ((b.length : Nat) : Int))).drop (Int.toNat (28 + 16))) from hb.n20]
  refine cond_intro (fun h6 => ?_) (fun h6 => ?_)
  · exact (nd_self h6).elim
  repeat ((conv => whnf); refine ⟨by first | (unfold inI64; omega) | omega | exact ⟨by omega, by omega⟩ | exact rfl | decide +kernel, ?_⟩)
  conv => whnf
  exact ends_eq ⟨rfl, rfl⟩

def saysNr : Says := fun args H => match args, H with
  | [.c (.p (.l (.int .u8) b))], [] => some (some (HdOk b), .a (.c (.ptr 0 0)), hqN b 28 (bytesOf ((b.take b.length).drop 44)) (-1) 0 0 0)
  | _, _ => none
def BA20 : Table := ext BA19 21 saysNr
theorem bA20 : TSound Try.prog BA20 := by
  refine ext_run bA19 (f := 21) (fn := Try.f21) rfl rfl [0, 2, 3] fun args H p r H' hs hp => ?_
  unfold saysNr at hs
  split at hs
  · rename_i b
    cases hs
    have hb : HdOk b := hp
    have hl := hb.rt.len
    refine ⟨Nat.le_of_ble_eq_true rfl, [0], rfl, fun k hk => absurd hk (Nat.not_lt_zero k), ?_⟩
    have hnum : ∀ a : Int, 0 ≤ a → a ≤ 40 → [AV.c (.p (.l u8C b)), AV.c (.int .i64 a)] = eaBI (b, a) ∧ (0 ≤ a ∧ a + 4 ≤ (b.length : Nat) ∧ b.length ≤ 1000000000 ∧ BtL b) := fun a h0 h1 => ⟨rfl, h0, by rw [hl]; omega, by rw [hl]; decide, hb.rt.byt⟩
    have hb2 : 0 ≤ (0 : Int) ∧ (0 : Int) ≤ 28 + 16 ∧ (28 : Int) + 16 ≤ (b.length : Nat) := by omega
    have hb3 : 0 ≤ (28 : Int) + 16 ∧ (28 : Int) + 16 ≤ (b.length : Nat) ∧ ((b.length : Nat) : Int) ≤ (b.length : Nat) := by omega
    repeat ((conv => whnf); refine ⟨by first | exact hnum _ (by decide) (by decide) | ((conv => whnf); exact ⟨⟨rfl, rfl, rfl⟩, trivial⟩) | exact Early.one (by decide +kernel) (by (conv => whnf); exact ⟨rfl, rfl, rfl⟩) trivial | (unfold inI64; omega) | omega | exact ⟨by omega, by omega⟩ | exact rfl | decide +kernel, ?_⟩)
    conv => whnf
    rw [show bnV b (Int.toNat 8) = 16 from hb.n8]
    repeat ((conv => whnf); refine ⟨by first | exact hb2 | exact hb3 | ((conv => whnf); exact ⟨⟨rfl, rfl, rfl⟩, trivial⟩) | exact Early.one (by decide +kernel) (by (conv => whnf); exact ⟨rfl, rfl, rfl⟩) trivial | (unfold inI64; omega) | omega | exact ⟨by omega, by omega⟩ | exact rfl | decide +kernel, ?_⟩)
    conv => whnf
    have e1 : (b.take (Int.toNat (28 + 16))).drop (Int.toNat 0) = b := by
      show (b.take 44).drop 0 = b
      rw [← hl, List.take_length]
      rfl
    rw [e1]
    exact ends_eq ⟨rfl, rfl⟩
  · cases hs

def daBB : List AV → Option (List Int × List Int)
  | [.c (.p (.l c0 zs)), .c (.p (.l c1 ys))] => match castD (e := .int .u8) (e' := c0) zs, castD (e := .int .u8) (e' := c1) ys with | some zs, some ys => some (zs, ys) | _, _ => none
  | _ => none
def eaBB (a : List Int × List Int) : List AV := [.c (.p (.l (.int .u8) a.1)), .c (.p (.l (.int .u8) a.2))]
def BA21 : Table := ext BA20 23 (saysG daBB eaBB fun a => (some (a.1 = a.2 ∧ a.1.length ≤ 1000000000), .tup [.c (.int .i64 0), .c (.bool false)]))
theorem bA21 : TSound Try.prog BA21 := by
  refine extG bA20 23 (fn := Try.f23) rfl rfl daBB eaBB _ (fun _ => Nat.le_of_ble_eq_true rfl) [0, 1, 4, 5, 6, 11, 12, 13, 23] fun a hok => ?_
  obtain ⟨zs, ys⟩ := a
  obtain ⟨rfl, hl⟩ : zs = ys ∧ zs.length ≤ 1000000000 := hok
  dsimp only
  repeat ((conv => whnf); refine ⟨by first | (unfold inI64; omega) | omega | exact ⟨by omega, by omega⟩ | exact rfl | decide +kernel, ?_⟩)
  conv => whnf
  refine loop_intro (σ := Nat) (fun i => [(0, XV.s (.a (.c (.p (.l (.int .u8) zs))))), (1, XV.s (.a (.c (.p (.l (.int .u8) zs))))), (4, XV.s .none), (5, XV.s .none), (6, XV.s .none), (11, XV.s (.int .i64 (zs.length : Nat))), (12, XV.s (.int .i64 (i : Nat))), (13, XV.s .none), (23, XV.s .none)])
    (fun _ => []) (fun i => i ≤ zs.length) (fun i => zs.length - i) 0 ?_ rfl (Nat.zero_le _) (fun i hi => ?_)
  · dsimp only
    rw [if_neg (Int.lt_irrefl _)]
    repeat (first | exact LeL.nil | refine LeL.drop ?_ | refine LeL.same ?_)
  repeat ((conv => whnf); refine ⟨by first | (unfold inI64; omega) | omega | exact ⟨by omega, by omega⟩ | exact rfl | decide +kernel, ?_⟩)
  conv => whnf
  refine cond_intro (fun h => ?_) (fun h => ?_)
  · have hlt : i < zs.length := lt_of_dec h
    have hin : 0 ≤ (i : Int) ∧ (i : Int) < (zs.length : Nat) := by omega
    repeat ((conv => whnf); refine ⟨by first | exact hin | (unfold inI64; omega) | omega | exact ⟨by omega, by omega⟩ | exact rfl | decide +kernel, ?_⟩)
    conv => whnf
    refine cond_intro (fun h2 => ?_) (fun h2 => ?_)
    · exact (nd_self h2).elim
    repeat ((conv => whnf); refine ⟨by first | (unfold inI64; omega) | omega | exact ⟨by omega, by omega⟩ | exact rfl | decide +kernel, ?_⟩)
    conv => whnf
    refine head_intro (i + 1) ?_ rfl hlt (by omega)
    repeat (first | exact LeL.nil | refine LeL.drop ?_ | refine LeL.same ?_)
  · repeat ((conv => whnf); refine ⟨by first | (unfold inI64; omega) | omega | exact ⟨by omega, by omega⟩ | exact rfl | decide +kernel, ?_⟩)
    conv => whnf
    exact ends_eq ⟨rfl, rfl⟩

def decR (ns : List Nd) : SV := .tup [.agg [.p (.l ndC ns)], .c (.int .i64 0), .c (.int .i64 0)]
def BA22 : Table := ext BA21 10 (saysG daB eaB fun b => (some (b = b44), decR rtL))
theorem bA22 : TSound Try.prog BA22 := by
  refine extG bA21 10 (fn := Try.f10) rfl rfl daB eaB _ (fun _ => Nat.le_of_ble_eq_true rfl) [0, 2, 3, 4, 5, 6, 7, 8, 9, 10, 17, 25, 43, 54] fun b hok => ?_
  have hb : b = b44 := hok
  have hh : HdOk b := hb ▸ b44_ok
  have hrt : rdT b = rtL := by rw [hb]; decide +kernel
  have hc : chkP (rdT b) = 0 := by rw [hrt]; exact vl_chk rt_vl
  have hq : RtOk b ∧ (28 : Int) = 28 ∧ (0 : Int) = 0 ∧ (-1 : Int) = -1 := ⟨hh.rt, rfl, rfl, rfl⟩
  have hv : Vl (rdT b) := by rw [hrt]; exact rt_vl
  have he : encV (rdT b) = b := by rw [hrt, hb]; exact enc_rt
  have hl : b.length ≤ 1000000000 := by rw [hh.rt.len]; decide
  dsimp only
  repeat ((conv => whnf); refine ⟨by first | exact ⟨rfl, hh⟩ | exact hh | exact hq | exact ⟨rfl, trivial⟩ | exact ⟨rfl, hv⟩ | ((conv => whnf); exact ⟨⟨rfl, rfl, rfl⟩, trivial⟩) | exact Early.one (by decide +kernel) (by (conv => whnf); exact ⟨rfl, rfl, rfl⟩) trivial | (unfold inI64; omega) | omega | exact ⟨by omega, by omega⟩ | exact rfl | decide +kernel, ?_⟩)
  conv => whnf
  rw [hc]
  repeat ((conv => whnf); refine ⟨by first | exact ⟨rfl, hv⟩ | exact ⟨rfl, he.symm, hl⟩ | ((conv => whnf); exact ⟨⟨rfl, rfl, rfl⟩, trivial⟩) | exact Early.one (by decide +kernel) (by (conv => whnf); exact ⟨rfl, rfl, rfl⟩) trivial | (unfold inI64; omega) | omega | exact ⟨by omega, by omega⟩ | exact rfl | decide +kernel, ?_⟩)
  conv => whnf
  rw [← hrt]
  exact ends_eq ⟨rfl, rfl⟩

theorem enc_v : EncV rtL = (b44, 0) := by
  unfold EncV
  rw [enc_rt]
  rfl
def saysAw8 : Says := fun args H => match args, H with | [], [] => some (none, .bool true, []) | _, _ => none
def BA23 : Table := ext BA22 11 saysAw8
theorem bA23 : TSound Try.prog BA23 := by
  refine ext_run bA22 (f := 11) (fn := Try.f11) rfl rfl [0, 1, 2, 3, 5] fun args H p r H' hs hp => ?_
  unfold saysAw8 at hs
  split at hs
  · cases hs
    refine ⟨Nat.le_of_ble_eq_true rfl, [], rfl, fun k hk => absurd hk (Nat.not_lt_zero k), ?_⟩
    repeat ((conv => whnf); refine ⟨by first | exact ⟨rfl, rt_vl⟩ | (unfold inI64; omega) | omega | exact ⟨by omega, by omega⟩ | exact rfl | decide +kernel, ?_⟩)
    conv => whnf
    rw [enc_v]
    have hb : 0 ≤ (0 : Int) ∧ (0 : Int) < (b44.length : Nat) := by decide
    have hb2 : 0 ≤ (43 : Int) ∧ (43 : Int) < (b44.length : Nat) := by decide
    repeat ((conv => whnf); refine ⟨by first | exact ⟨rfl, rfl⟩ | exact fun _ => hb | exact fun _ => hb2 | (unfold inI64; omega) | omega | exact ⟨by omega, by omega⟩ | exact rfl | decide +kernel, ?_⟩)
    conv => whnf
    refine ends_eq ⟨congrArg (fun b => SV.bool b) (?_ : _ = true), rfl⟩
    decide +kernel
  · cases hs

def EmP (ns : List Nd) : Prop := ∀ n ∈ ns, n.2.2 = ([] : List Pt)
theorem em_at {ns : List Nd} (h : EmP ns) (i : Nat) : (ndAt ns i).2.2 = ([] : List Pt) := by
  rcases Nat.lt_or_ge i ns.length with h1 | h1
  · rw [nd_at' h1]
    exact h _ (List.getElem_mem h1)
  · unfold ndAt
    rw [List.getD_eq_getElem?_getD, List.getElem?_eq_none h1]
    rfl
theorem em_srt {ns : List Nd} (h : EmP ns) : EmP (srtV ns) := by
  intro n hn
  unfold srtV at hn
  obtain ⟨k, _, rfl⟩ := List.mem_map.1 hn
  unfold mvN
  split
  · exact em_at h _
  · exact em_at h _
theorem add_sz {a : List Nd × ByteArray × ByteArray} (he : EmP a.1) (h : (rAddV a).2 = 0) : EmP (rAddV a).1 ∧ (rAddV a).1.length ≤ a.1.length + 1 := by
  unfold rAddV at h ⊢
  split at h
  · rename_i h1; exact absurd h h1
  · rename_i h1
    rw [if_neg h1]
    split at h
    · cases h
    · rename_i h2
      rw [if_neg h2]
      split at h
      · cases h
      · rename_i h3
        rw [if_neg h3]
        split at h
        · cases h
        · rename_i h4
          rw [if_neg h4]
          split at h
          · cases h
          · rename_i h5
            rw [if_neg h5]
            have hb : (begV (a.1, a.2.1)).2 = 0 := Classical.not_not.1 h1
            obtain ⟨hf, h6, h7⟩ := beg_ok hb
            have hfa := frm_app hf h6 h7 (show namB a.2.2 = true by simpa using h2) (by omega)
            refine ⟨em_srt fun n hn => ?_, Nat.le_trans (srt_len hfa) (by rw [List.length_append]; exact Nat.le_refl _)⟩
            rcases List.mem_append.1 hn with h8 | h8
            · exact he n h8
            · rw [List.mem_singleton.1 h8]
theorem st_sz (zs : List Int) : ∀ m n ns, EmP ns → EmP (stGo zs m n ns).1 ∧ (stGo zs m n ns).1.length ≤ ns.length + m := by
  intro m
  induction m with
  | zero => intro n ns h; exact ⟨h, Nat.le_refl _⟩
  | succ m ih =>
    intro n ns h
    have h2 : EmP (gsV zs n ns) ∧ (gsV zs n ns).length ≤ ns.length + 1 := by
      unfold gsV
      split
      · rename_i h1
        exact add_sz (a := (ns, _, _)) h h1
      · exact ⟨h, Nat.le_succ _⟩
    obtain ⟨h3, h4⟩ := ih (rawN zs (nm2 zs n)) (gsV zs n ns) h2.1
    refine ⟨h3, ?_⟩
    have h5 := h2.2
    show (stGo zs m (rawN zs (nm2 zs n)) (gsV zs n ns)).1.length ≤ _
    omega
def tpS (ns : List Nd) : Nat := (ns.map fun n : Nd => n.2.2.length).sum
theorem tp_em {ns : List Nd} (h : EmP ns) : tpS ns = 0 := by
  unfold tpS
  induction ns with
  | nil => rfl
  | cons n r ih =>
    rw [List.map_cons, List.sum_cons, h n (by simp), ih fun x hx => h x (by simp [hx])]
    rfl
theorem put_len (l : List Pt) (p : Pt) : (putV (l, p)).length ≤ l.length + 1 := by
  unfold putV
  dsimp only
  have h := ltC_le p.1 l
  rw [List.length_append, List.length_take, List.length_cons]
  split
  · rename_i h1
    simp
    omega
  · rename_i q r h1
    have h2 := congrArg List.length h1
    rw [List.length_drop, List.length_cons] at h2
    split
    · omega
    · rw [List.length_cons]
      omega
theorem sum_set (f : Nd → Nat) : ∀ (l : List Nd) (k : Nat) (x : Nd), f x ≤ f (ndAt l k) + 1 → ((l.set k x).map f).sum ≤ (l.map f).sum + 1 := by
  intro l
  induction l with
  | nil => intro k x _; exact Nat.zero_le _
  | cons a l ih =>
    intro k x h
    cases k with
    | zero =>
      have h : f x ≤ f a + 1 := h
      rw [List.set_cons_zero, List.map_cons, List.map_cons, List.sum_cons, List.sum_cons]
      omega
    | succ k =>
      have := ih k x h
      rw [List.set_cons_succ, List.map_cons, List.map_cons, List.sum_cons, List.sum_cons]
      omega
theorem set_sz {a : List Nd × ByteArray × ByteArray × ByteArray} (h : (rSetV a).2 = 0) : tpS (rSetV a).1 ≤ tpS a.1 + 1 := by
  unfold rSetV at h ⊢
  split at h
  · rename_i h1; exact absurd h h1
  · rename_i h1
    rw [if_neg h1]
    split at h
    · cases h
    · rename_i h2
      rw [if_neg h2]
      split at h
      · cases h
      · rename_i h3
        rw [if_neg h3]
        unfold tpS setN
        exact sum_set _ _ _ _ (put_len _ _)
theorem sl_sz (zs : List Int) : ∀ m n ns, tpS (slGo zs m n ns).1 ≤ tpS ns + m ∧ (slGo zs m n ns).1.length ≤ ns.length := by
  intro m
  induction m with
  | zero => intro n ns; exact ⟨Nat.le_refl _, Nat.le_refl _⟩
  | succ m ih =>
    intro n ns
    have h2 : tpS (slV zs n ns) ≤ tpS ns + 1 ∧ (slV zs n ns).length ≤ ns.length := by
      unfold slV
      split
      · rename_i h1
        exact ⟨set_sz (a := (ns, _, _, _)) h1, set_leq (ns, _, _, _)⟩
      · exact ⟨Nat.le_succ _, Nat.le_refl _⟩
    obtain ⟨h3, h4⟩ := ih (valV zs (rawN zs (nm2 zs n))).2 (slV zs n ns)
    have e : slGo zs (m + 1) n ns = slGo zs m (valV zs (rawN zs (nm2 zs n))).2 (slV zs n ns) := rfl
    rw [e]
    omega
theorem gr_sz (zs : List Int) (n : Int) (k : Nat) : (grV zs n k).1.length ≤ k + 1 ∧ tpS (grV zs n k).1 ≤ 2 * k := by
  unfold grV
  have h0 : EmP rtL := fun x hx => by rw [List.mem_singleton.1 hx]
  have r1 := modV_lt (rawV zs n) ((k : Int) + 1) (by omega)
  have r2 := modV_lt (rawV zs (grA zs n k).2) (2 * (k : Int) + 1) (by omega)
  obtain ⟨h1, h2⟩ := st_sz zs (modV (rawV zs n) ((k : Int) + 1)).toNat (rawN zs n) rtL h0
  have h1 : EmP (grA zs n k).1 := h1
  have h2 : (grA zs n k).1.length ≤ 1 + (modV (rawV zs n) ((k : Int) + 1)).toNat := h2
  obtain ⟨h3, h4⟩ := sl_sz zs (modV (rawV zs (grA zs n k).2) (2 * (k : Int) + 1)).toNat (rawN zs (grA zs n k).2) (grA zs n k).1
  rw [tp_em h1] at h3
  omega

/-! How long an encoding is. -/
theorem nm_le : ∀ (l : List Pt) (b : B8), (∀ p ∈ l, p.1.size ≤ 31 ∧ p.2.size ≤ 256) → (l.foldl b8P b).2.1.length ≤ b.2.1.length + 32 * l.length := by
  intro l
  induction l with
  | nil => intro b _; exact Nat.le_refl _
  | cons p l ih2 =>
    intro b h
    have h2 := ih2 (b8P b p) fun x hx => h x (by simp [hx])
    have h3 := (h p (by simp)).1
    have h4 : (b8P b p).2.1.length ≤ b.2.1.length + 32 := by
      unfold b8P nwN
      dsimp only
      split
      · omega
      · rw [List.length_append, List.length_append, bL_len]
        show _ + _ + 1 ≤ _
        omega
    rw [List.foldl_cons, List.length_cons]
    omega
theorem b8L_le {ns : List Nd} (hv : Vl ns) : (b8L ns).length ≤ 32 * tpS ns := by
  have key : ∀ i, i ≤ ns.length → (b8G ns i).2.1.length ≤ 32 * tpS (ns.take i) := by
    intro i
    induction i with
    | zero => intro _; exact Nat.zero_le _
    | succ i ih =>
      intro hi
      have h1 := ih (by omega)
      have h2 := nm_le (ndAt ns i).2.2 (b8B ns (b8G ns i) i) (vl_sz hv.f hi).pn
      have h7 : (b8B ns (b8G ns i) i).2.1 = (b8G ns i).2.1 := rfl
      rw [h7] at h2
      have e : (ns.take (i + 1)) = ns.take i ++ [ndAt ns i] := by rw [List.take_succ_eq_append_getElem hi, nd_at' hi]
      have h3 : tpS (ns.take (i + 1)) = tpS (ns.take i) + (ndAt ns i).2.2.length := by
        unfold tpS
        rw [e, List.map_append, List.sum_append]
        rfl
      show (b8N ns (b8G ns i) i).2.1.length ≤ _
      unfold b8N
      omega
  have := key ns.length (Nat.le_refl _)
  rw [List.take_length] at this
  exact this
theorem szN_le {n : Nd} (h : SzOk n) : szN n ≤ 44 + 268 * n.2.2.length := by
  have h1 := sum_le szP 268 n.2.2 fun p hp => szP_le (h.pn p hp).2
  have h3 := h.nm
  have h4 := al_le (n.2.1.size + 1)
  unfold szN
  omega
theorem sz_all : ∀ l : List Nd, (∀ n ∈ l, SzOk n) → (l.map szN).sum ≤ 44 * l.length + 268 * tpS l := by
  intro l
  induction l with
  | nil => intro _; exact Nat.zero_le _
  | cons n l ih =>
    intro h
    have h1 := ih fun x hx => h x (by simp [hx])
    have h2 := szN_le (h n (by simp))
    have e : tpS (n :: l) = n.2.2.length + tpS l := rfl
    rw [List.map_cons, List.sum_cons, List.length_cons, e]
    omega
theorem encV_len {ns : List Nd} (hv : Vl ns) : (encV ns).length = 28 + ((ns.map szN).sum + 4) + (b8L ns).length := by
  unfold encV
  rw [encL_len, b8S_len hv]
theorem encV_le {ns : List Nd} (hv : Vl ns) : (encV ns).length ≤ 32 + 44 * ns.length + 300 * tpS ns := by
  have h1 := encV_len hv
  have h2 := sz_all ns fun n hn => by
    obtain ⟨i, hi, rfl⟩ := List.getElem_of_mem hn
    rw [← nd_at' hi]
    exact vl_sz hv.f hi
  have h3 := b8L_le hv
  omega
theorem gr_enc (zs : List Int) (n : Int) (k : Nat) (hk : k ≤ 60) : EncV (grV zs n k).1 = (encV (grV zs n k).1, 0) := by
  have h1 := encV_le (gr_vl zs n k)
  obtain ⟨h2, h3⟩ := gr_sz zs n k
  unfold EncV
  rw [if_neg (by omega)]
end Go.Ab
