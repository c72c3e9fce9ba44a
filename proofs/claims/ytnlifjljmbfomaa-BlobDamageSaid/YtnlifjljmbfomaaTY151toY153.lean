/- Package blob: numbers, texts and values are appended; check numbers. -/
import Derived.Test.YtnlifjljmbfomaaTY94toY150
import Derived.Test.YtnlifjljmbfomaaTX0toY60
namespace Go.Ab
open Go.Proofs
set_option linter.unusedSectionVars false
set_option maxRecDepth 100000
variable [Base]

abbrev u8C : CT := .int .u8
abbrev tokB (n : Nat) : AO := .tok 5 u8C n true
theorem quo_al (n : Nat) (hn : n ≤ 1000000000000) : IntKind.i64.wrap (((n : Int) + 4 - 1).tdiv 4) * 4 = (alN n : Nat) := by
  have e : ((n : Int) + 4 - 1) = ((n + 3 : Nat) : Int) := by omega
  have h1 : ((n + 3 : Nat) : Int).tdiv (4 : Nat) = (((n + 3) / 4 : Nat) : Int) := (Int.ofNat_tdiv (n + 3) 4).symm
  rw [e, show ((4 : Int)) = ((4 : Nat) : Int) from rfl, h1, wrap_i64 (by unfold inI64; omega)]
  unfold alN
  omega
theorem quo_in (n : Nat) (hn : n ≤ 1000000000000) : inI64 (IntKind.i64.wrap (((n : Int) + 4 - 1).tdiv 4) * 4) := by
  rw [quo_al n hn]
  have := al_le n
  unfold inI64
  omega
def daI1 : List AV → Option Int
  | [.c (.p (.v (.int .i64 n)))] => some n
  | _ => none
def eaI1 (n : Int) : List AV := [.c (.int .i64 n)]
def BA1 : Table := ext C29 46 (saysG daI1 eaI1 fun n => (some (0 ≤ n ∧ n ≤ 1000000000000), .int .i64 (alN n.toNat : Nat)))
theorem bA1 : TSound Try.prog BA1 := by
  refine extG c29 46 (fn := Try.f46) rfl rfl daI1 eaI1 _ (fun _ => Nat.le_of_ble_eq_true rfl) [0, 2] fun n hok => ?_
  obtain ⟨h0, h1⟩ : 0 ≤ n ∧ n ≤ 1000000000000 := hok
  obtain ⟨n, rfl⟩ : ∃ k : Nat, n = k := ⟨n.toNat, by omega⟩
  have hq := quo_in n (by omega)
  dsimp only
  rw [Int.toNat_natCast]
  repeat ((conv => whnf); refine ⟨by first | exact hq | decide | (unfold inI64; omega) | omega | exact ⟨by omega, by omega⟩ | exact rfl | decide +kernel, ?_⟩)
  conv => whnf
  rw [quo_al n (by omega)]
  exact ends_eq ⟨rfl, rfl⟩

/-! Numbers. -/
theorem take_cel {l : List Int} {i : Nat} (h : i < l.length) (b : List Int) : (b ++ celO (l.take i)) ++ cel4 (l.getD i 0) = b ++ celO (l.take (i + 1)) := by
  have he : l.getD i 0 = l[i] := by simp [h]
  rw [List.append_assoc]
  congr 1
  unfold celO
  rw [List.take_succ_eq_append_getElem h, List.flatMap_append, he, List.flatMap_singleton]
theorem cel_nl {l : List Int} {i : Nat} (h : i < l.length) (b : List Int) : (b ++ celO (l.take i)).length + 4 = (b ++ celO (l.take (i + 1))).length := by
  rw [List.length_append, List.length_append, celO_length, celO_length, List.length_take, List.length_take]
  omega
theorem cel_cap {b l : List Int} (i : Nat) (h : b.length + 4 * l.length ≤ 1000000000) : (b ++ celO (l.take i)).length + 4 ≤ capBound := by
  rw [List.length_append, celO_length, List.length_take]
  exact Nat.le_trans (m := 10000000000) (by omega) (by decide)
def saysApO : Says := fun args H => match args, H with
  | [.c (.own 0 (.int .u8) b), .c (.own 1 (.int .i64) l)], [_, .tok t2 c2 n2 z2] => some (some (H = [tokB b.length, .tok t2 c2 n2 z2] ∧ b.length + 4 * l.length ≤ 1000000000), .a (.c (.own 0 (.int .u8) (b ++ celO l))), [tokB (b ++ celO l).length, .tok t2 c2 n2 z2])
  | _, _ => none
def saysApP : Says := fun args H => match args, H with
  | [.c (.own 0 (.int .u8) b), .c (.p (.l (.int .i64) l))], [_] => some (some (H = [tokB b.length] ∧ b.length + 4 * l.length ≤ 1000000000), .a (.c (.own 0 (.int .u8) (b ++ celO l))), [tokB (b ++ celO l).length])
  | _, _ => none
def saysApZ : Says := fun args H => match args, H with
  | [.c (.p (.v (.slice none 0 0))), .c (.p (.l (.int .i64) l))], [] => some (some (4 * l.length ≤ 1000000000), .a (.c (.own 0 (.int .u8) ([] ++ celO l))), [tokB ([] ++ celO l).length])
  | _, _ => none
theorem ap_o : TSound Try.prog (ext BA1 30 saysApO) := by
  refine ext_run bA1 (f := 30) (fn := Try.f30) rfl rfl [0, 1, 4, 6, 7, 8, 9, 10] fun args H p r H' hs hp => ?_
  unfold saysApO at hs
  split at hs
  · rename_i b l _ t2 c2 n2 z2
    cases hs
    obtain ⟨hH, hl⟩ := hp
    rw [hH]
    refine ⟨Nat.le_of_ble_eq_true rfl, [0, 1], rfl, id2, ?_⟩
    repeat ((conv => whnf); refine ⟨by first | (unfold inI64; omega) | omega | exact ⟨by omega, by omega⟩ | exact rfl | decide +kernel, ?_⟩)
    conv => whnf
    refine loop_weak (σ := Nat) (fun i => [(0, XV.s (.a (.c (.own 0 (.int .u8) (b ++ celO (l.take i)))))), (1, XV.s .none), (4, XV.s .none), (6, XV.s .none), (7, XV.s (.a (.c (.own 1 (.int .i64) l)))), (8, XV.s (.int .i64 (l.length : Nat))), (9, XV.s (.int .i64 (i : Nat))), (10, XV.s .none)])
      (fun i => [tokB (b ++ celO (l.take i)).length, .tok t2 c2 n2 z2]) (fun i => i ≤ l.length) (fun i => l.length - i) 0 ?_ (Nat.zero_le _) fun i hi => ?_
    · rw [show b ++ celO (l.take 0) = b by simp [celO]]
      refine Weak.le _ ?_
      repeat (first | exact LeL.nil | refine LeL.drop ?_ | refine LeL.same ?_)
    repeat ((conv => whnf); refine ⟨by first | (unfold inI64; omega) | omega | exact ⟨by omega, by omega⟩ | exact rfl | decide +kernel, ?_⟩)
    conv => whnf
    refine cond_intro (fun h => ?_) (fun h => ?_)
    · have hlt : i < l.length := lt_of_dec h
      have hb : 0 ≤ (i : Int) ∧ (i : Int) < (l.length : Nat) := by omega
      have hcap : (b ++ celO (l.take i)).length + 4 ≤ capBound := cel_cap i (by first | omega | exact hl | (rw [List.length_nil]; omega))
      have hnx := take_cel hlt b
      have hnl : (b ++ celO (l.take i)).length + 4 = (b ++ celO (l.take (i + 1))).length := cel_nl hlt _
      repeat ((conv => whnf); refine ⟨by first | exact hb | exact hcap | (unfold inI64; omega) | omega | exact ⟨by omega, by omega⟩ | exact rfl | decide +kernel, ?_⟩)
      conv => whnf
      refine head_keep (i + 1) [0, 1] rfl id2 ?_ ?_ hlt (by show l.length - (i + 1) < l.length - i; omega)
      · show some [AO.tok _ _ ((b ++ celO (l.take i)).length + 4) true, .tok t2 c2 n2 z2] = _
        rw [hnl]
      · dsimp only
        rw [← hnx]
        repeat (first | exact KeepL.nil | refine KeepL.drop ?_ | refine KeepL.ren rfl ?_)
    · obtain rfl : i = l.length := by have := ge_of_dec h; omega
      repeat ((conv => whnf); refine ⟨by first | (unfold inI64; omega) | omega | exact ⟨by omega, by omega⟩ | exact rfl | decide +kernel, ?_⟩)
      conv => whnf
      rw [List.take_length]
      exact ends_eq ⟨rfl, rfl⟩
  · cases hs
theorem ap_p : TSound Try.prog (ext BA1 30 saysApP) := by
  refine ext_run bA1 (f := 30) (fn := Try.f30) rfl rfl [0, 1, 4, 6, 7, 8, 9, 10] fun args H p r H' hs hp => ?_
  unfold saysApP at hs
  split at hs
  · rename_i b l _
    cases hs
    obtain ⟨hH, hl⟩ := hp
    rw [hH]
    refine ⟨Nat.le_of_ble_eq_true rfl, [0], rfl, id0, ?_⟩
    repeat ((conv => whnf); refine ⟨by first | (unfold inI64; omega) | omega | exact ⟨by omega, by omega⟩ | exact rfl | decide +kernel, ?_⟩)
    conv => whnf
    refine loop_weak (σ := Nat) (fun i => [(0, XV.s (.a (.c (.own 0 (.int .u8) (b ++ celO (l.take i)))))), (1, XV.s .none), (4, XV.s .none), (6, XV.s .none), (7, XV.s (.a (.c (.p (.l (.int .i64) l))))), (8, XV.s (.int .i64 (l.length : Nat))), (9, XV.s (.int .i64 (i : Nat))), (10, XV.s .none)])
      (fun i => [tokB (b ++ celO (l.take i)).length]) (fun i => i ≤ l.length) (fun i => l.length - i) 0 ?_ (Nat.zero_le _) fun i hi => ?_
    · rw [show b ++ celO (l.take 0) = b by simp [celO]]
      refine Weak.le _ ?_
      repeat (first | exact LeL.nil | refine LeL.drop ?_ | refine LeL.same ?_)
    repeat ((conv => whnf); refine ⟨by first | (unfold inI64; omega) | omega | exact ⟨by omega, by omega⟩ | exact rfl | decide +kernel, ?_⟩)
    conv => whnf
    refine cond_intro (fun h => ?_) (fun h => ?_)
    · have hlt : i < l.length := lt_of_dec h
      have hb : 0 ≤ (i : Int) ∧ (i : Int) < (l.length : Nat) := by omega
      have hcap : (b ++ celO (l.take i)).length + 4 ≤ capBound := cel_cap i (by first | omega | exact hl | (rw [List.length_nil]; omega))
      have hnx := take_cel hlt b
      have hnl : (b ++ celO (l.take i)).length + 4 = (b ++ celO (l.take (i + 1))).length := cel_nl hlt _
      repeat ((conv => whnf); refine ⟨by first | exact hb | exact hcap | (unfold inI64; omega) | omega | exact ⟨by omega, by omega⟩ | exact rfl | decide +kernel, ?_⟩)
      conv => whnf
      refine head_keep (i + 1) [0] rfl id0 ?_ ?_ hlt (by show l.length - (i + 1) < l.length - i; omega)
      · show some [AO.tok _ _ ((b ++ celO (l.take i)).length + 4) true] = _
        rw [hnl]
      · dsimp only
        rw [← hnx]
        repeat (first | exact KeepL.nil | refine KeepL.drop ?_ | refine KeepL.ren rfl ?_)
    · obtain rfl : i = l.length := by have := ge_of_dec h; omega
      repeat ((conv => whnf); refine ⟨by first | (unfold inI64; omega) | omega | exact ⟨by omega, by omega⟩ | exact rfl | decide +kernel, ?_⟩)
      conv => whnf
      rw [List.take_length]
      exact ends_eq ⟨rfl, rfl⟩
  · cases hs
theorem ap_z : TSound Try.prog (ext BA1 30 saysApZ) := by
  refine ext_run bA1 (f := 30) (fn := Try.f30) rfl rfl [0, 1, 4, 6, 7, 8, 9, 10] fun args H p r H' hs hp => ?_
  unfold saysApZ at hs
  split at hs
  · rename_i l
    cases hs
    have hl : 4 * l.length ≤ 1000000000 := hp
    refine ⟨Nat.le_of_ble_eq_true rfl, [0], rfl, (fun k hk => absurd hk (Nat.not_lt_zero k)), ?_⟩
    repeat ((conv => whnf); refine ⟨by first | (unfold inI64; omega) | omega | exact ⟨by omega, by omega⟩ | exact rfl | decide +kernel, ?_⟩)
    conv => whnf
    refine loop_weak (σ := Nat) (fun i => [(0, XV.s (.a (.c (.own 0 (.int .u8) (([] : List Int) ++ celO (l.take i)))))), (1, XV.s .none), (4, XV.s .none), (6, XV.s .none), (7, XV.s (.a (.c (.p (.l (.int .i64) l))))), (8, XV.s (.int .i64 (l.length : Nat))), (9, XV.s (.int .i64 (i : Nat))), (10, XV.s .none)])
      (fun i => [tokB (([] : List Int) ++ celO (l.take i)).length]) (fun i => i ≤ l.length) (fun i => l.length - i) 0 ?_ (Nat.zero_le _) fun i hi => ?_
    · refine Weak.own 5 ?_
      repeat (first | exact OwnL.nil | refine OwnL.drop ?_ | refine OwnL.same ?_ | refine OwnL.own ?_)
    repeat ((conv => whnf); refine ⟨by first | (unfold inI64; omega) | omega | exact ⟨by omega, by omega⟩ | exact rfl | decide +kernel, ?_⟩)
    conv => whnf
    refine cond_intro (fun h => ?_) (fun h => ?_)
    · have hlt : i < l.length := lt_of_dec h
      have hb : 0 ≤ (i : Int) ∧ (i : Int) < (l.length : Nat) := by omega
      have hcap : (([] : List Int) ++ celO (l.take i)).length + 4 ≤ capBound := cel_cap i (by first | omega | exact hl | (rw [List.length_nil]; omega))
      have hnx := take_cel hlt ([] : List Int)
      have hnl : (([] : List Int) ++ celO (l.take i)).length + 4 = (([] : List Int) ++ celO (l.take (i + 1))).length := cel_nl hlt _
      repeat ((conv => whnf); refine ⟨by first | exact hb | exact hcap | (unfold inI64; omega) | omega | exact ⟨by omega, by omega⟩ | exact rfl | decide +kernel, ?_⟩)
      conv => whnf
      refine head_keep (i + 1) [0] rfl (fun k hk => absurd hk (Nat.not_lt_zero k)) ?_ ?_ hlt (by show l.length - (i + 1) < l.length - i; omega)
      · show some [AO.tok _ _ ((([] : List Int) ++ celO (l.take i)).length + 4) true] = _
        rw [hnl]
      · dsimp only
        rw [← hnx]
        repeat (first | exact KeepL.nil | refine KeepL.drop ?_ | refine KeepL.ren rfl ?_)
    · obtain rfl : i = l.length := by have := ge_of_dec h; omega
      repeat ((conv => whnf); refine ⟨by first | (unfold inI64; omega) | omega | exact ⟨by omega, by omega⟩ | exact rfl | decide +kernel, ?_⟩)
      conv => whnf
      rw [List.take_length]
      exact ends_eq ⟨rfl, rfl⟩
  · cases hs
def BA2 : Table := ext BA1 30 (orS saysApO (orS saysApP saysApZ))
theorem bA2 : TSound Try.prog BA2 := ext_or ap_o (ext_or ap_p ap_z)

theorem al_mid {n j : Nat} (h : n + j ≤ alN n) : alN (n + j) = alN n := by
  unfold alN at *
  omega
def saysAv : Says := fun args H => match args, H with
  | [.c (.own 0 (.int .u8) b), .c (.p (.v (.string s)))], [_] => some (some (H = [tokB b.length] ∧ b.length + s.size ≤ 1000000000), .a (.c (.own 0 (.int .u8) (apV b s))), [tokB (apV b s).length])
  | _, _ => none
def BA3 : Table := ext BA2 60 saysAv
theorem bA3 : TSound Try.prog BA3 := by
  refine ext_run bA2 (f := 60) (fn := Try.f60) rfl rfl [0, 1, 4, 13] fun args H p r H' hs hp => ?_
  unfold saysAv at hs
  split at hs
  · rename_i b s _
    cases hs
    obtain ⟨hH, hl⟩ := hp
    rw [hH]
    refine ⟨Nat.le_of_ble_eq_true rfl, [0], rfl, id0, ?_⟩
    obtain ⟨B, hB⟩ : ∃ B, b ++ bL s = B := ⟨_, rfl⟩
    have hBl : B.length = b.length + s.size := by rw [← hB, List.length_append, bL_len]
    have hBl' : b.length + (bL s).length = B.length := by rw [bL_len, hBl]
    have hal := al_le B.length
    have hcap0 : b.length + (bL s).length ≤ capBound := by rw [hBl']; exact Nat.le_trans (m := 1000000000) (by omega) (by decide)
    unfold apV padL
    rw [hB]
    repeat ((conv => whnf); refine ⟨by first | exact hcap0 | (unfold inI64; omega) | omega | exact ⟨by omega, by omega⟩ | exact rfl | decide +kernel, ?_⟩)
    conv => whnf
    refine loop_intro (σ := Nat) (fun j => [(0, XV.s (.a (.c (.own 0 (.int .u8) (B ++ List.replicate j 0))))), (1, XV.s .none), (4, XV.s .none), (13, XV.s .none)])
      (fun j => [tokB (B ++ List.replicate j (0 : Int)).length]) (fun j => B.length + j ≤ alN B.length) (fun j => alN B.length - (B.length + j)) 0 ?_ ?_ ?_ fun j hj => ?_
    · rw [show B ++ List.replicate 0 (0 : Int) = B from List.append_nil B, ← hB]
      repeat (first | exact LeL.nil | refine LeL.drop ?_ | refine LeL.same ?_)
    · rw [show B ++ List.replicate 0 (0 : Int) = B from List.append_nil B, ← hB, List.length_append]
      rfl
    · omega
    have hlen : (B ++ List.replicate j (0 : Int)).length = B.length + j := by rw [List.length_append, List.length_replicate]
    have hok : (0 : Int) ≤ ((B ++ List.replicate j (0 : Int)).length : Nat) ∧ ((B ++ List.replicate j (0 : Int)).length : Int) ≤ 1000000000000 := by omega
    repeat ((conv => whnf); refine ⟨by first | exact ⟨rfl, hok⟩ | (unfold inI64; omega) | omega | exact ⟨by omega, by omega⟩ | exact rfl | decide +kernel, ?_⟩)
    conv => whnf
    refine cond_intro (fun h => ?_) (fun h => ?_)
    · have h1 : (B ++ List.replicate j (0 : Int)).length < alN (B ++ List.replicate j (0 : Int)).length := lt_of_dec h
      rw [hlen, al_mid hj] at h1
      have hcap : (B ++ List.replicate j (0 : Int)).length + 1 ≤ capBound := by rw [hlen]; exact Nat.le_trans (m := 10000000000) (by omega) (by decide)
      have hnx : (B ++ List.replicate j (0 : Int)) ++ [0] = B ++ List.replicate (j + 1) (0 : Int) := by rw [List.append_assoc, List.replicate_succ']
      have hnl : (B ++ List.replicate j (0 : Int)).length + 1 = (B ++ List.replicate (j + 1) (0 : Int)).length := by rw [← hnx, hlen]; simp; omega
      repeat ((conv => whnf); refine ⟨by first | exact hcap | (unfold inI64; omega) | omega | exact ⟨by omega, by omega⟩ | exact rfl | decide +kernel, ?_⟩)
      conv => whnf
      refine head_keep (j + 1) [0] rfl id0 ?_ ?_ (by omega) (by show alN B.length - (B.length + (j + 1)) < alN B.length - (B.length + j); omega)
      · show some [AO.tok _ _ ((B ++ List.replicate j (0 : Int)).length + 1) true] = _
        rw [hnl]
      · dsimp only
        rw [← hnx]
        repeat (first | exact KeepL.nil | refine KeepL.drop ?_ | refine KeepL.ren rfl ?_)
    · have h1 : alN (B ++ List.replicate j (0 : Int)).length ≤ (B ++ List.replicate j (0 : Int)).length := ge_of_dec h
      rw [hlen, al_mid hj] at h1
      obtain rfl : j = alN B.length - B.length := by omega
      repeat ((conv => whnf); refine ⟨by first | (unfold inI64; omega) | omega | exact ⟨by omega, by omega⟩ | exact rfl | decide +kernel, ?_⟩)
      conv => whnf
      exact ends_eq ⟨rfl, rfl⟩
  · cases hs
def saysAt : Says := fun args H => match args, H with
  | [.c (.own 0 (.int .u8) b), .c (.p (.v (.string s)))], [_] => some (some (H = [tokB b.length] ∧ b.length + s.size ≤ 100000000), .a (.c (.own 0 (.int .u8) (apT b s))), [tokB (apT b s).length])
  | _, _ => none
def BA4 : Table := ext BA3 59 saysAt
theorem bA4 : TSound Try.prog BA4 := by
  refine ext_run bA3 (f := 59) (fn := Try.f59) rfl rfl [0, 1, 4] fun args H p r H' hs hp => ?_
  unfold saysAt at hs
  split at hs
  · rename_i b s _
    cases hs
    obtain ⟨hH, hl⟩ := hp
    rw [hH]
    refine ⟨Nat.le_of_ble_eq_true rfl, [0], rfl, id0, ?_⟩
    have hz : (s ++ zro).size = s.size + 1 := by rw [ByteArray.size_append]; rfl
    have hsz : (((s.size + zro.size : Nat)) : Int) ≤ 9223372036854775807 := by rw [show zro.size = 1 from rfl]; omega
    have hok : [tokB b.length] = [tokB b.length] ∧ b.length + (s ++ zro).size ≤ 1000000000 := ⟨rfl, by rw [hz]; omega⟩
    repeat ((conv => whnf); refine ⟨by first | exact hsz | exact hok | (unfold inI64; omega) | omega | exact ⟨by omega, by omega⟩ | exact rfl | decide +kernel, ?_⟩)
    conv => whnf
    exact ends_eq ⟨rfl, rfl⟩
  · cases hs

/-! Check numbers. -/
def sumGo (s : Int) (i : Nat) : List Int → Int
  | [] => s
  | c :: r => sumGo (IntKind.u32.wrap (s + IntKind.u32.wrap (IntKind.u32.wrap ((i : Int) + 1) * IntKind.u32.wrap c))) (i + 1) r
def sumV (zs : List Int) : Int := sumGo 0 0 zs
theorem wrap32 (n : Int) : 0 ≤ IntKind.u32.wrap n ∧ IntKind.u32.wrap n < 4294967296 := by
  unfold IntKind.wrap
  simp [IntKind.bits, IntKind.signed]
  omega
theorem sumGo_in : ∀ (l : List Int) (s : Int) (i : Nat), 0 ≤ s ∧ s < 4294967296 → 0 ≤ sumGo s i l ∧ sumGo s i l < 4294967296 := by
  intro l
  induction l with
  | nil => intro s i h; exact h
  | cons c r ih => intro s i _; exact ih _ _ (wrap32 _)
theorem sumV_in (l : List Int) : 0 ≤ sumV l ∧ sumV l < 4294967296 := sumGo_in l 0 0 ⟨by decide, by decide⟩
theorem sum_drop {l : List Int} {i : Nat} (h : i < l.length) (s : Int) : sumGo s i (l.drop i) = sumGo (IntKind.u32.wrap (s + IntKind.u32.wrap (IntKind.u32.wrap ((i : Int) + 1) * IntKind.u32.wrap (l.getD i 0)))) (i + 1) (l.drop (i + 1)) := by
  rw [List.drop_eq_getElem_cons h, show l.getD i 0 = l[i] by simp [h]]
  rfl
def daB : List AV → Option (List Int)
  | [.c (.p (.l c0 zs))] => castD (e := .int .u8) (e' := c0) zs
  | _ => none
def eaB (zs : List Int) : List AV := [.c (.p (.l (.int .u8) zs))]
def BA5 : Table := ext BA4 31 (saysG daB eaB fun zs => (some (zs.length ≤ 1000000000), .int .i64 (sumV zs)))
theorem bA5 : TSound Try.prog BA5 := by
  refine extG bA4 31 (fn := Try.f31) rfl rfl daB eaB _ (fun _ => Nat.le_of_ble_eq_true rfl) [0, 2, 3, 4, 5, 6, 7, 8, 9] fun zs hok => ?_
  have hl : zs.length ≤ 1000000000 := hok
  have hin := sumV_in zs
  obtain ⟨R, hR⟩ : ∃ R, sumV zs = R := ⟨_, rfl⟩
  dsimp only
  rw [hR] at hin ⊢
  unfold sumV at hR
  repeat ((conv => whnf); refine ⟨by first | (unfold inI64; omega) | omega | exact ⟨by omega, by omega⟩ | exact rfl | decide +kernel, ?_⟩)
  conv => whnf
  refine loop_intro (σ := Nat × Int) (fun ⟨i, s⟩ => [(0, XV.s .none), (2, XV.s .none), (3, XV.s (.int .u32 s)), (4, XV.s .none), (5, XV.s .none), (6, XV.s (.a (.c (.p (.l (.int .u8) zs))))), (7, XV.s (.int .i64 (zs.length : Nat))), (8, XV.s (.int .i64 (i : Nat))), (9, XV.s .none)])
    (fun _ => []) (fun ⟨i, s⟩ => i ≤ zs.length ∧ sumGo s i (zs.drop i) = R) (fun ⟨i, _⟩ => zs.length - i) (0, 0) ?_ rfl ⟨Nat.zero_le _, hR⟩ ?_
  · repeat (first | exact LeL.nil | refine LeL.drop ?_ | refine LeL.same ?_)
  rintro ⟨i, s⟩ ⟨hi, hgo⟩
  repeat ((conv => whnf); refine ⟨by first | (unfold inI64; omega) | omega | exact ⟨by omega, by omega⟩ | exact rfl | decide +kernel, ?_⟩)
  conv => whnf
  refine cond_intro (fun h => ?_) (fun h => ?_)
  · have hlt : i < zs.length := lt_of_dec h
    have hb : 0 ≤ (i : Int) ∧ (i : Int) < (zs.length : Nat) := by omega
    rw [sum_drop hlt] at hgo
    repeat ((conv => whnf); refine ⟨by first | exact hb | (unfold inI64; omega) | omega | exact ⟨by omega, by omega⟩ | exact rfl | decide +kernel, ?_⟩)
    conv => whnf
    refine head_intro (i + 1, _) ?_ rfl ⟨hlt, hgo⟩ (by show zs.length - (i + 1) < zs.length - i; omega)
    repeat (first | exact LeL.nil | refine LeL.drop ?_ | refine LeL.same ?_)
  · obtain rfl : i = zs.length := by have := ge_of_dec h; omega
    rw [List.drop_length] at hgo
    have hgo : s = R := hgo
    subst hgo
    repeat ((conv => whnf); refine ⟨by first | (unfold inI64; omega) | omega | exact ⟨by omega, by omega⟩ | exact rfl | decide +kernel, ?_⟩)
    conv => whnf
    exact ends_eq ⟨rfl, rfl⟩
end Go.Ab
namespace Go.Ab
set_option linter.unusedSectionVars false
variable [Base]

/-! A loop at the very beginning of a function: slots that were not written yet. -/
def LeP : Env → Env → Prop
  | [], [] => True
  | (_, x) :: r, [] => x = .s .none ∧ LeP r []
  | (t, x) :: r, (u, y) :: q => t = u ∧ (x = .s .none ∨ x = y) ∧ LeP r q
  | [], _ :: _ => False
theorem LeP.nil : LeP [] [] := trivial
theorem LeP.same {t : Nat} {x : XV} {r q : Env} (h : LeP r q) : LeP ((t, x) :: r) ((t, x) :: q) := ⟨rfl, .inr rfl, h⟩
theorem LeP.eq {t : Nat} {x y : XV} {r q : Env} (he : x = y) (h : LeP r q) : LeP ((t, x) :: r) ((t, y) :: q) := ⟨rfl, .inr he, h⟩
theorem LeP.drop {t : Nat} {y : XV} {r q : Env} (h : LeP r q) : LeP ((t, .s .none) :: r) ((t, y) :: q) := ⟨rfl, .inl rfl, h⟩
theorem LeP.more {t : Nat} {r : Env} (h : LeP r []) : LeP ((t, .s .none) :: r) [] := ⟨rfl, h⟩
theorem LeP.get : ∀ {e e' : Env}, LeP e e' → ∀ t, e.get t = .s .none ∨ e.get t = e'.get t
  | [], [], _, _ => .inr rfl
  | (a, x) :: r, [], h, t => by
    obtain ⟨rfl, h3⟩ := h
    rw [Env.get_cons]
    by_cases he : a = t
    · rw [if_pos he]; exact .inl rfl
    · rw [if_neg he]; exact LeP.get h3 t
  | (a, x) :: r, (b, y) :: q, h, t => by
    obtain ⟨rfl, h2, h3⟩ := h
    rw [Env.get_cons, Env.get_cons]
    by_cases he : a = t
    · rw [if_pos he, if_pos he]; exact h2
    · rw [if_neg he, if_neg he]; exact LeP.get h3 t
  | [], _ :: _, h, _ => h.elim
theorem Weak.pad {n m : Nat} {e e' : Env} (H : List AO) (h : LeP e' e) : Weak n m e H e' H := fun G0 G a hx hm hS hH hE => by
  refine ⟨G, rfl, hx, hS, hH, fun t => ?_, hE.size, hE.defers⟩
  rcases h.get t with h1 | h1
  · rw [h1]; trivial
  · rw [h1]; exact hE.get t
end Go.Ab
namespace Go.Ab
open Go.Proofs
set_option linter.unusedSectionVars false
set_option maxRecDepth 100000
variable [Base]

abbrev hpC (x : Int) (ns : List Nd) (S : List Int) : List AO := [.row [.int .i64 x], .row [.p (.l ndC ns)], .row [.own 3 (.int .u8) S], tokB S.length]
def daC : List AO → Option (Int × List Nd × List Int)
  | [.row [.p (.v (.int .i64 x))], .row [.p (.l c0 ns)], .row [.own 3 (.int .u8) S], _] => match castD (e := ndC) (e' := c0) ns with | some ns => some (x, ns, S) | none => none
  | _ => none
def clV (ns : List Nd) (q x : Int) (S : List Int) : List Int := S ++ celO (List.replicate (clG ns q (ns.length + 1) x) 2)
def saysEnd : Says := fun args H => match args, daC H with
  | [.c (.p (.v (.int .i64 q))), .c (.ptr 0 0), .c (.ptr 1 0), .c (.ptr 2 0)], some (x, ns, S) => some (some (H = hpC x ns S ∧ ns.length ≤ 1000000 ∧ S.length ≤ 100000000 ∧ clB ns q (ns.length + 1) x = true), .tup [], hpC q ns (clV ns q x S))
  | _, _ => none
theorem cl_step {ns : List Nd} {q x : Int} {k : Nat} (h : clB ns q k x = true) (hne : ¬ x = q) : ∃ m, k = m + 1 ∧ (0 ≤ x ∧ x < (ns.length : Nat)) ∧ clB ns q m (ndAt ns x.toNat).1 = true ∧ clG ns q k x = clG ns q m (ndAt ns x.toNat).1 + 1 := by
  cases k with
  | zero => exact absurd (of_decide_eq_true h) hne
  | succ m =>
    have h1 : (if x = q then true else (decide (0 ≤ x) && decide (x < (ns.length : Nat))) && clB ns q m (ndAt ns x.toNat).1) = true := h
    rw [if_neg hne] at h1
    obtain ⟨h2, h3⟩ := Bool.and_eq_true_iff.1 h1
    obtain ⟨h4, h5⟩ := Bool.and_eq_true_iff.1 h2
    exact ⟨m, rfl, ⟨of_decide_eq_true h4, of_decide_eq_true h5⟩, h3, if_neg hne⟩
theorem cel_two (S : List Int) (n : Nat) : (S ++ celO [2]) ++ celO (List.replicate n 2) = S ++ celO (List.replicate (n + 1) 2) := by
  rw [List.append_assoc, ← celO_app]
  rfl
def BA6 : Table := ext BA5 58 saysEnd
theorem bA6 : TSound Try.prog BA6 := by
  refine ext_run bA5 (f := 58) (fn := Try.f58) rfl rfl [0, 1, 2, 3, 7] fun args H p r H' hs hp => ?_
  unfold saysEnd at hs
  split at hs
  · rename_i q x ns S _
    cases hs
    obtain ⟨hH, hn, hS, hc⟩ := hp
    rw [hH]
    refine ⟨Nat.le_of_ble_eq_true rfl, [0, 1, 2, 3], rfl, id4, ?_⟩
    obtain ⟨R, hR⟩ : ∃ R, clV ns q x S = R := ⟨_, rfl⟩
    rw [hR]
    unfold clV at hR
    repeat ((conv => whnf); refine ⟨by first | (unfold inI64; omega) | omega | exact ⟨by omega, by omega⟩ | exact rfl | decide +kernel, ?_⟩)
    conv => whnf
    refine loop_weak (σ := Nat × Int × List Int) (fun ⟨_, _, _⟩ => [(0, XV.s (.int .i64 q)), (1, XV.s (.a (.c (.ptr 0 0)))), (2, XV.s (.a (.c (.ptr 1 0)))), (3, XV.s (.a (.c (.ptr 2 0)))), (7, XV.s .none)])
      (fun ⟨_, x, S⟩ => hpC x ns S) (fun ⟨k, x, S⟩ => clB ns q k x = true ∧ S.length + 4 * k ≤ 200000000 ∧ S ++ celO (List.replicate (clG ns q k x) 2) = R) (fun ⟨k, _, _⟩ => k) (ns.length + 1, x, S) ?_ ⟨hc, by omega, hR⟩ ?_
    · refine Weak.pad _ ?_
      exact LeP.same (LeP.same (LeP.same (LeP.same (LeP.more LeP.nil))))
    rintro ⟨k, y, T⟩ ⟨hk, hl, hgo⟩
    repeat ((conv => whnf); refine ⟨by first | (unfold inI64; omega) | omega | exact ⟨by omega, by omega⟩ | exact rfl | decide +kernel, ?_⟩)
    conv => whnf
    refine cond_intro (fun h => ?_) (fun h => ?_)
    · have hne : ¬ y = q := by simpa using h
      obtain ⟨m, rfl, hin, h2, h3⟩ := cl_step hk hne
      rw [h3, ← cel_two] at hgo
      have hok : [tokB T.length, AO.tok 3 (.int .i64) 1 false] = [tokB T.length, AO.tok 3 (.int .i64) 1 false] ∧ T.length + 4 * [(2 : Int)].length ≤ 1000000000 := ⟨rfl, by simp; omega⟩
      repeat ((conv => whnf); refine ⟨by first | exact hok | exact hin | (unfold inI64; omega) | omega | exact ⟨by omega, by omega⟩ | exact rfl | decide +kernel, ?_⟩)
      conv => whnf
      refine head_keep (m, (ndAt ns y.toNat).1, T ++ celO [2]) [0, 1, 2, 3] rfl id4 rfl ?_ ⟨h2, by rw [List.length_append, celO_length]; simp; omega, hgo⟩ (Nat.lt_succ_self m)
      repeat (first | exact KeepL.nil | refine KeepL.drop ?_ | refine KeepL.ren rfl ?_)
    · have hne : y = q := by simpa using h
      subst hne
      rw [(cl_self ns y k).1, show celO (List.replicate 0 2) = [] from rfl, List.append_nil] at hgo
      rw [← hgo]
      repeat ((conv => whnf); refine ⟨by first | (unfold inI64; omega) | omega | exact ⟨by omega, by omega⟩ | exact rfl | decide +kernel, ?_⟩)
      conv => whnf
      exact ends_eq ⟨rfl, rfl⟩
  · cases hs
end Go.Ab
