/- The law of the reader holds in the abstract machine. -/
import Derived.Test.YticjnehdhageoaaAbR24
namespace Go.Ab
open Go.Proofs
set_option linter.unusedSectionVars false
set_option maxRecDepth 100000
variable [Glob]

theorem spoil_size (zs : List Int) (n : Int) (s : ByteArray) : (spoilV zs n s).1.size ≤ 3 * s.size + 40 := by
  have hx : ∀ a b : Nat, (s.extract a b).size ≤ s.size := fun a b => by rw [ByteArray.size_extract]; omega
  have ho := fun n => pick_len (l := oddL) (b := 40) (by decide +kernel) zs n
  have hp := fun n => pick_len (l := pieceL) (b := 40) (by decide +kernel) zs n
  unfold spoilV
  split
  · have := ho n; simp only; omega
  · unfold spoilM
    have x1 := hx 0 (modV (rawV zs n) s.size).toNat
    have x2 := hx (modV (rawV zs n) s.size + 1).toNat s.size
    have x3 := hx (modV (rawV zs n) s.size).toNat (modV (rawV zs n) s.size + 1).toNat
    have x4 := hx (modV (rawV zs n) s.size).toNat s.size
    have x5 := ho (rawN zs (rawN zs n))
    have x6 := hp (rawN zs (rawN zs n))
    have x7 : (bytesOf [IntKind.u8.wrap (modV (rawV zs (rawN zs (rawN zs n))) 256)]).size = 1 := rfl
    split
    · simp only [ByteArray.size_append]; omega
    split
    · simp only [ByteArray.size_append]; omega
    split
    · simp only [ByteArray.size_append]; omega
    split
    · simp only [ByteArray.size_append]; omega
    · simp only [ByteArray.size_append]; omega

theorem spoil_place (zs : List Int) (n : Int) (s : ByteArray) (h : 0 ≤ n) : 0 ≤ (spoilV zs n s).2 ∧ (spoilV zs n s).2 ≤ n + 3 := by
  have r1 := rawN_le zs n h
  have r2 := rawN_le zs _ r1.1
  have r3 := rawN_le zs _ r2.1
  unfold spoilV
  split
  · simp only; omega
  · unfold spoilM
    repeat' split
    all_goals (simp only; omega)

def T74 : Table := ext T73 3 (fun args H => match args, H with | [.c (.p (.l (.int .i64) _)), .c (.p (.v (.string _))), .c (.p (.v (.int .i64 _)))], [] => some (none, .bool true, []) | _, _ => none)

theorem t74 : TSound Try.prog T74 := by
  refine ext_run t73 (f := 3) (fn := Try.f3) rfl rfl [0, 1, 2, 6, 7, 8, 10, 11, 12, 13, 14, 15, 16, 19, 36, 37, 38, 39, 69] fun args H p r H' hs hp => ?_
  split at hs
  · rename_i zs raw file
    cases hs
    refine ⟨by show 3 ≤ _; decide, [], rfl, fun k hk => absurd hk (Nat.not_lt_zero k), ?_⟩
    have hl : (zs.take 500).length ≤ 500 := by rw [List.length_take]; omega
    repeat ((conv => whnf); refine ⟨by first | (unfold inI64; omega) | omega | exact ⟨by omega, by omega⟩ | (intro hg; first | (unfold inI64; omega) | omega | exact ⟨by omega, by omega⟩ | (simp [lit] at hg; unfold inI64; omega) | (simp [lit] at hg; omega) | (simp [lit] at hg; exact ⟨by omega, by omega⟩)) | (show (_ : Nat) + 1 ≤ 1000000000000; omega) | exact rfl | (unfold inI64; dsimp only; omega) | (dsimp only; omega) | (intro hg; simp [lit] at hg; first | (unfold inI64; dsimp only; omega) | (dsimp only; omega)) | decide +kernel, ?_⟩)
    conv => whnf
    refine cond_intro (fun h => ?_) (fun h => ?_)
    · repeat ((conv => whnf); refine ⟨by first | (unfold inI64; omega) | omega | exact ⟨by omega, by omega⟩ | (intro hg; first | (unfold inI64; omega) | omega | exact ⟨by omega, by omega⟩ | (simp [lit] at hg; unfold inI64; omega) | (simp [lit] at hg; omega) | (simp [lit] at hg; exact ⟨by omega, by omega⟩)) | (show (_ : Nat) + 1 ≤ 1000000000000; omega) | exact rfl | (unfold inI64; dsimp only; omega) | (dsimp only; omega) | (intro hg; simp [lit] at hg; first | (unfold inI64; dsimp only; omega) | (dsimp only; omega)) | decide +kernel, ?_⟩)
      conv => whnf
      exact ends_eq ⟨rfl, rfl⟩
    have hraw : raw.size ≤ 2000 := by have : ¬ (2000 : Int) < raw.size := of_decide_eq_false h
                                      omega
    conv => whnf
    generalize hq : zs.take 500 = q at hl
    have k1 := srcV_le q 0 40 (by omega) (by omega)
    have z1 := spoil_size q (srcV q 0 40).2 (srcV q 0 40).1
    have p1 := spoil_place q (srcV q 0 40).2 (srcV q 0 40).1 k1.1
    refine ⟨⟨by omega, by omega, by omega, by omega, by omega⟩, ?_⟩
    conv => whnf
    dsimp only
    generalize hA : (srcV q 0 40).1 = A at k1 z1 p1
    generalize hn1 : (srcV q 0 40).2 = n1 at k1 z1 p1
    generalize hB : (spoilV q n1 A).1 = Bs at z1
    generalize hn2 : (spoilV q n1 A).2 = n2 at p1
    refine ⟨⟨by omega, by omega, by omega, by omega⟩, ?_⟩
    conv => whnf
    dsimp only
    have k2 := srcV_le q n2 12 p1.1 (by omega)
    have z2 := spoil_size q (srcV q n2 12).2 (srcV q n2 12).1
    have p2 := spoil_place q (srcV q n2 12).2 (srcV q n2 12).1 k2.1
    generalize hC : (srcV q n2 12).1 = C at k2 z2 p2
    generalize hn3 : (srcV q n2 12).2 = n3 at k2 z2 p2
    refine ⟨⟨by omega, by omega, by omega, by omega, by omega⟩, ?_⟩
    conv => whnf
    dsimp only
    have z3 := spoil_size q (spoilV q n3 C).2 (spoilV q n3 C).1
    have p3 := spoil_place q (spoilV q n3 C).2 (spoilV q n3 C).1 p2.1
    generalize hD : (spoilV q n3 C).1 = D at z2 z3 p3
    generalize hn4 : (spoilV q n3 C).2 = n4 at p2 z3 p3
    refine ⟨⟨by omega, by omega, by omega, by omega⟩, ?_⟩
    conv => whnf
    dsimp only
    generalize hE : (spoilV q n4 D).1 = E at z3
    generalize hn5 : (spoilV q n4 D).2 = n5 at p3
    refine ⟨⟨by omega, by omega, by omega, by omega⟩, ?_⟩
    conv => whnf
    dsimp only
    generalize hL : [raw, A, Bs, E] = L
    have hl4 : L.length = 4 := by rw [← hL]; rfl
    refine loop_intro (σ := Nat) (fun j => [(0, XV.s .none), (1, XV.s .none), (2, XV.s (.int .i64 file)), (6, XV.s .none), (7, XV.s .none), (8, XV.s .none), (10, XV.s .none), (11, XV.s .none), (12, XV.s .none), (13, XV.s .none), (14, XV.s .none), (15, XV.s .none), (16, XV.s .none), (19, XV.s .none), (36, XV.s (.a (.c (.own 1 .str L)))), (37, XV.s (.int .i64 L.length)), (38, XV.s (.int .i64 j)), (39, XV.s .none), (69, XV.s .none)])
      (fun _ => [tapeO q n5, .tok 9 .str 4 false])
      (fun j => j ≤ 4) (fun j => 4 - j) 0 ?_ rfl (Nat.zero_le _) fun j hI => ?_
    · repeat (first | exact LeL.nil | refine LeL.drop ?_ | refine LeL.same ?_)
    have hj : j ≤ 4 := hI
    repeat ((conv => whnf); refine ⟨by first | (unfold inI64; omega) | omega | exact ⟨by omega, by omega⟩ | (intro hg; first | (unfold inI64; omega) | omega | exact ⟨by omega, by omega⟩ | (simp [lit] at hg; unfold inI64; omega) | (simp [lit] at hg; omega) | (simp [lit] at hg; exact ⟨by omega, by omega⟩)) | (show (_ : Nat) + 1 ≤ 1000000000000; omega) | exact rfl | (unfold inI64; dsimp only; omega) | (dsimp only; omega) | (intro hg; simp [lit] at hg; first | (unfold inI64; dsimp only; omega) | (dsimp only; omega)) | decide +kernel, ?_⟩)
    conv => whnf
    refine cond_intro (fun g1 => ?_) (fun g1 => ?_)
    · have hlt : j < 4 := by have : (j : Int) < L.length := of_decide_eq_true g1
                             omega
      have hlen := readV_len (L.getD ((j : Int)).toNat CT.str.dflt).data.toList file
      have hlen' : (readV (L.getD ((j : Int)).toNat CT.str.dflt) file).toks.length ≤ 6001 := hlen
      repeat ((conv => whnf); refine ⟨by first | exact ⟨by omega, by omega⟩ | exact ⟨by decide +kernel, by decide +kernel⟩ | (intro hg; exact ⟨by decide +kernel, by decide +kernel⟩) | (intro hg; decide +kernel) | (unfold inI64; omega) | omega | exact ⟨by omega, by omega⟩ | (intro hg; first | (unfold inI64; omega) | omega | exact ⟨by omega, by omega⟩ | (simp [lit] at hg; unfold inI64; omega) | (simp [lit] at hg; omega) | (simp [lit] at hg; exact ⟨by omega, by omega⟩)) | (show (_ : Nat) + 1 ≤ 1000000000000; omega) | exact rfl | (unfold inI64; dsimp only; omega) | (dsimp only; omega) | (intro hg; simp [lit] at hg; first | (unfold inI64; dsimp only; omega) | (dsimp only; omega)) | decide +kernel, ?_⟩)
      conv => whnf
      refine cond_intro (fun g2 => ?_) (fun g2 => ?_)
      · exfalso
        generalize readV (L.getD ((j : Int)).toNat CT.str.dflt) file = V at g2
        simp [sameB] at g2
      repeat ((conv => whnf); refine ⟨by first | (unfold inI64; omega) | omega | exact ⟨by omega, by omega⟩ | (intro hg; first | (unfold inI64; omega) | omega | exact ⟨by omega, by omega⟩ | (simp [lit] at hg; unfold inI64; omega) | (simp [lit] at hg; omega) | (simp [lit] at hg; exact ⟨by omega, by omega⟩)) | (show (_ : Nat) + 1 ≤ 1000000000000; omega) | exact rfl | (unfold inI64; dsimp only; omega) | (dsimp only; omega) | (intro hg; simp [lit] at hg; first | (unfold inI64; dsimp only; omega) | (dsimp only; omega)) | decide +kernel, ?_⟩)
      conv => whnf
      refine head_keep (j + 1) [0, 1] rfl (fun k hk => ?_) rfl ?_ ?_ ?_
      · have hk' : k < 2 := hk
        have : k = 0 ∨ k = 1 := by omega
        rcases this with rfl | rfl <;> rfl
      · repeat (first | exact KeepL.nil | refine KeepL.drop ?_ | refine KeepL.ren rfl ?_)
      · show j + 1 ≤ 4
        omega
      · show 4 - (j + 1) < 4 - j
        omega
    · repeat ((conv => whnf); refine ⟨by first | (unfold inI64; omega) | omega | exact ⟨by omega, by omega⟩ | (intro hg; first | (unfold inI64; omega) | omega | exact ⟨by omega, by omega⟩ | (simp [lit] at hg; unfold inI64; omega) | (simp [lit] at hg; omega) | (simp [lit] at hg; exact ⟨by omega, by omega⟩)) | (show (_ : Nat) + 1 ≤ 1000000000000; omega) | exact rfl | (unfold inI64; dsimp only; omega) | (dsimp only; omega) | (intro hg; simp [lit] at hg; first | (unfold inI64; dsimp only; omega) | (dsimp only; omega)) | decide +kernel, ?_⟩)
      conv => whnf
      exact ends_eq ⟨rfl, rfl⟩
  · cases hs
end Go.Ab
