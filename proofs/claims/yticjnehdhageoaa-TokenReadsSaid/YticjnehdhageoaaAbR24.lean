/- The law of the reader: spoilt texts, and both readers. -/
import Derived.Test.YticjnehdhageoaaAbR23
namespace Go.Ab
open Go.Proofs
set_option linter.unusedSectionVars false
set_option maxRecDepth 100000
variable [Glob]

/-- A spoilt text, and the place of the tape behind it. -/
def spoilM (zs : List Int) (s : ByteArray) (k m n2 : Int) : ByteArray × Int :=
  if m = 0 then (s.extract 0 k.toNat ++ s.extract (k + 1).toNat s.size, n2)
  else if m = 1 then (s.extract 0 k.toNat ++ s.extract k.toNat (k + 1).toNat ++ s.extract k.toNat s.size, n2)
  else if m = 2 then (s.extract 0 k.toNat ++ bytesOf [IntKind.u8.wrap (modV (rawV zs n2) 256)] ++ s.extract (k + 1).toNat s.size, rawN zs n2)
  else if m = 3 then (s.extract 0 k.toNat ++ pickS oddL zs n2 ++ s.extract k.toNat s.size, rawN zs n2)
  else (s.extract 0 k.toNat ++ pickS pieceL zs n2 ++ s.extract k.toNat s.size, rawN zs n2)

def spoilV (zs : List Int) (n : Int) (s : ByteArray) : ByteArray × Int :=
  if s.size = 0 then (pickS oddL zs n, rawN zs n) else spoilM zs s (modV (rawV zs n) s.size) (modV (rawV zs (rawN zs n)) 5) (rawN zs (rawN zs n))

def T73 : Table := ext T72 12 (saysTapeS fun zs n s => (some (0 ≤ n ∧ n ≤ 1000000000 ∧ zs.length ≤ 1000000 ∧ s.size ≤ 1000000), .str (spoilV zs n s).1, (spoilV zs n s).2))

theorem t73 : TSound Try.prog T73 := by
  refine extTapeS t72 12 (fn := Try.f12) rfl rfl (by decide) _ [0, 1, 4, 5, 8, 16, 17, 27, 42, 58] fun zs n s hn => ?_
  obtain ⟨h0, h1, h2, h3⟩ : 0 ≤ n ∧ n ≤ 1000000000 ∧ zs.length ≤ 1000000 ∧ s.size ≤ 1000000 := hn
  have r1 := rawN_le zs n h0
  have r2 := rawN_le zs _ r1.1
  have r3 := rawN_le zs _ r2.1
  repeat ((conv => whnf); refine ⟨by first | (unfold inI64; omega) | omega | exact ⟨by omega, by omega⟩ | (intro hg; first | (unfold inI64; omega) | omega | exact ⟨by omega, by omega⟩ | (simp [lit] at hg; unfold inI64; omega) | (simp [lit] at hg; omega) | (simp [lit] at hg; exact ⟨by omega, by omega⟩)) | (show (_ : Nat) + 1 ≤ 1000000000000; omega) | exact rfl | (unfold inI64; dsimp only; omega) | (dsimp only; omega) | (intro hg; simp [lit] at hg; first | (unfold inI64; dsimp only; omega) | (dsimp only; omega)) | decide +kernel, ?_⟩)
  conv => whnf
  refine cond_intro (fun g0 => ?_) (fun g0 => ?_)
  · have g0' : s.size = 0 := by have : (s.size : Int) = 0 := of_decide_eq_true g0
                                omega
    repeat ((conv => whnf); refine ⟨by first | exact ⟨h0, by omega, by omega⟩ | (unfold inI64; omega) | omega | exact ⟨by omega, by omega⟩ | (intro hg; first | (unfold inI64; omega) | omega | exact ⟨by omega, by omega⟩ | (simp [lit] at hg; unfold inI64; omega) | (simp [lit] at hg; omega) | (simp [lit] at hg; exact ⟨by omega, by omega⟩)) | (show (_ : Nat) + 1 ≤ 1000000000000; omega) | exact rfl | (unfold inI64; dsimp only; omega) | (dsimp only; omega) | (intro hg; simp [lit] at hg; first | (unfold inI64; dsimp only; omega) | (dsimp only; omega)) | decide +kernel, ?_⟩)
    conv => whnf
    refine ends_eq ⟨?_, ?_⟩
    · show SV.str (pickS oddL zs n) = SV.str (spoilV zs n s).1
      rw [spoilV, if_pos g0']
    · show [tapeO zs (rawN zs n)] = [tapeO zs (spoilV zs n s).2]
      rw [spoilV, if_pos g0']
  have g0' : ¬ s.size = 0 := fun h => of_decide_eq_false g0 (by rw [h]; rfl)
  have hm0 := modV_nonneg (rawV zs n) s.size
  have hm1 := modV_lt (rawV zs n) s.size (by omega)
  have hp1 := modV_nonneg (rawV zs (rawN zs n)) 5
  have hp2 := modV_lt (rawV zs (rawN zs n)) 5 (by decide)
  repeat ((conv => whnf); refine ⟨by first | exact ⟨⟨h0, by omega, by omega⟩, by omega⟩ | exact ⟨⟨r1.1, by show rawN zs n ≤ _; omega, by omega⟩, by decide⟩ | (unfold inI64; omega) | omega | exact ⟨by omega, by omega⟩ | (intro hg; first | (unfold inI64; omega) | omega | exact ⟨by omega, by omega⟩ | (simp [lit] at hg; unfold inI64; omega) | (simp [lit] at hg; omega) | (simp [lit] at hg; exact ⟨by omega, by omega⟩)) | (show (_ : Nat) + 1 ≤ 1000000000000; omega) | exact rfl | (unfold inI64; dsimp only; omega) | (dsimp only; omega) | (intro hg; simp [lit] at hg; first | (unfold inI64; dsimp only; omega) | (dsimp only; omega)) | decide +kernel, ?_⟩)
  conv => whnf
  have hS : spoilV zs n s = spoilM zs s (modV (rawV zs n) s.size) (modV (rawV zs (rawN zs n)) 5) (rawN zs (rawN zs n)) := by rw [spoilV, if_neg g0']
  dsimp only
  have hodd := pick_len (l := oddL) (b := 40) (by decide +kernel) zs (rawN zs (rawN zs n))
  have hpie := pick_len (l := pieceL) (b := 40) (by decide +kernel) zs (rawN zs (rawN zs n))
  generalize hk : modV (rawV zs n) s.size = k at hm0 hm1 hS
  generalize hm : modV (rawV zs (rawN zs n)) 5 = m at hp1 hp2 hS
  have hx : ∀ a b : Nat, (s.extract a b).size ≤ s.size := fun a b => by rw [ByteArray.size_extract]; omega
  refine cond_intro (fun g1 => ?_) (fun g1 => ?_)
  · have g1' : m = 0 := of_decide_eq_true g1
    have hV := hS
    rw [spoilM, if_pos g1'] at hV
    have x1 := hx (0 : Int).toNat k.toNat
    have x2 := hx (k + 1).toNat ((s.size : Int)).toNat
    repeat ((conv => whnf); refine ⟨by first | (unfold inI64; omega) | omega | exact ⟨by omega, by omega⟩ | (intro hg; first | (unfold inI64; omega) | omega | exact ⟨by omega, by omega⟩ | (simp [lit] at hg; unfold inI64; omega) | (simp [lit] at hg; omega) | (simp [lit] at hg; exact ⟨by omega, by omega⟩)) | (show (_ : Nat) + 1 ≤ 1000000000000; omega) | exact rfl | (unfold inI64; dsimp only; omega) | (dsimp only; omega) | (intro hg; simp [lit] at hg; first | (unfold inI64; dsimp only; omega) | (dsimp only; omega)) | decide +kernel, ?_⟩)
    conv => whnf
    refine ends_eq ⟨?_, ?_⟩
    · show _ = SV.str (spoilV zs n s).1
      rw [hV]
      rfl
    · show _ = [tapeO zs (spoilV zs n s).2]
      rw [hV]
  have n1 : ¬ m = 0 := of_decide_eq_false g1
  repeat ((conv => whnf); refine ⟨by first | (unfold inI64; omega) | omega | exact ⟨by omega, by omega⟩ | (intro hg; first | (unfold inI64; omega) | omega | exact ⟨by omega, by omega⟩ | (simp [lit] at hg; unfold inI64; omega) | (simp [lit] at hg; omega) | (simp [lit] at hg; exact ⟨by omega, by omega⟩)) | (show (_ : Nat) + 1 ≤ 1000000000000; omega) | exact rfl | (unfold inI64; dsimp only; omega) | (dsimp only; omega) | (intro hg; simp [lit] at hg; first | (unfold inI64; dsimp only; omega) | (dsimp only; omega)) | decide +kernel, ?_⟩)
  conv => whnf
  refine cond_intro (fun g2 => ?_) (fun g2 => ?_)
  · have g2' : m = 1 := of_decide_eq_true g2
    have hV := hS
    rw [spoilM, if_neg n1, if_pos g2'] at hV
    have x1 := hx (0 : Int).toNat k.toNat
    have x2 : (s.extract k.toNat ((s.size : Int)).toNat).size ≤ s.size := hx _ _
    have x3 : (s.extract (0 : Int).toNat k.toNat ++ s.extract k.toNat (k + 1).toNat).size = (s.extract (0 : Int).toNat k.toNat).size + (s.extract k.toNat (k + 1).toNat).size := ByteArray.size_append ..
    have x4 : (s.extract k.toNat (k + 1).toNat).size ≤ s.size := hx _ _
    repeat ((conv => whnf); refine ⟨by first | (unfold inI64; omega) | omega | exact ⟨by omega, by omega⟩ | (intro hg; first | (unfold inI64; omega) | omega | exact ⟨by omega, by omega⟩ | (simp [lit] at hg; unfold inI64; omega) | (simp [lit] at hg; omega) | (simp [lit] at hg; exact ⟨by omega, by omega⟩)) | (show (_ : Nat) + 1 ≤ 1000000000000; omega) | exact rfl | (unfold inI64; dsimp only; omega) | (dsimp only; omega) | (intro hg; simp [lit] at hg; first | (unfold inI64; dsimp only; omega) | (dsimp only; omega)) | decide +kernel, ?_⟩)
    conv => whnf
    refine ends_eq ⟨?_, ?_⟩
    · show _ = SV.str (spoilV zs n s).1
      rw [hV]
      rfl
    · show _ = [tapeO zs (spoilV zs n s).2]
      rw [hV]
  have n2 : ¬ m = 1 := of_decide_eq_false g2
  repeat ((conv => whnf); refine ⟨by first | (unfold inI64; omega) | omega | exact ⟨by omega, by omega⟩ | (intro hg; first | (unfold inI64; omega) | omega | exact ⟨by omega, by omega⟩ | (simp [lit] at hg; unfold inI64; omega) | (simp [lit] at hg; omega) | (simp [lit] at hg; exact ⟨by omega, by omega⟩)) | (show (_ : Nat) + 1 ≤ 1000000000000; omega) | exact rfl | (unfold inI64; dsimp only; omega) | (dsimp only; omega) | (intro hg; simp [lit] at hg; first | (unfold inI64; dsimp only; omega) | (dsimp only; omega)) | decide +kernel, ?_⟩)
  conv => whnf
  refine cond_intro (fun g3 => ?_) (fun g3 => ?_)
  · have g3' : m = 2 := of_decide_eq_true g3
    have hV := hS
    rw [spoilM, if_neg n1, if_neg n2, if_pos g3'] at hV
    have x1 := hx (0 : Int).toNat k.toNat
    have x2 : (s.extract (k + 1).toNat ((s.size : Int)).toNat).size ≤ s.size := hx _ _
    have x3 : (s.extract (0 : Int).toNat k.toNat ++ bytesOf [IntKind.u8.wrap (modV (rawV zs (rawN zs (rawN zs n))) 256)]).size = (s.extract (0 : Int).toNat k.toNat).size + (bytesOf [IntKind.u8.wrap (modV (rawV zs (rawN zs (rawN zs n))) 256)]).size := ByteArray.size_append ..
    have x4 : (bytesOf [IntKind.u8.wrap (modV (rawV zs (rawN zs (rawN zs n))) 256)]).size = 1 := rfl
    repeat ((conv => whnf); refine ⟨by first | exact ⟨r2.1, by show rawN zs (rawN zs n) ≤ _; omega, by omega⟩ | exact ⟨⟨r2.1, by show rawN zs (rawN zs n) ≤ _; omega, by omega⟩, by decide⟩ | exact rfl | (unfold inI64; omega) | omega | exact ⟨by omega, by omega⟩ | (intro hg; first | (unfold inI64; omega) | omega | exact ⟨by omega, by omega⟩ | (simp [lit] at hg; unfold inI64; omega) | (simp [lit] at hg; omega) | (simp [lit] at hg; exact ⟨by omega, by omega⟩)) | (show (_ : Nat) + 1 ≤ 1000000000000; omega) | exact rfl | (unfold inI64; dsimp only; omega) | (dsimp only; omega) | (intro hg; simp [lit] at hg; first | (unfold inI64; dsimp only; omega) | (dsimp only; omega)) | decide +kernel, ?_⟩)
    conv => whnf
    dsimp only
    repeat ((conv => whnf); refine ⟨by first | (unfold inI64; omega) | omega | exact ⟨by omega, by omega⟩ | (intro hg; first | (unfold inI64; omega) | omega | exact ⟨by omega, by omega⟩ | (simp [lit] at hg; unfold inI64; omega) | (simp [lit] at hg; omega) | (simp [lit] at hg; exact ⟨by omega, by omega⟩)) | (show (_ : Nat) + 1 ≤ 1000000000000; omega) | exact rfl | (unfold inI64; dsimp only; omega) | (dsimp only; omega) | (intro hg; simp [lit] at hg; first | (unfold inI64; dsimp only; omega) | (dsimp only; omega)) | decide +kernel, ?_⟩)
    conv => whnf
    refine ends_eq ⟨?_, ?_⟩
    · show _ = SV.str (spoilV zs n s).1
      rw [hV]
      rfl
    · show _ = [tapeO zs (spoilV zs n s).2]
      rw [hV]
  have n3 : ¬ m = 2 := of_decide_eq_false g3
  repeat ((conv => whnf); refine ⟨by first | (unfold inI64; omega) | omega | exact ⟨by omega, by omega⟩ | (intro hg; first | (unfold inI64; omega) | omega | exact ⟨by omega, by omega⟩ | (simp [lit] at hg; unfold inI64; omega) | (simp [lit] at hg; omega) | (simp [lit] at hg; exact ⟨by omega, by omega⟩)) | (show (_ : Nat) + 1 ≤ 1000000000000; omega) | exact rfl | (unfold inI64; dsimp only; omega) | (dsimp only; omega) | (intro hg; simp [lit] at hg; first | (unfold inI64; dsimp only; omega) | (dsimp only; omega)) | decide +kernel, ?_⟩)
  conv => whnf
  refine cond_intro (fun g4 => ?_) (fun g4 => ?_)
  · have g4' : m = 3 := of_decide_eq_true g4
    have hV := hS
    rw [spoilM, if_neg n1, if_neg n2, if_neg n3, if_pos g4'] at hV
    have x1 := hx (0 : Int).toNat k.toNat
    have x2 : (s.extract k.toNat ((s.size : Int)).toNat).size ≤ s.size := hx _ _
    have x3 : (s.extract (0 : Int).toNat k.toNat ++ pickS oddL zs (rawN zs (rawN zs n))).size = (s.extract (0 : Int).toNat k.toNat).size + (pickS oddL zs (rawN zs (rawN zs n))).size := ByteArray.size_append ..
    repeat ((conv => whnf); refine ⟨by first | exact ⟨r2.1, by show rawN zs (rawN zs n) ≤ _; omega, by omega⟩ | exact ⟨⟨r2.1, by show rawN zs (rawN zs n) ≤ _; omega, by omega⟩, by decide⟩ | exact rfl | (unfold inI64; omega) | omega | exact ⟨by omega, by omega⟩ | (intro hg; first | (unfold inI64; omega) | omega | exact ⟨by omega, by omega⟩ | (simp [lit] at hg; unfold inI64; omega) | (simp [lit] at hg; omega) | (simp [lit] at hg; exact ⟨by omega, by omega⟩)) | (show (_ : Nat) + 1 ≤ 1000000000000; omega) | exact rfl | (unfold inI64; dsimp only; omega) | (dsimp only; omega) | (intro hg; simp [lit] at hg; first | (unfold inI64; dsimp only; omega) | (dsimp only; omega)) | decide +kernel, ?_⟩)
    conv => whnf
    refine ends_eq ⟨?_, ?_⟩
    · show _ = SV.str (spoilV zs n s).1
      rw [hV]
      rfl
    · show _ = [tapeO zs (spoilV zs n s).2]
      rw [hV]
  have n4 : ¬ m = 3 := of_decide_eq_false g4
  have hV := hS
  rw [spoilM, if_neg n1, if_neg n2, if_neg n3, if_neg n4] at hV
  have x1 := hx (0 : Int).toNat k.toNat
  have x2 : (s.extract k.toNat ((s.size : Int)).toNat).size ≤ s.size := hx _ _
  have x3 : (s.extract (0 : Int).toNat k.toNat ++ pickS pieceL zs (rawN zs (rawN zs n))).size = (s.extract (0 : Int).toNat k.toNat).size + (pickS pieceL zs (rawN zs (rawN zs n))).size := ByteArray.size_append ..
  repeat ((conv => whnf); refine ⟨by first | exact ⟨r2.1, by show rawN zs (rawN zs n) ≤ _; omega, by omega⟩ | exact ⟨⟨r2.1, by show rawN zs (rawN zs n) ≤ _; omega, by omega⟩, by decide⟩ | exact rfl | (unfold inI64; omega) | omega | exact ⟨by omega, by omega⟩ | (intro hg; first | (unfold inI64; omega) | omega | exact ⟨by omega, by omega⟩ | (simp [lit] at hg; unfold inI64; omega) | (simp [lit] at hg; omega) | (simp [lit] at hg; exact ⟨by omega, by omega⟩)) | (show (_ : Nat) + 1 ≤ 1000000000000; omega) | exact rfl | (unfold inI64; dsimp only; omega) | (dsimp only; omega) | (intro hg; simp [lit] at hg; first | (unfold inI64; dsimp only; omega) | (dsimp only; omega)) | decide +kernel, ?_⟩)
  conv => whnf
  refine ends_eq ⟨?_, ?_⟩
  · show _ = SV.str (spoilV zs n s).1
    rw [hV]
    rfl
  · show _ = [tapeO zs (spoilV zs n s).2]
    rw [hV]

end Go.Ab
