/- What separates tokens: pieces with other gaps between them have the same tokens. -/
import Derived.Test.YteidakoieemlgaaGreatTS3
import Derived.Test.YteidakoieemlgaaGreatTX3toS0
namespace Go.Ab
open Go.Proofs
set_option linter.unusedSectionVars false
set_option maxRecDepth 100000
variable [Glob]

theorem skipA_zero {l : List UInt8} (p : Int × Int) (h : sepL l = (0, 0)) : skipA l p = (0, l, p) := by
  unfold skipA
  simp only [skipL]
  rw [h, if_pos (.inl rfl)]

theorem skipA_blank (a : UInt8) (l : List UInt8) (p : Int × Int) (h : spaceB (bi a) = true) : skipA (a :: l) p = skipA l (stepP p a) := by
  rw [skipA_blanks a l p h, tw_cons_pos h, posL_cons]
  cases l with
  | nil => rfl
  | cons b r =>
    cases hb : spaceB (bi b) with
    | true => rw [skipA_blanks b r _ hb, dw_cons_pos hb]
    | false => rw [dw_cons_neg hb, tw_cons_neg hb]; rfl

/-- What only separates. -/
def Sep (g : List UInt8) : Prop := ∀ R p, skipA (g ++ R) p = skipA R (posL g p)

theorem Sep.blank {a : UInt8} {g : List UInt8} (h : spaceB (bi a) = true) (hg : Sep g) : Sep (a :: g) := fun R p => by
  rw [List.cons_append, skipA_blank a _ p h, hg, posL_cons]

theorem Sep.nil : Sep [] := fun _ _ => rfl

/-- A comment that is skipped in one go. -/
theorem Sep.comment {c g : List UInt8} (n : Nat) (hn : n = c.length) (h0 : n ≠ 0) (h : ∀ R, sepL (c ++ (g ++ R)) = (n, 0)) (hg : Sep g) : Sep (c ++ g) := fun R p => by
  subst hn
  rw [List.append_assoc, skipA_sep p (h R) h0, List.drop_left, List.take_left, hg, posL_append]

def gapL : List ByteArray := [⟨#[32]⟩, ⟨#[10]⟩, ⟨#[9, 32]⟩, ⟨#[32, 47, 47, 32, 110, 111, 116, 101, 32, 42, 32, 47, 10]⟩, ⟨#[32, 47, 42, 32, 97, 32, 42, 47, 32]⟩, ⟨#[13, 10, 10]⟩, ⟨#[32, 47, 42, 42, 47, 32]⟩]

def blankL : List UInt8 := [32, 10, 9, 13]

theorem gap_ok : ∀ g ∈ gapL, Sep g.data.toList ∧ ∃ w r, w ∈ blankL ∧ g.data.toList = w :: r ∧ g.data.toList.length ≤ 20 := by
  have nl : Sep [10] := .blank rfl .nil
  have sp : Sep [32] := .blank rfl .nil
  have c1 : Sep ([47, 47, 32, 110, 111, 116, 101, 32, 42, 32, 47] ++ [10]) := .comment 11 rfl (by decide) (fun R => rfl) nl
  have c2 : Sep ([47, 42, 32, 97, 32, 42, 47] ++ [32]) := .comment 7 rfl (by decide) (fun R => rfl) sp
  have c3 : Sep ([47, 42, 42, 47] ++ [32]) := .comment 4 rfl (by decide) (fun R => rfl) sp
  intro g hg
  simp only [gapL, List.mem_cons, List.not_mem_nil, or_false] at hg
  rcases hg with rfl | rfl | rfl | rfl | rfl | rfl | rfl
  · exact ⟨sp, _, _, by decide, rfl, by decide⟩
  · exact ⟨nl, _, _, by decide, rfl, by decide⟩
  · exact ⟨.blank rfl sp, _, _, by decide, rfl, by decide⟩
  · exact ⟨.blank rfl c1, _, _, by decide, rfl, by decide⟩
  · exact ⟨.blank rfl c2, _, _, by decide, rfl, by decide⟩
  · exact ⟨.blank rfl (.blank rfl nl), _, _, by decide, rfl, by decide⟩
  · exact ⟨.blank rfl c3, _, _, by decide, rfl, by decide⟩

/-- A piece is one token where a blank follows, or it separates. -/
def Piece (p : List UInt8) : Prop :=
  (∃ t : TokV, t.kind ≠ 8 ∧ ∀ w ∈ blankL, ∀ R, sepL (p ++ w :: R) = (0, 0) ∧ cutL (p ++ w :: R) = (t, p.length, 0)) ∨ (∀ w ∈ blankL, ∀ R q, skipA (p ++ w :: R) q = skipA (w :: R) (posL p q))

theorem blank_all {P : UInt8 → Prop} (h1 : P 32) (h2 : P 10) (h3 : P 9) (h4 : P 13) : ∀ w ∈ blankL, P w := by
  intro w hw
  simp only [blankL, List.mem_cons, List.not_mem_nil, or_false] at hw
  rcases hw with rfl | rfl | rfl | rfl <;> assumption

theorem piece_tok {p : List UInt8} (t : TokV) (hk : t.kind ≠ 8) (h1 : ∀ R, sepL (p ++ 32 :: R) = (0, 0) ∧ cutL (p ++ 32 :: R) = (t, p.length, 0)) (h2 : ∀ R, sepL (p ++ 10 :: R) = (0, 0) ∧ cutL (p ++ 10 :: R) = (t, p.length, 0))
    (h3 : ∀ R, sepL (p ++ 9 :: R) = (0, 0) ∧ cutL (p ++ 9 :: R) = (t, p.length, 0)) (h4 : ∀ R, sepL (p ++ 13 :: R) = (0, 0) ∧ cutL (p ++ 13 :: R) = (t, p.length, 0)) : Piece p := .inl ⟨t, hk, blank_all h1 h2 h3 h4⟩

theorem piece_sep {p : List UInt8} (h : Sep p) : Piece p := .inr fun w _ R q => h (w :: R) q

theorem pc0 : Piece [97] := piece_tok (cutL ([97] ++ [32])).1 (by decide +kernel) (fun _ => ⟨by kernel_rfl, by kernel_rfl⟩) (fun _ => ⟨by kernel_rfl, by kernel_rfl⟩) (fun _ => ⟨by kernel_rfl, by kernel_rfl⟩) (fun _ => ⟨by kernel_rfl, by kernel_rfl⟩)
theorem pc1 : Piece [110, 111, 100, 101, 64, 49] := piece_tok (cutL ([110, 111, 100, 101, 64, 49] ++ [32])).1 (by decide +kernel) (fun _ => ⟨by kernel_rfl, by kernel_rfl⟩) (fun _ => ⟨by kernel_rfl, by kernel_rfl⟩) (fun _ => ⟨by kernel_rfl, by kernel_rfl⟩) (fun _ => ⟨by kernel_rfl, by kernel_rfl⟩)
theorem pc2 : Piece [35, 99, 101, 108, 108, 115] := piece_tok (cutL ([35, 99, 101, 108, 108, 115] ++ [32])).1 (by decide +kernel) (fun _ => ⟨by kernel_rfl, by kernel_rfl⟩) (fun _ => ⟨by kernel_rfl, by kernel_rfl⟩) (fun _ => ⟨by kernel_rfl, by kernel_rfl⟩) (fun _ => ⟨by kernel_rfl, by kernel_rfl⟩)
theorem pc3 : Piece [99, 111, 109, 112, 97, 116, 105, 98, 108, 101] := piece_tok (cutL ([99, 111, 109, 112, 97, 116, 105, 98, 108, 101] ++ [32])).1 (by decide +kernel) (fun _ => ⟨by kernel_rfl, by kernel_rfl⟩) (fun _ => ⟨by kernel_rfl, by kernel_rfl⟩) (fun _ => ⟨by kernel_rfl, by kernel_rfl⟩) (fun _ => ⟨by kernel_rfl, by kernel_rfl⟩)
theorem pc4 : Piece [120, 58] := piece_tok (cutL ([120, 58] ++ [32])).1 (by decide +kernel) (fun _ => ⟨by kernel_rfl, by kernel_rfl⟩) (fun _ => ⟨by kernel_rfl, by kernel_rfl⟩) (fun _ => ⟨by kernel_rfl, by kernel_rfl⟩) (fun _ => ⟨by kernel_rfl, by kernel_rfl⟩)
theorem pc5 : Piece [108, 97, 98, 95, 49, 58] := piece_tok (cutL ([108, 97, 98, 95, 49, 58] ++ [32])).1 (by decide +kernel) (fun _ => ⟨by kernel_rfl, by kernel_rfl⟩) (fun _ => ⟨by kernel_rfl, by kernel_rfl⟩) (fun _ => ⟨by kernel_rfl, by kernel_rfl⟩) (fun _ => ⟨by kernel_rfl, by kernel_rfl⟩)
theorem pc6 : Piece [38, 97] := piece_tok (cutL ([38, 97] ++ [32])).1 (by decide +kernel) (fun _ => ⟨by kernel_rfl, by kernel_rfl⟩) (fun _ => ⟨by kernel_rfl, by kernel_rfl⟩) (fun _ => ⟨by kernel_rfl, by kernel_rfl⟩) (fun _ => ⟨by kernel_rfl, by kernel_rfl⟩)
theorem pc7 : Piece [38, 108, 97, 98, 95, 49] := piece_tok (cutL ([38, 108, 97, 98, 95, 49] ++ [32])).1 (by decide +kernel) (fun _ => ⟨by kernel_rfl, by kernel_rfl⟩) (fun _ => ⟨by kernel_rfl, by kernel_rfl⟩) (fun _ => ⟨by kernel_rfl, by kernel_rfl⟩) (fun _ => ⟨by kernel_rfl, by kernel_rfl⟩)
theorem pc8 : Piece [48] := piece_tok (cutL ([48] ++ [32])).1 (by decide +kernel) (fun _ => ⟨by kernel_rfl, by kernel_rfl⟩) (fun _ => ⟨by kernel_rfl, by kernel_rfl⟩) (fun _ => ⟨by kernel_rfl, by kernel_rfl⟩) (fun _ => ⟨by kernel_rfl, by kernel_rfl⟩)
theorem pc9 : Piece [55] := piece_tok (cutL ([55] ++ [32])).1 (by decide +kernel) (fun _ => ⟨by kernel_rfl, by kernel_rfl⟩) (fun _ => ⟨by kernel_rfl, by kernel_rfl⟩) (fun _ => ⟨by kernel_rfl, by kernel_rfl⟩) (fun _ => ⟨by kernel_rfl, by kernel_rfl⟩)
theorem pc10 : Piece [48, 49, 48] := piece_tok (cutL ([48, 49, 48] ++ [32])).1 (by decide +kernel) (fun _ => ⟨by kernel_rfl, by kernel_rfl⟩) (fun _ => ⟨by kernel_rfl, by kernel_rfl⟩) (fun _ => ⟨by kernel_rfl, by kernel_rfl⟩) (fun _ => ⟨by kernel_rfl, by kernel_rfl⟩)
theorem pc11 : Piece [48, 120, 49, 102] := piece_tok (cutL ([48, 120, 49, 102] ++ [32])).1 (by decide +kernel) (fun _ => ⟨by kernel_rfl, by kernel_rfl⟩) (fun _ => ⟨by kernel_rfl, by kernel_rfl⟩) (fun _ => ⟨by kernel_rfl, by kernel_rfl⟩) (fun _ => ⟨by kernel_rfl, by kernel_rfl⟩)
theorem pc12 : Piece [48, 120, 70, 70, 70, 70, 70, 70, 70, 70] := piece_tok (cutL ([48, 120, 70, 70, 70, 70, 70, 70, 70, 70] ++ [32])).1 (by decide +kernel) (fun _ => ⟨by kernel_rfl, by kernel_rfl⟩) (fun _ => ⟨by kernel_rfl, by kernel_rfl⟩) (fun _ => ⟨by kernel_rfl, by kernel_rfl⟩) (fun _ => ⟨by kernel_rfl, by kernel_rfl⟩)
theorem pc13 : Piece [52, 50, 57, 52, 57, 54, 55, 50, 57, 53] := piece_tok (cutL ([52, 50, 57, 52, 57, 54, 55, 50, 57, 53] ++ [32])).1 (by decide +kernel) (fun _ => ⟨by kernel_rfl, by kernel_rfl⟩) (fun _ => ⟨by kernel_rfl, by kernel_rfl⟩) (fun _ => ⟨by kernel_rfl, by kernel_rfl⟩) (fun _ => ⟨by kernel_rfl, by kernel_rfl⟩)
theorem pc14 : Piece [34, 116, 101, 120, 116, 34] := piece_tok (cutL ([34, 116, 101, 120, 116, 34] ++ [32])).1 (by decide +kernel) (fun _ => ⟨by kernel_rfl, by kernel_rfl⟩) (fun _ => ⟨by kernel_rfl, by kernel_rfl⟩) (fun _ => ⟨by kernel_rfl, by kernel_rfl⟩) (fun _ => ⟨by kernel_rfl, by kernel_rfl⟩)
theorem pc15 : Piece [34, 97, 92, 110, 92, 120, 52, 49, 92, 34, 34] := piece_tok (cutL ([34, 97, 92, 110, 92, 120, 52, 49, 92, 34, 34] ++ [32])).1 (by decide +kernel) (fun _ => ⟨by kernel_rfl, by kernel_rfl⟩) (fun _ => ⟨by kernel_rfl, by kernel_rfl⟩) (fun _ => ⟨by kernel_rfl, by kernel_rfl⟩) (fun _ => ⟨by kernel_rfl, by kernel_rfl⟩)
theorem pc16 : Piece [47, 105, 110, 99, 108, 117, 100, 101, 47] := piece_tok (cutL ([47, 105, 110, 99, 108, 117, 100, 101, 47] ++ [32])).1 (by decide +kernel) (fun _ => ⟨by kernel_rfl, by kernel_rfl⟩) (fun _ => ⟨by kernel_rfl, by kernel_rfl⟩) (fun _ => ⟨by kernel_rfl, by kernel_rfl⟩) (fun _ => ⟨by kernel_rfl, by kernel_rfl⟩)
theorem pc17 : Piece [47, 100, 101, 108, 101, 116, 101, 45, 110, 111, 100, 101, 47] := piece_tok (cutL ([47, 100, 101, 108, 101, 116, 101, 45, 110, 111, 100, 101, 47] ++ [32])).1 (by decide +kernel) (fun _ => ⟨by kernel_rfl, by kernel_rfl⟩) (fun _ => ⟨by kernel_rfl, by kernel_rfl⟩) (fun _ => ⟨by kernel_rfl, by kernel_rfl⟩) (fun _ => ⟨by kernel_rfl, by kernel_rfl⟩)
theorem pc18 : Piece [47] := piece_tok (cutL ([47] ++ [32])).1 (by decide +kernel) (fun _ => ⟨by kernel_rfl, by kernel_rfl⟩) (fun _ => ⟨by kernel_rfl, by kernel_rfl⟩) (fun _ => ⟨by kernel_rfl, by kernel_rfl⟩) (fun _ => ⟨by kernel_rfl, by kernel_rfl⟩)
theorem pc19 : Piece [123] := piece_tok (cutL ([123] ++ [32])).1 (by decide +kernel) (fun _ => ⟨by kernel_rfl, by kernel_rfl⟩) (fun _ => ⟨by kernel_rfl, by kernel_rfl⟩) (fun _ => ⟨by kernel_rfl, by kernel_rfl⟩) (fun _ => ⟨by kernel_rfl, by kernel_rfl⟩)
theorem pc20 : Piece [125] := piece_tok (cutL ([125] ++ [32])).1 (by decide +kernel) (fun _ => ⟨by kernel_rfl, by kernel_rfl⟩) (fun _ => ⟨by kernel_rfl, by kernel_rfl⟩) (fun _ => ⟨by kernel_rfl, by kernel_rfl⟩) (fun _ => ⟨by kernel_rfl, by kernel_rfl⟩)
theorem pc21 : Piece [40] := piece_tok (cutL ([40] ++ [32])).1 (by decide +kernel) (fun _ => ⟨by kernel_rfl, by kernel_rfl⟩) (fun _ => ⟨by kernel_rfl, by kernel_rfl⟩) (fun _ => ⟨by kernel_rfl, by kernel_rfl⟩) (fun _ => ⟨by kernel_rfl, by kernel_rfl⟩)
theorem pc22 : Piece [41] := piece_tok (cutL ([41] ++ [32])).1 (by decide +kernel) (fun _ => ⟨by kernel_rfl, by kernel_rfl⟩) (fun _ => ⟨by kernel_rfl, by kernel_rfl⟩) (fun _ => ⟨by kernel_rfl, by kernel_rfl⟩) (fun _ => ⟨by kernel_rfl, by kernel_rfl⟩)
theorem pc23 : Piece [60] := piece_tok (cutL ([60] ++ [32])).1 (by decide +kernel) (fun _ => ⟨by kernel_rfl, by kernel_rfl⟩) (fun _ => ⟨by kernel_rfl, by kernel_rfl⟩) (fun _ => ⟨by kernel_rfl, by kernel_rfl⟩) (fun _ => ⟨by kernel_rfl, by kernel_rfl⟩)
theorem pc24 : Piece [62] := piece_tok (cutL ([62] ++ [32])).1 (by decide +kernel) (fun _ => ⟨by kernel_rfl, by kernel_rfl⟩) (fun _ => ⟨by kernel_rfl, by kernel_rfl⟩) (fun _ => ⟨by kernel_rfl, by kernel_rfl⟩) (fun _ => ⟨by kernel_rfl, by kernel_rfl⟩)
theorem pc25 : Piece [91] := piece_tok (cutL ([91] ++ [32])).1 (by decide +kernel) (fun _ => ⟨by kernel_rfl, by kernel_rfl⟩) (fun _ => ⟨by kernel_rfl, by kernel_rfl⟩) (fun _ => ⟨by kernel_rfl, by kernel_rfl⟩) (fun _ => ⟨by kernel_rfl, by kernel_rfl⟩)
theorem pc26 : Piece [93] := piece_tok (cutL ([93] ++ [32])).1 (by decide +kernel) (fun _ => ⟨by kernel_rfl, by kernel_rfl⟩) (fun _ => ⟨by kernel_rfl, by kernel_rfl⟩) (fun _ => ⟨by kernel_rfl, by kernel_rfl⟩) (fun _ => ⟨by kernel_rfl, by kernel_rfl⟩)
theorem pc27 : Piece [59] := piece_tok (cutL ([59] ++ [32])).1 (by decide +kernel) (fun _ => ⟨by kernel_rfl, by kernel_rfl⟩) (fun _ => ⟨by kernel_rfl, by kernel_rfl⟩) (fun _ => ⟨by kernel_rfl, by kernel_rfl⟩) (fun _ => ⟨by kernel_rfl, by kernel_rfl⟩)
theorem pc28 : Piece [61] := piece_tok (cutL ([61] ++ [32])).1 (by decide +kernel) (fun _ => ⟨by kernel_rfl, by kernel_rfl⟩) (fun _ => ⟨by kernel_rfl, by kernel_rfl⟩) (fun _ => ⟨by kernel_rfl, by kernel_rfl⟩) (fun _ => ⟨by kernel_rfl, by kernel_rfl⟩)
theorem pc29 : Piece [44] := piece_tok (cutL ([44] ++ [32])).1 (by decide +kernel) (fun _ => ⟨by kernel_rfl, by kernel_rfl⟩) (fun _ => ⟨by kernel_rfl, by kernel_rfl⟩) (fun _ => ⟨by kernel_rfl, by kernel_rfl⟩) (fun _ => ⟨by kernel_rfl, by kernel_rfl⟩)
theorem pc30 : Piece [43] := piece_tok (cutL ([43] ++ [32])).1 (by decide +kernel) (fun _ => ⟨by kernel_rfl, by kernel_rfl⟩) (fun _ => ⟨by kernel_rfl, by kernel_rfl⟩) (fun _ => ⟨by kernel_rfl, by kernel_rfl⟩) (fun _ => ⟨by kernel_rfl, by kernel_rfl⟩)
theorem pc31 : Piece [45] := piece_tok (cutL ([45] ++ [32])).1 (by decide +kernel) (fun _ => ⟨by kernel_rfl, by kernel_rfl⟩) (fun _ => ⟨by kernel_rfl, by kernel_rfl⟩) (fun _ => ⟨by kernel_rfl, by kernel_rfl⟩) (fun _ => ⟨by kernel_rfl, by kernel_rfl⟩)
theorem pc32 : Piece [42] := piece_tok (cutL ([42] ++ [32])).1 (by decide +kernel) (fun _ => ⟨by kernel_rfl, by kernel_rfl⟩) (fun _ => ⟨by kernel_rfl, by kernel_rfl⟩) (fun _ => ⟨by kernel_rfl, by kernel_rfl⟩) (fun _ => ⟨by kernel_rfl, by kernel_rfl⟩)
theorem pc33 : Piece [37] := piece_tok (cutL ([37] ++ [32])).1 (by decide +kernel) (fun _ => ⟨by kernel_rfl, by kernel_rfl⟩) (fun _ => ⟨by kernel_rfl, by kernel_rfl⟩) (fun _ => ⟨by kernel_rfl, by kernel_rfl⟩) (fun _ => ⟨by kernel_rfl, by kernel_rfl⟩)
theorem pc34 : Piece [60, 60] := piece_tok (cutL ([60, 60] ++ [32])).1 (by decide +kernel) (fun _ => ⟨by kernel_rfl, by kernel_rfl⟩) (fun _ => ⟨by kernel_rfl, by kernel_rfl⟩) (fun _ => ⟨by kernel_rfl, by kernel_rfl⟩) (fun _ => ⟨by kernel_rfl, by kernel_rfl⟩)
theorem pc35 : Piece [62, 62] := piece_tok (cutL ([62, 62] ++ [32])).1 (by decide +kernel) (fun _ => ⟨by kernel_rfl, by kernel_rfl⟩) (fun _ => ⟨by kernel_rfl, by kernel_rfl⟩) (fun _ => ⟨by kernel_rfl, by kernel_rfl⟩) (fun _ => ⟨by kernel_rfl, by kernel_rfl⟩)
theorem pc36 : Piece [60, 61] := piece_tok (cutL ([60, 61] ++ [32])).1 (by decide +kernel) (fun _ => ⟨by kernel_rfl, by kernel_rfl⟩) (fun _ => ⟨by kernel_rfl, by kernel_rfl⟩) (fun _ => ⟨by kernel_rfl, by kernel_rfl⟩) (fun _ => ⟨by kernel_rfl, by kernel_rfl⟩)
theorem pc37 : Piece [62, 61] := piece_tok (cutL ([62, 61] ++ [32])).1 (by decide +kernel) (fun _ => ⟨by kernel_rfl, by kernel_rfl⟩) (fun _ => ⟨by kernel_rfl, by kernel_rfl⟩) (fun _ => ⟨by kernel_rfl, by kernel_rfl⟩) (fun _ => ⟨by kernel_rfl, by kernel_rfl⟩)
theorem pc38 : Piece [61, 61] := piece_tok (cutL ([61, 61] ++ [32])).1 (by decide +kernel) (fun _ => ⟨by kernel_rfl, by kernel_rfl⟩) (fun _ => ⟨by kernel_rfl, by kernel_rfl⟩) (fun _ => ⟨by kernel_rfl, by kernel_rfl⟩) (fun _ => ⟨by kernel_rfl, by kernel_rfl⟩)
theorem pc39 : Piece [33, 61] := piece_tok (cutL ([33, 61] ++ [32])).1 (by decide +kernel) (fun _ => ⟨by kernel_rfl, by kernel_rfl⟩) (fun _ => ⟨by kernel_rfl, by kernel_rfl⟩) (fun _ => ⟨by kernel_rfl, by kernel_rfl⟩) (fun _ => ⟨by kernel_rfl, by kernel_rfl⟩)
theorem pc40 : Piece [38, 38] := piece_tok (cutL ([38, 38] ++ [32])).1 (by decide +kernel) (fun _ => ⟨by kernel_rfl, by kernel_rfl⟩) (fun _ => ⟨by kernel_rfl, by kernel_rfl⟩) (fun _ => ⟨by kernel_rfl, by kernel_rfl⟩) (fun _ => ⟨by kernel_rfl, by kernel_rfl⟩)
theorem pc41 : Piece [124, 124] := piece_tok (cutL ([124, 124] ++ [32])).1 (by decide +kernel) (fun _ => ⟨by kernel_rfl, by kernel_rfl⟩) (fun _ => ⟨by kernel_rfl, by kernel_rfl⟩) (fun _ => ⟨by kernel_rfl, by kernel_rfl⟩) (fun _ => ⟨by kernel_rfl, by kernel_rfl⟩)
theorem pc42 : Piece [94] := piece_tok (cutL ([94] ++ [32])).1 (by decide +kernel) (fun _ => ⟨by kernel_rfl, by kernel_rfl⟩) (fun _ => ⟨by kernel_rfl, by kernel_rfl⟩) (fun _ => ⟨by kernel_rfl, by kernel_rfl⟩) (fun _ => ⟨by kernel_rfl, by kernel_rfl⟩)
theorem pc43 : Piece [126] := piece_tok (cutL ([126] ++ [32])).1 (by decide +kernel) (fun _ => ⟨by kernel_rfl, by kernel_rfl⟩) (fun _ => ⟨by kernel_rfl, by kernel_rfl⟩) (fun _ => ⟨by kernel_rfl, by kernel_rfl⟩) (fun _ => ⟨by kernel_rfl, by kernel_rfl⟩)
theorem pc44 : Piece [33] := piece_tok (cutL ([33] ++ [32])).1 (by decide +kernel) (fun _ => ⟨by kernel_rfl, by kernel_rfl⟩) (fun _ => ⟨by kernel_rfl, by kernel_rfl⟩) (fun _ => ⟨by kernel_rfl, by kernel_rfl⟩) (fun _ => ⟨by kernel_rfl, by kernel_rfl⟩)
theorem pc45 : Piece [63] := piece_tok (cutL ([63] ++ [32])).1 (by decide +kernel) (fun _ => ⟨by kernel_rfl, by kernel_rfl⟩) (fun _ => ⟨by kernel_rfl, by kernel_rfl⟩) (fun _ => ⟨by kernel_rfl, by kernel_rfl⟩) (fun _ => ⟨by kernel_rfl, by kernel_rfl⟩)
theorem pc46 : Piece [58] := piece_tok (cutL ([58] ++ [32])).1 (by decide +kernel) (fun _ => ⟨by kernel_rfl, by kernel_rfl⟩) (fun _ => ⟨by kernel_rfl, by kernel_rfl⟩) (fun _ => ⟨by kernel_rfl, by kernel_rfl⟩) (fun _ => ⟨by kernel_rfl, by kernel_rfl⟩)
theorem pc47 : Piece [124] := piece_tok (cutL ([124] ++ [32])).1 (by decide +kernel) (fun _ => ⟨by kernel_rfl, by kernel_rfl⟩) (fun _ => ⟨by kernel_rfl, by kernel_rfl⟩) (fun _ => ⟨by kernel_rfl, by kernel_rfl⟩) (fun _ => ⟨by kernel_rfl, by kernel_rfl⟩)
theorem pc48 : Piece [38] := piece_tok (cutL ([38] ++ [32])).1 (by decide +kernel) (fun _ => ⟨by kernel_rfl, by kernel_rfl⟩) (fun _ => ⟨by kernel_rfl, by kernel_rfl⟩) (fun _ => ⟨by kernel_rfl, by kernel_rfl⟩) (fun _ => ⟨by kernel_rfl, by kernel_rfl⟩)
theorem pc49 : Piece [32] := piece_sep (.blank rfl (.nil))
theorem pc50 : Piece [10] := piece_sep (.blank rfl (.nil))
theorem pc51 : Piece [9] := piece_sep (.blank rfl (.nil))
theorem pc52 : Piece [47, 47, 32, 110, 111, 116, 101, 10] := piece_sep (Sep.comment (c := [47, 47, 32, 110, 111, 116, 101]) (g := [10]) 7 rfl (by decide) (fun _ => by kernel_rfl) (.blank rfl .nil))
theorem pc53 : Piece [47, 42, 32, 97, 10, 42, 32, 98, 32, 42, 47] := piece_sep (Sep.comment (c := [47, 42, 32, 97, 10, 42, 32, 98, 32, 42, 47]) (g := []) 11 rfl (by decide) (fun _ => by kernel_rfl) .nil)
theorem pc54 : Piece [13, 10] := piece_sep (.blank rfl (.blank rfl (.nil)))

theorem piece_ok : ∀ p ∈ pieceL, Piece p.data.toList := by
  intro p hp
  simp only [pieceL, List.mem_cons, List.not_mem_nil, or_false] at hp
  rcases hp with rfl | rfl | rfl | rfl | rfl | rfl | rfl | rfl | rfl | rfl | rfl | rfl | rfl | rfl | rfl | rfl | rfl | rfl | rfl | rfl | rfl | rfl | rfl | rfl | rfl | rfl | rfl | rfl | rfl | rfl | rfl | rfl | rfl | rfl | rfl | rfl | rfl | rfl | rfl | rfl | rfl | rfl | rfl | rfl | rfl | rfl | rfl | rfl | rfl | rfl | rfl | rfl | rfl | rfl | rfl
  · exact pc0
  · exact pc1
  · exact pc2
  · exact pc3
  · exact pc4
  · exact pc5
  · exact pc6
  · exact pc7
  · exact pc8
  · exact pc9
  · exact pc10
  · exact pc11
  · exact pc12
  · exact pc13
  · exact pc14
  · exact pc15
  · exact pc16
  · exact pc17
  · exact pc18
  · exact pc19
  · exact pc20
  · exact pc21
  · exact pc22
  · exact pc23
  · exact pc24
  · exact pc25
  · exact pc26
  · exact pc27
  · exact pc28
  · exact pc29
  · exact pc30
  · exact pc31
  · exact pc32
  · exact pc33
  · exact pc34
  · exact pc35
  · exact pc36
  · exact pc37
  · exact pc38
  · exact pc39
  · exact pc40
  · exact pc41
  · exact pc42
  · exact pc43
  · exact pc44
  · exact pc45
  · exact pc46
  · exact pc47
  · exact pc48
  · exact pc49
  · exact pc50
  · exact pc51
  · exact pc52
  · exact pc53
  · exact pc54

theorem piece_len : ∀ p ∈ pieceL, p.data.toList.length ≤ 40 := by decide +kernel

/-! Texts of pieces and gaps. -/
abbrev Tri : Type := List UInt8 × List UInt8 × List UInt8

def catA : List Tri → List UInt8
  | [] => []
  | x :: r => x.1 ++ (x.2.1 ++ catA r)
def catB : List Tri → List UInt8
  | [] => []
  | x :: r => x.1 ++ (x.2.2 ++ catB r)

theorem catA_append : ∀ a b : List Tri, catA (a ++ b) = catA a ++ catA b
  | [], b => rfl
  | x :: a, b => by simp only [List.cons_append, catA, catA_append a b, List.append_assoc]
theorem catB_append : ∀ a b : List Tri, catB (a ++ b) = catB a ++ catB b
  | [], b => rfl
  | x :: a, b => by simp only [List.cons_append, catB, catB_append a b, List.append_assoc]

def Gap (g : List UInt8) : Prop := Sep g ∧ ∃ w r, w ∈ blankL ∧ g = w :: r
def TriOk (x : Tri) : Prop := Piece x.1 ∧ Gap x.2.1 ∧ Gap x.2.2

def strip (z : tokC.den) : Int × ByteArray × Int := (z.1, z.2.1, z.2.2.1)

/-- What is read depends on what is left behind the separators alone. -/
theorem readL_skip (f : Int) : ∀ (k : Nat) (l l' : List UInt8) (p p' : Int × Int) (zs : List tokC.den), skipA l p = skipA l' p' → readL f k l p zs = readL f k l' p' zs
  | 0, l, l', p, p', zs, h => by simp only [readL]; rw [h]
  | k + 1, l, l', p, p', zs, h => by rw [readL_succ, readL_succ, h]

theorem read_piece (f : Int) {p : List UInt8} (hp : Piece p) : (∃ t : TokV, ∀ g', Gap g' → ∀ (k : Nat) (R : List UInt8) (q : Int × Int) (zs : List tokC.den), ∃ q', readL f (k + 1) (p ++ (g' ++ R)) q zs = readL f k R q' (zs ++ [tokD t f q])) ∨
    (∀ g', Gap g' → ∀ (k : Nat) (R : List UInt8) (q : Int × Int) (zs : List tokC.den), ∃ q', readL f k (p ++ (g' ++ R)) q zs = readL f k R q' zs) := by
  rcases hp with ⟨t, hk, h⟩ | h
  · refine .inl ⟨t, ?_⟩
    rintro g' ⟨hs, w, r, hw, rfl⟩ k R q zs
    obtain ⟨h1, h2⟩ := h w hw (r ++ R)
    refine ⟨posL (w :: r) (posL ((p ++ w :: (r ++ R)).take p.length) q), ?_⟩
    show readL f (k + 1) (p ++ w :: (r ++ R)) q zs = _
    rw [readL_succ, skipA_zero q h1]
    simp only [if_true]
    rw [h2]
    simp only [if_true]
    rw [if_neg hk, List.drop_left]
    exact readL_skip f k _ _ _ _ _ (hs R _)
  · refine .inr ?_
    rintro g' ⟨hs, w, r, hw, rfl⟩ k R q zs
    refine ⟨posL (w :: r) (posL p q), ?_⟩
    refine readL_skip f k _ _ _ _ _ ?_
    show skipA (p ++ w :: (r ++ R)) q = _
    rw [h w hw (r ++ R) q]
    exact hs R _

theorem read_like (f : Int) : ∀ (tl : List Tri) (k : Nat) (q q' : Int × Int) (zs zs' : List tokC.den), (∀ x ∈ tl, TriOk x) → tl.length < k → zs.map strip = zs'.map strip →
    (readL f k (catA tl) q zs).err = 0 ∧ (readL f k (catB tl) q' zs').err = 0 ∧ (readL f k (catA tl) q zs).toks.map strip = (readL f k (catB tl) q' zs').toks.map strip
  | [], k, q, q', zs, zs', _, hk, hz => by
    obtain ⟨k', rfl⟩ : ∃ k', k = k' + 1 := ⟨k - 1, by simp at hk; omega⟩
    show (readL f (k' + 1) [] q zs).err = 0 ∧ _ ∧ _
    rw [show catB [] = [] from rfl, show catA [] = [] from rfl, readL_end, readL_end]
    refine ⟨rfl, rfl, ?_⟩
    simp only [List.map_append, hz]
    rfl
  | x :: tl, k, q, q', zs, zs', hok, hk, hz => by
    obtain ⟨k', rfl⟩ : ∃ k', k = k' + 1 := ⟨k - 1, by simp at hk; omega⟩
    obtain ⟨h1, h2, h3⟩ := hok x (by simp)
    have hrest := fun y hy => hok y (List.mem_cons_of_mem _ hy)
    have hk' : tl.length < k' := by simpa using hk
    simp only [catA, catB]
    rcases read_piece f h1 with ⟨t, ht⟩ | ht
    · obtain ⟨q1, e1⟩ := ht _ h2 k' (catA tl) q zs
      obtain ⟨q2, e2⟩ := ht _ h3 k' (catB tl) q' zs'
      rw [e1, e2]
      exact read_like f tl k' _ _ _ _ hrest hk' (by simp only [List.map_append, hz]; rfl)
    · obtain ⟨q1, e1⟩ := ht _ h2 (k' + 1) (catA tl) q zs
      obtain ⟨q2, e2⟩ := ht _ h3 (k' + 1) (catB tl) q' zs'
      rw [e1, e2]
      exact read_like f tl (k' + 1) _ _ _ _ hrest (by omega) hz

theorem readL_len (f : Int) : ∀ (k : Nat) (l : List UInt8) (q : Int × Int) (zs : List tokC.den), (readL f k l q zs).toks.length ≤ zs.length + k
  | 0, l, q, zs => by simp [readL]
  | k + 1, l, q, zs => by
    rw [readL_succ]
    split
    · split
      · split
        · simp only [List.length_append, List.length_singleton]; omega
        · have := readL_len f k ((skipA l q).2.1.drop (cutL (skipA l q).2.1).2.1) (posL ((skipA l q).2.1.take (cutL (skipA l q).2.1).2.1) (skipA l q).2.2) (zs ++ [tokD (cutL (skipA l q).2.1).1 f (skipA l q).2.2])
          simp only [List.length_append, List.length_singleton] at this
          omega
      · simp
    · simp

theorem readV_len (l : List UInt8) (f : Int) : (readV (B l) f).toks.length ≤ 6001 := by
  by_cases h : l.length ≤ 16000
  · rw [readV_L _ _ h]
    have := readL_len f 6000 l (1, 1) []
    simp only [List.length_nil] at this
    omega
  · unfold readV
    rw [if_pos (by rw [B_size]; omega)]
    simp

theorem read_spaces (f : Int) (tl : List Tri) (hok : ∀ x ∈ tl, TriOk x) (hl : tl.length < 6000) (ha : (catA tl).length ≤ 16000) (hb : (catB tl).length ≤ 16000) :
    (readV (B (catA tl)) f).err = 0 ∧ (readV (B (catB tl)) f).err = 0 ∧ (readV (B (catA tl)) f).toks.map strip = (readV (B (catB tl)) f).toks.map strip := by
  rw [readV_L _ _ ha, readV_L _ _ hb]
  exact read_like f tl 6000 (1, 1) (1, 1) [] [] hok hl rfl
end Go.Ab

/- What is read of a text, token by token. -/
namespace Go.Ab
open Go.Proofs
set_option linter.unusedSectionVars false
set_option maxRecDepth 100000
variable [Glob]

/-- A text and its tokens, without their places. -/
def Lx (l : List UInt8) (ts : List Tk) : Prop := ∀ (f : Int) (k : Nat) (q : Int × Int) (zs : List tokC.den), ts.length < k →
  (readL f k l q zs).err = 0 ∧ (readL f k l q zs).toks.map tkOf = zs.map tkOf ++ ts ++ [tkEnd]

theorem Lx.nil : Lx [] [] := by
  intro f k q zs hk
  obtain ⟨k, rfl⟩ : ∃ m, k = m + 1 := ⟨k - 1, by simp at hk; omega⟩
  rw [readL_end]
  refine ⟨rfl, ?_⟩
  simp only [List.map_append, List.append_nil]
  rfl

theorem Lx.blank {a : UInt8} (h : spaceB (bi a) = true) {l : List UInt8} {ts : List Tk} (hl : Lx l ts) : Lx (a :: l) ts := by
  intro f k q zs hk
  rw [readL_skip f k (a :: l) l q (stepP q a) zs (skipA_blank a l q h)]
  exact hl f k _ zs hk

theorem Lx.sp {l : List UInt8} {ts : List Tk} (hl : Lx l ts) : Lx (32 :: l) ts := Lx.blank (by decide) hl

theorem Lx.tok {p l : List UInt8} {t : TokV} {ts : List Tk} (hs : sepL (p ++ l) = (0, 0)) (hc : cutL (p ++ l) = (t, p.length, 0)) (hk8 : t.kind ≠ 8) (hl : Lx l ts) : Lx (p ++ l) ((t.kind, t.text, t.value) :: ts) := by
  intro f k q zs hk
  obtain ⟨k, rfl⟩ : ∃ m, k = m + 1 := ⟨k - 1, by simp at hk; omega⟩
  simp only [List.length_cons] at hk
  have hsk : skipA (p ++ l) q = (0, p ++ l, q) := skipA_zero q hs
  rw [readL_succ, hsk]
  simp only [if_true]
  rw [hc]
  simp only [if_true]
  rw [if_neg hk8, List.drop_left]
  obtain ⟨h1, h2⟩ := hl f k (posL ((p ++ l).take p.length) q) (zs ++ [tokD t f q]) (by omega)
  refine ⟨h1, ?_⟩
  rw [h2]
  simp only [List.map_append, List.map_cons, List.map_nil, List.append_assoc, List.cons_append, List.nil_append]
  rfl

/-- A number ends where no letter and no digit follows. -/
def noWord (l : List UInt8) : Prop := ∀ u, l.head? = some u → wordB (bi u) = false

theorem tw_append {p : Int → Bool} : ∀ (a b : List UInt8), (∀ u ∈ a, p (bi u) = true) → (∀ u, b.head? = some u → p (bi u) = false) → tw p (a ++ b) = a := by
  intro a
  induction a with
  | nil =>
    intro b _ hb
    cases b with
    | nil => rfl
    | cons u b => exact tw_cons_neg (hb u rfl)
  | cons u a ih =>
    intro b ha hb
    rw [List.cons_append, tw_cons_pos (ha u (by simp)), ih b (fun x hx => ha x (by simp [hx])) hb]

theorem Lx.word {p l : List UInt8} {v : Int} {ts : List Tk} (hw : ∀ u ∈ p, wordB (bi u) = true) (hd : ∀ u, p.head? = some u → digitB (bi u) = true) (hne : p ≠ []) (hv : compL (splitL p).1 (splitL p).2 = (v, 0)) (hn : noWord l) (hl : Lx l ts) :
    Lx (p ++ l) (tkNum v :: ts) := by
  obtain ⟨a, r, rfl⟩ : ∃ a r, p = a :: r := by cases p with | nil => exact absurd rfl hne | cons a r => exact ⟨a, r, rfl⟩
  have ha := hd a rfl
  obtain ⟨h1, h2, _, _⟩ := digit_byte a ha
  refine Lx.tok (t := { kind := 2, value := v }) ?_ ?_ (show (2 : Int) ≠ 8 by decide) hl
  · show sepL (a :: (r ++ l)) = (0, 0)
    unfold sepL
    rw [if_neg (fun h => h2 (Option.some.inj h.1)), if_neg (fun h => h2 (Option.some.inj h.1)), tw_cons_neg h1]
    rfl
  · show cutL (a :: (r ++ l)) = _
    rw [cut_number a _ ha]
    unfold numLx
    rw [show a :: (r ++ l) = (a :: r) ++ l from rfl, tw_append _ _ hw hn, hv]
    rfl

def fmtL (n : Nat) : List UInt8 := if n < 10 then basedV false 10 n else 48 :: 120 :: basedV false 16 n

theorem Lx.fmt {n : Nat} (h : n ≤ 4294967295) {l : List UInt8} {ts : List Tk} (hn : noWord l) (hl : Lx l ts) : Lx (fmtL n ++ l) (tkNum n :: ts) := by
  unfold fmtL
  split
  · exact Lx.word (based_words _ _ _ (by decide) (by decide)) (based_digits n) (basedV_ne _ _ _) (by rw [number_10 n (by omega), if_pos h]) hn hl
  · refine Lx.word (fun u hu => ?_) (fun u hu => by cases hu; decide) (by simp) (number_16 false n h) hn hl
    rcases List.mem_cons.1 hu with rfl | hu
    · decide
    rcases List.mem_cons.1 hu with rfl | hu
    · decide
    · exact based_words _ _ _ (by decide) (by decide) u hu

theorem Lx.dec {n : Nat} (h : n ≤ 4294967295) {l : List UInt8} {ts : List Tk} (hn : noWord l) (hl : Lx l ts) : Lx (basedV false 10 n ++ l) (tkNum n :: ts) :=
  Lx.word (based_words _ _ _ (by decide) (by decide)) (based_digits n) (basedV_ne _ _ _) (by rw [number_10 n (by omega), if_pos h]) hn hl

/-- Signs of one character that begin no others. -/
def plain1 (c : UInt8) : Bool := ([40, 41, 126, 43, 45, 42, 37, 94, 63, 58] : List UInt8).contains c

theorem plain_fact : ∀ n : Fin 256, plain1 (UInt8.ofNat n.val) = true → spaceB (n.val : Int) = false ∧ (n.val : Int) ≠ 47 ∧ firstB (n.val : Int) = false ∧ (n.val : Int) ≠ 35 ∧ digitB (n.val : Int) = false ∧ (n.val : Int) ≠ 34 ∧ (n.val : Int) ≠ 38 ∧ oneP (UInt8.ofNat n.val) = true ∧ wordB (n.val : Int) = false := by decide +kernel

theorem plain_byte (c : UInt8) (h : plain1 c = true) : spaceB (bi c) = false ∧ c ≠ 47 ∧ firstB (bi c) = false ∧ c ≠ 35 ∧ digitB (bi c) = false ∧ c ≠ 34 ∧ c ≠ 38 ∧ oneP c = true ∧ wordB (bi c) = false := by
  have hc : UInt8.ofNat c.toNat = c := UInt8.ofNat_toNat
  obtain ⟨h1, h2, h3, h4, h5, h6, h7, h8, h9⟩ := plain_fact ⟨c.toNat, c.toNat_lt⟩ (by rw [hc]; exact h)
  rw [hc] at h8
  exact ⟨h1, fun e => h2 (by rw [e]; rfl), h3, fun e => h4 (by rw [e]; rfl), h5, fun e => h6 (by rw [e]; rfl), fun e => h7 (by rw [e]; rfl), h8, h9⟩

theorem plain_two : ∀ a : Fin 256, plain1 (UInt8.ofNat a.val) = true → UInt8.ofNat a.val ≠ 60 ∧ UInt8.ofNat a.val ≠ 62 ∧ UInt8.ofNat a.val ≠ 61 ∧ UInt8.ofNat a.val ≠ 33 ∧ UInt8.ofNat a.val ≠ 38 ∧ UInt8.ofNat a.val ≠ 124 := by decide +kernel

theorem Lx.sg1 {c : UInt8} (h : plain1 c = true) {l : List UInt8} {ts : List Tk} (hl : Lx l ts) : Lx (c :: l) (tkSg (B [c]) :: ts) := by
  obtain ⟨h1, h2, h3, h4, h5, h6, h7, h8, _⟩ := plain_byte c h
  have hc : UInt8.ofNat c.toNat = c := UInt8.ofNat_toNat
  have ht := plain_two ⟨c.toNat, c.toNat_lt⟩ (by rw [hc]; exact h)
  simp only [hc] at ht
  obtain ⟨t1, t2, t3, t4, t5, t6⟩ := ht
  refine Lx.tok (p := [c]) (t := { kind := 4, text := B [c] }) ?_ ?_ (show (4 : Int) ≠ 8 by decide) hl
  · show sepL (c :: l) = (0, 0)
    unfold sepL
    rw [if_neg (fun h => h2 (Option.some.inj h.1)), if_neg (fun h => h2 (Option.some.inj h.1)), tw_cons_neg h1]
    rfl
  · show cutC c l = _
    unfold cutC
    have hr : ¬ refH c l = true := by unfold refH; rw [decide_eq_false h7]; simp
    have hw : wordL (c :: l) = 0 := by
      unfold wordL
      rw [if_neg (fun h => h2 (Option.some.inj h.1))]
    have htw : twoH c l = false := by
      unfold twoH
      cases l with
      | nil => rfl
      | cons b l =>
        show twoP c b = false
        unfold twoP
        simp [t1, t2, t3, t4, t5, t6]
    have hs : signL c l = 1 := by
      unfold signL
      rw [htw, h8]
      rfl
    rw [if_neg (by rw [h3, decide_eq_false h4]; decide), if_neg (by rw [h5]; decide), if_neg h6, if_neg hr, hw, if_neg (Nat.lt_irrefl 0), hs, if_pos Nat.zero_lt_one]
    rfl

/-- Any sign, a blank after it. -/
def signs : List (List UInt8) := [[42], [47], [37], [43], [45], [60, 60], [62, 62], [60], [62], [60, 61], [62, 61], [61, 61], [33, 61], [38], [94], [124], [38, 38], [124, 124], [63], [58], [126], [33], [40], [41]]

theorem sign_cut : ∀ s ∈ signs, ∀ R, sepL (s ++ 32 :: R) = (0, 0) ∧ cutL (s ++ 32 :: R) = ({ kind := 4, text := B s }, s.length, 0) := by
  intro s hs R
  simp only [signs, List.mem_cons, List.not_mem_nil, or_false] at hs
  rcases hs with rfl | rfl | rfl | rfl | rfl | rfl | rfl | rfl | rfl | rfl | rfl | rfl | rfl | rfl | rfl | rfl | rfl | rfl | rfl | rfl | rfl | rfl | rfl | rfl <;> exact ⟨by kernel_rfl, by kernel_rfl⟩

theorem Lx.sg {s : List UInt8} (h : s ∈ signs) {l : List UInt8} {ts : List Tk} (hl : Lx l ts) : Lx (s ++ 32 :: l) (tkSg (B s) :: ts) := by
  obtain ⟨h1, h2⟩ := sign_cut s h l
  exact Lx.tok (t := { kind := 4, text := B s }) h1 h2 (show (4 : Int) ≠ 8 by decide) hl.sp

theorem noWord_sp (l : List UInt8) : noWord (32 :: l) := fun u hu => by cases hu; decide
theorem noWord_nil : noWord [] := fun u hu => by cases hu
theorem noWord_cons {c : UInt8} (h : wordB (bi c) = false) (l : List UInt8) : noWord (c :: l) := fun u hu => by cases hu; exact h
theorem noWord_plain {c : UInt8} (h : plain1 c = true) (l : List UInt8) : noWord (c :: l) := noWord_cons (plain_byte c h).2.2.2.2.2.2.2.2 l

end Go.Ab

/- Texts of pieces, and their tokens. -/
namespace Go.Ab
open Go.Proofs
set_option linter.unusedSectionVars false
set_option maxRecDepth 100000
variable [Glob]

/-- A number, a sign and a blank, a sign alone, a blank. -/
inductive Pc where
  | num (n : Nat)
  | sg (s : List UInt8)
  | s1 (c : UInt8)
  | sp

def Pc.txt : Pc → List UInt8
  | .num n => fmtL n
  | .sg s => s ++ [32]
  | .s1 c => [c]
  | .sp => [32]

def Pc.toks : Pc → List Tk
  | .num n => [tkNum n]
  | .sg s => [tkSg (B s)]
  | .s1 c => [tkSg (B [c])]
  | .sp => []

def pcTxt : List Pc → List UInt8
  | [] => []
  | p :: ps => p.txt ++ pcTxt ps

def pcToks : List Pc → List Tk
  | [] => []
  | p :: ps => p.toks ++ pcToks ps

/-- What may follow a number. -/
def Pc.after : List Pc → Bool
  | [] => true
  | .sp :: _ => true
  | .s1 c :: _ => plain1 c
  | .sg s :: _ => signs.contains s
  | .num _ :: _ => false

def pcOk : List Pc → Bool
  | [] => true
  | .num _ :: ps => Pc.after ps && pcOk ps
  | .sg s :: ps => signs.contains s && pcOk ps
  | .s1 c :: ps => plain1 c && pcOk ps
  | .sp :: ps => pcOk ps

theorem sign_head : ∀ s ∈ signs, ∀ u, s.head? = some u → wordB (bi u) = false := by decide +kernel
theorem sign_ne : ∀ s ∈ signs, s ≠ [] := by decide +kernel

theorem after_noWord {ps : List Pc} (h : Pc.after ps = true) : noWord (pcTxt ps) := by
  cases ps with
  | nil => exact noWord_nil
  | cons p ps =>
    cases p with
    | num n => cases h
    | sp => exact noWord_sp _
    | s1 c => exact noWord_plain h _
    | sg s =>
      have hs : s ∈ signs := by simpa [Pc.after] using h
      intro u hu
      have hne := sign_ne s hs
      cases hc : s with
      | nil => exact absurd hc hne
      | cons a r =>
        subst hc
        have hu' : some a = some u := hu
        cases hu'
        exact sign_head _ hs _ rfl

theorem pcLx : ∀ ps : List Pc, pcOk ps = true → (∀ n, Pc.num n ∈ ps → n ≤ 4294967295) → Lx (pcTxt ps) (pcToks ps) := by
  intro ps
  induction ps with
  | nil => intro _ _; exact Lx.nil
  | cons p ps ih =>
    intro h hn
    have hn' : ∀ n, Pc.num n ∈ ps → n ≤ 4294967295 := fun n hm => hn n (List.mem_cons_of_mem _ hm)
    cases p with
    | num n =>
      have h2 := Bool.and_eq_true_iff.1 h
      exact Lx.fmt (hn n (by simp)) (after_noWord h2.1) (ih h2.2 hn')
    | sp => exact Lx.sp (ih h hn')
    | s1 c =>
      have h2 := Bool.and_eq_true_iff.1 h
      exact Lx.sg1 h2.1 (ih h2.2 hn')
    | sg s =>
      have h2 := Bool.and_eq_true_iff.1 h
      have hs : s ∈ signs := by simpa using h2.1
      show Lx ((s ++ [32]) ++ pcTxt ps) _
      rw [List.append_assoc]
      exact Lx.sg hs (ih h2.2 hn')

theorem by0_nd {s : ByteArray} (h : divs s = false) (b : Int) : by0 s b = false := by
  unfold by0
  rw [h, Bool.and_false]

theorem oN (D : Nat) {n : Nat} (h : n < 4294967296) (ts : List Tk) : OpdOk D (tkNum n :: ts) n ts := (OpdOk.num (by omega) (by omega) ts).le (Nat.zero_le D)
theorem rE (D m : Nat) (x : Int) : RwsOk D m x [tkEnd] x [tkEnd] := (RwsOk.stop (.inl rfl)).le (Nat.zero_le D)
theorem rP (D m : Nat) (x : Int) (ts : List Tk) : RwsOk D m x (tkSg sRp :: ts) x (tkSg sRp :: ts) := (RwsOk.stop (.inl rfl)).le (Nat.zero_le D)
theorem rS (D m : Nat) (s : ByteArray) (h : Nat.ble m (betw s) = true) (x : Int) (ts : List Tk) : RwsOk D m x (tkSg s :: ts) x (tkSg s :: ts) := (RwsOk.stop (.inr (Nat.le_of_ble_eq_true h))).le (Nat.zero_le D)
theorem wE {D : Nat} {ts ts1 : List Tk} {x c : Int} (hD : D ≤ 8) (h1 : OpdOk D ts x ts1) (h2 : RwsOk D 11 x ts1 c [tkEnd]) : WhlOk D ts c [tkEnd] := WhlOk.plain hD h1 h2 (by decide)
theorem wP {D : Nat} {ts ts1 ts2 : List Tk} {x c : Int} (hD : D ≤ 8) (h1 : OpdOk D ts x ts1) (h2 : RwsOk D 11 x ts1 c (tkSg sRp :: ts2)) : WhlOk D ts c (tkSg sRp :: ts2) := WhlOk.plain hD h1 h2 (by rw [sgn_tk]; decide)
theorem oF {D : Nat} (s : ByteArray) (hs : frontV s = true) {ts ts' : List Tk} {x : Int} (h : OpdOk D ts x ts') : OpdOk D (tkSg s :: ts) (calcV 0 s 0 x) ts' := OpdOk.front hs h
theorem oP {D : Nat} {ts ts' : List Tk} {x : Int} (h : WhlOk D ts x (tkSg sRp :: ts')) : OpdOk (D + 1) (tkSg sLp :: ts) x ts' := OpdOk.paren h
/-- One sign between two operands, taken at once. -/
theorem rO {D m k : Nat} {s : ByteArray} {x y z : Int} {ts1 ts2 ts4 : List Tk} (hD : D ≤ 8) (hk : betw s = k) (hk0 : k ≠ 0) (hkm : k < m) (h1 : OpdOk D ts1 y ts2) (h2 : RwsOk D k y ts2 y ts2) (hb : by0 s y = false)
    (h3 : RwsOk D m (calcV k s x y) ts2 z ts4) : RwsOk D m x (tkSg s :: ts1) z ts4 := RwsOk.step hD hk hk0 hkm h1 h2 hb h3
end Go.Ab
