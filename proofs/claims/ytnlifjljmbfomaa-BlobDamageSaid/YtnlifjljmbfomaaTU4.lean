/- Data that come in, with slices in them. -/
import Derived.Test.YtnlifjljmbfomaaTX0toY60
namespace Go.Ab
open Go.RowKit
set_option linter.unusedSectionVars false

/-- The fields of a struct, each behind the one before it. -/
def nestGo (P : Program) (f : TypeId → Option CT) (tot : Nat) : List Field → Nat → Option CT
  | [], _ => none
  | [x], off => match f x.type with
    | some c => if x.offset = off ∧ P.cellsOf x.type = c.width ∧ tot = off + c.width then some c else none
    | none => none
  | x :: r, off => match f x.type, nestGo P f tot r (off + P.cellsOf x.type) with
    | some a, some b => if x.offset = off ∧ P.cellsOf x.type = a.width then some (.pair a b) else none
    | _, _ => none
/-- The shape of a type of numbers, texts, structs and slices. -/
def nestOf (P : Program) : Nat → TypeId → Option CT
  | 0, _ => none
  | d + 1, t => match P.underlying t with
    | some (.int k) => some (.int k)
    | some .bool => some .bool
    | some .string => some .str
    | some (.slice e) => match nestOf P d e with
      | some c => if P.cellsOf e = c.width then some (.list c) else none
      | none => none
    | some (.struct fs) => nestGo P (nestOf P d) (P.cellsOf t) fs.toList 0
    | _ => none

theorem CT.width_pos : ∀ t : CT, 0 < t.width
  | .pair a b => by have := CT.width_pos a; show 0 < a.width + b.width; omega
  | .int _ => Nat.one_pos
  | .bool => Nat.one_pos
  | .str => Nat.one_pos
  | .list _ => Nat.one_pos
  | .fn => Nat.one_pos
  | .map _ _ => Nat.one_pos

variable {H : Type} {enc : TypeId × Value → H} {P : Program} {w : World} {base : Nat} {spare : Nat → Bool} {held : Bool} {I : Cells}

theorem nestGo_tot {f : TypeId → Option CT} {tot : Nat} : ∀ (fs : List Field) (o : Nat) (c : CT), nestGo P f tot fs o = some c → o ≤ tot := by
  intro fs
  induction fs with
  | nil => intro o c h; cases h
  | cons u v ihh =>
    intro o c h
    cases v with
    | nil =>
      simp only [nestGo] at h
      split at h
      · split at h
        · rename_i hc; omega
        · cases h
      · cases h
    | cons v1 v2 =>
      simp only [nestGo] at h
      split at h
      · rename_i hh
        have := ihh _ _ hh
        omega
      · cases h

theorem nestGo_rep {f : TypeId → Option CT} {tot : Nat} {cs : List Value} (htot : tot = cs.length) :
    ∀ (fs : List Field) (off : Nat) (c : CT), nestGo P f tot fs off = some c → off ≤ cs.length →
      (∀ x ∈ fs, ∀ a, f x.type = some a → ∃ z : a.den, Rep I w a z ((cs.drop x.offset).take (P.cellsOf x.type))) → ∃ z : c.den, Rep I w c z (cs.drop off) := by
  intro fs
  induction fs with
  | nil => intro off c h; cases h
  | cons x r ih =>
    intro off c h ho hx
    cases r with
    | nil =>
      simp only [nestGo] at h
      cases hf : f x.type with
      | none => rw [hf] at h; cases h
      | some a =>
        rw [hf] at h
        dsimp only at h
        split at h
        · rename_i hc
          obtain rfl : a = c := Option.some.inj h
          obtain ⟨h1, h2, h3⟩ := hc
          obtain ⟨z, hz⟩ := hx x (by simp) a hf
          refine ⟨z, ?_⟩
          rwa [h1, List.take_of_length_le (by rw [List.length_drop]; omega)] at hz
        · cases h
    | cons y r =>
      simp only [nestGo] at h
      cases hf : f x.type with
      | none => rw [hf] at h; cases h
      | some a =>
        rw [hf] at h
        cases hg : nestGo P f tot (y :: r) (off + P.cellsOf x.type) with
        | none =>
          rw [hg] at h
          cases h
        | some b =>
          rw [hg] at h
          dsimp only at h
          split at h
          · rename_i hc
            cases h
            obtain ⟨h1, h2⟩ := hc
            have hle : off + P.cellsOf x.type ≤ cs.length := by
              have := nestGo_tot _ _ _ hg
              omega
            obtain ⟨z1, hz1⟩ := hx x (by simp) a hf
            obtain ⟨z2, hz2⟩ := ih _ b hg hle fun u hu => hx u (by simp [hu])
            refine ⟨(z1, z2), ⟨(cs.drop off).take (P.cellsOf x.type), cs.drop (off + P.cellsOf x.type), ?_, ?_, hz2⟩⟩
            · rw [← List.drop_drop, List.take_append_drop]
            · rwa [h1] at hz1
          · cases h

theorem choose_list' {α : Type} (n : Nat) (p : Nat → α → Prop) (h : ∀ i, i < n → ∃ z, p i z) : ∃ zs : List α, zs.length = n ∧ ∀ i z, zs[i]? = some z → p i z := by
  induction n with
  | zero => exact ⟨[], rfl, fun i z hz => by simp at hz⟩
  | succ n ih =>
    obtain ⟨zs, h1, h2⟩ := ih fun i hi => h i (by omega)
    obtain ⟨z, hz⟩ := h n (by omega)
    refine ⟨zs ++ [z], by simp [h1], fun i x hx => ?_⟩
    rcases Nat.lt_or_ge i zs.length with hi | hi
    · rw [List.getElem?_append_left hi] at hx
      exact h2 i x hx
    · have e : i = n := by
        have := (List.getElem?_eq_some_iff.1 hx).1
        simp at this
        omega
      subst e
      rw [List.getElem?_append_right (by omega), show i - zs.length = 0 by omega] at hx
      cases hx
      exact hz

theorem addr_add4 (b off n : Nat) : (⟨b, off, none⟩ : Addr).add n = ⟨b, off + n, none⟩ := by unfold Addr.add; split <;> simp_all
theorem cell_nospot {w : World} {a : Addr} {v : Value} (h : w.cell? a = some v) : a.spot = none := by
  unfold World.cell? at h
  split at h
  · split at h
    · cases h
    · rename_i hs
      cases hsp : a.spot with
      | none => rfl
      | some s => rw [hsp] at hs; simp at hs
  · cases h

theorem nest_rep (hI : ∀ b o, b < w.heap.size → I b o) : ∀ (d : Nat) (t : TypeId) (c : CT), nestOf P d t = some c → ∀ (fuel : Nat) (cs : List Value) (y : DataW H × List MemPlace), DataW.trod enc P w base spare held fuel t cs = some y → ∃ z : c.den, Rep I w c z cs := by
  intro d
  induction d with
  | zero => intro t c h; cases h
  | succ d ih =>
    intro t c h fuel cs y hy
    unfold nestOf at h
    split at h
    · rename_i k hu
      cases h
      obtain ⟨n, rfl, _⟩ := DataW.trod_int hu hy
      exact ⟨n, rfl⟩
    · rename_i hu
      cases h
      obtain ⟨b, rfl, _⟩ := DataW.trod_bool hu hy
      exact ⟨b, rfl⟩
    · rename_i hu
      cases h
      obtain ⟨s, rfl, _⟩ := DataW.trod_string hu hy
      exact ⟨s, rfl⟩
    · rename_i e hu
      split at h
      · rename_i c' hc
        split at h
        · rename_i hw
          cases h
          rcases DataW.trod_slice hu hy with ⟨rfl, _⟩ | ⟨a, len, cap, elems, rest, n, _, rfl, _, _, hl, _, hlen, hel, _, _⟩
          · exact ⟨[], .inl ⟨rfl, rfl⟩⟩
          · rcases Nat.eq_zero_or_pos len with h0 | h0
            · subst h0
              exact ⟨[], .inr (.inr ⟨rfl, a, cap, rfl⟩)⟩
            · have hwp := CT.width_pos c'
              have get : ∀ i, i < len → ∃ (cs : List Value) (z : c'.den), cs.length = c'.width ∧ Rep I w c' z cs ∧ ∀ j, j < c'.width → w.cell? ((a.add (i * P.cellsOf e)).add j) = cs[j]? := by
                intro i hi
                have h1 := hel i hi
                rw [List.getElem?_eq_getElem (by omega)] at h1
                obtain ⟨cs, h2, h3⟩ := Option.bind_eq_some_iff.1 h1
                obtain ⟨_, h4, h5⟩ := World.cells?_some h2
                obtain ⟨z, hz⟩ := ih e c' hc n cs _ h3
                exact ⟨cs, z, by rw [h4, hw], hz, fun j hj => h5 j (by rw [hw]; exact hj)⟩
              have hsp : a.spot = none := by
                obtain ⟨cs, _, hcl, _, hcell⟩ := get 0 h0
                have h6 := hcell 0 hwp
                rw [List.getElem?_eq_getElem (by omega)] at h6
                have h7 := cell_nospot h6
                have h8 : (a.add (0 * P.cellsOf e)).add 0 = a := by simp [Addr.add]
                rwa [h8] at h7
              obtain ⟨b, off, sp⟩ := a
              obtain rfl : sp = none := hsp
              have each : ∀ i, i < len → ∃ z : c'.den, ∃ us : List Value, us.length = c'.width ∧ Rep I w c' z us ∧ ∀ j u, us[j]? = some u → w.at' b (off + i * c'.width + j) = some u := by
                intro i hi
                obtain ⟨cs, z, hcl, hz, hcell⟩ := get i hi
                refine ⟨z, cs, hcl, hz, fun j u hj => ?_⟩
                have hjl : j < c'.width := by
                  have := (List.getElem?_eq_some_iff.1 hj).1
                  omega
                have h6 := hcell j hjl
                rw [addr_add4, addr_add4, hj, hw] at h6
                exact h6
              obtain ⟨zs, hz1, hz2⟩ := choose_list' len _ each
              refine ⟨zs, .inr (.inl ⟨b, off, cap, by rw [hz1], by rw [hz1]; exact hl, fun i z hi => ?_⟩)⟩
              obtain ⟨us, _, h2, h3⟩ := hz2 i z hi
              exact ⟨us, h2, fun j u hj => ⟨hI _ _ (cell_lt (h3 j u hj)), h3 j u hj⟩⟩
        · cases h
      · cases h
    · rename_i fs hu
      obtain ⟨xs, n, _, _, hl, hxl, hf⟩ := DataW.trod_struct hu hy
      obtain ⟨z, hz⟩ := nestGo_rep (P := P) hl.symm fs.toList 0 c h (Nat.zero_le _) fun x hx a ha => by
        obtain ⟨i, hi⟩ := List.getElem?_of_mem hx
        have hi' : fs[i]? = some x := by rw [← Array.getElem?_toList]; exact hi
        have h2 := hf i x hi'
        have hil : i < xs.length := by
          have := (Array.getElem?_eq_some_iff.1 hi').1
          omega
        rw [List.getElem?_eq_getElem hil] at h2
        exact ih x.type a ha n _ _ h2
      exact ⟨z, by rwa [List.drop_zero] at hz⟩
    · cases h

/-- A slice that is read, with slices in it: what it holds. -/
theorem nest_slice {t : TypeId} {c : CT} {d : Nat} {v : Value} {y : DataW H} {ps : List MemPlace} (hI : ∀ b o, b < w.heap.size → I b o) (hc : nestOf P d t = some (.list c))
    (h : DataW.Trod enc P w base spare held t v y ps) {a : Option Addr} {len cap : Nat} (hv : v = .slice a len cap) : ∃ zs : List c.den, RepV I w (.l c zs) v := by
  subst hv
  obtain ⟨fuel, hf⟩ := h
  have hcs : (Value.slice a len cap).cells.toList = [.slice a len cap] := rfl
  rw [hcs] at hf
  obtain ⟨zs, hz⟩ := nest_rep hI d t _ hc fuel _ _ hf
  exact ⟨zs, hz⟩
end Go.Ab
