/- Slices of structs that come in. -/
import Derived.Test.YteidakoieemlgaaGreatDoorTV14toG4
namespace Go.Ab
open Go.RowKit
set_option linter.unusedSectionVars false

/-- The shape of a type without addresses; each field lies behind the one before it. -/
def flatOf (P : Program) : Nat → TypeId → Option CT
  | 0, _ => none
  | d + 1, t => match P.underlying t with
    | some (.int k) => some (.int k)
    | some .bool => some .bool
    | some .string => some .str
    | some (.struct fs) => flatGo P (flatOf P d) (P.cellsOf t) fs.toList 0
    | _ => none
where
  flatGo (P : Program) (f : TypeId → Option CT) (tot : Nat) : List Field → Nat → Option CT
    | [], _ => none
    | [x], off => match f x.type with
      | some c => if x.offset = off ∧ P.cellsOf x.type = c.width ∧ tot = off + c.width then some c else none
      | none => none
    | x :: r, off => match f x.type, flatGo P f tot r (off + P.cellsOf x.type) with
      | some a, some b => if x.offset = off ∧ P.cellsOf x.type = a.width then some (.pair a b) else none
      | _, _ => none

variable {H : Type} {enc : TypeId × Value → H} {P : Program} {w : World} {base : Nat} {spare : Nat → Bool} {held : Bool}

theorem flatGo_rep {f : TypeId → Option CT} {tot : Nat} {cs : List Value} (htot : tot = cs.length) :
    ∀ (fs : List Field) (off : Nat) (c : CT), flatOf.flatGo P f tot fs off = some c → off ≤ cs.length →
      (∀ x ∈ fs, ∀ a, f x.type = some a → ∃ z : a.den, ∀ I w', Rep I w' a z ((cs.drop x.offset).take (P.cellsOf x.type))) → ∃ z : c.den, ∀ I w', Rep I w' c z (cs.drop off) := by
  intro fs
  induction fs with
  | nil => intro off c h; cases h
  | cons x r ih =>
    intro off c h ho hx
    cases r with
    | nil =>
      simp only [flatOf.flatGo] at h
      cases hf : f x.type with
      | none => rw [hf] at h; cases h
      | some a =>
        rw [hf] at h
        dsimp only at h
        split at h
        · rename_i hc
          obtain rfl : a = c := Option.some.inj h
          obtain ⟨h1, h2, h3⟩ := hc
          obtain ⟨z, hz⟩ := hx x (by simp) a hf
          refine ⟨z, fun I w' => ?_⟩
          have := hz I w'
          rwa [h1, List.take_of_length_le (by rw [List.length_drop]; omega)] at this
        · cases h
    | cons y r =>
      simp only [flatOf.flatGo] at h
      cases hf : f x.type with
      | none => rw [hf] at h; cases h
      | some a =>
        rw [hf] at h
        cases hg : flatOf.flatGo P f tot (y :: r) (off + P.cellsOf x.type) with
        | none =>
          rw [hg] at h
          cases h
        | some b =>
          rw [hg] at h
          dsimp only at h
          split at h
          · rename_i hc
            cases h
            obtain ⟨h1, h2⟩ := hc
            have hle : off + P.cellsOf x.type ≤ cs.length := by
              have : ∀ (fs : List Field) (o : Nat) (c : CT), flatOf.flatGo P f tot fs o = some c → o ≤ tot := by
                intro fs
                induction fs with
                | nil => intro o c h; cases h
                | cons u v ihh =>
                  intro o c h
                  cases v with
                  | nil =>
                    simp only [flatOf.flatGo] at h
                    split at h
                    · split at h
                      · rename_i hc; omega
                      · cases h
                    · cases h
                  | cons v1 v2 =>
                    simp only [flatOf.flatGo] at h
                    split at h
                    · rename_i hh
                      have := ihh _ _ hh
                      omega
                    · cases h
              have := this _ _ _ hg
              omega
            obtain ⟨z1, hz1⟩ := hx x (by simp) a hf
            obtain ⟨z2, hz2⟩ := ih _ b hg hle fun u hu => hx u (by simp [hu])
            refine ⟨(z1, z2), fun I w' => ⟨(cs.drop off).take (P.cellsOf x.type), cs.drop (off + P.cellsOf x.type), ?_, ?_, hz2 I w'⟩⟩
            · rw [← List.drop_drop, List.take_append_drop]
            · have := hz1 I w'
              rwa [h1] at this
          · cases h

theorem flat_rep : ∀ (d : Nat) (t : TypeId) (c : CT), flatOf P d t = some c → ∀ (fuel : Nat) (cs : List Value) (y : DataW H × List MemPlace), DataW.trod enc P w base spare held fuel t cs = some y → ∃ z : c.den, ∀ I w', Rep I w' c z cs := by
  intro d
  induction d with
  | zero => intro t c h; cases h
  | succ d ih =>
    intro t c h fuel cs y hy
    unfold flatOf at h
    split at h
    · rename_i k hu
      cases h
      obtain ⟨n, rfl, _⟩ := DataW.trod_int hu hy
      exact ⟨n, fun I w' => rfl⟩
    · rename_i hu
      cases h
      obtain ⟨b, rfl, _⟩ := DataW.trod_bool hu hy
      exact ⟨b, fun I w' => rfl⟩
    · rename_i hu
      cases h
      obtain ⟨s, rfl, _⟩ := DataW.trod_string hu hy
      exact ⟨s, fun I w' => rfl⟩
    · rename_i fs hu
      obtain ⟨xs, n, _, _, hl, hxl, hf⟩ := DataW.trod_struct hu hy
      obtain ⟨z, hz⟩ := flatGo_rep (P := P) hl.symm fs.toList 0 c h (Nat.zero_le _) fun x hx a ha => by
        obtain ⟨i, hi⟩ := List.getElem?_of_mem hx
        have hi' : fs[i]? = some x := by rw [← Array.getElem?_toList]; exact hi
        have h2 := hf i x hi'
        have hil : i < xs.length := by
          have := (Array.getElem?_eq_some_iff.1 hi').1
          omega
        rw [List.getElem?_eq_getElem hil] at h2
        exact ih x.type a ha n _ _ h2
      exact ⟨z, fun I w' => by have := hz I w'; rwa [List.drop_zero] at this⟩
    · cases h

theorem choose_list {α : Type} (n : Nat) (p : Nat → α → Prop) (h : ∀ i, i < n → ∃ z, p i z) : ∃ zs : List α, zs.length = n ∧ ∀ i z, zs[i]? = some z → p i z := by
  induction n with
  | zero => exact ⟨[], rfl, fun i z hz => by simp at hz⟩
  | succ n ih =>
    obtain ⟨zs, h1, h2⟩ := ih fun i hi => h i (by omega)
    obtain ⟨z, hz⟩ := h n (by omega)
    refine ⟨zs ++ [z], by simp [h1], fun i x hx => ?_⟩
    rcases Nat.lt_or_ge i zs.length with hi | hi
    · rw [List.getElem?_append_left hi] at hx
      exact h2 i x hx
    · have e : i = n := by
        have := (List.getElem?_eq_some_iff.1 hx).1
        simp at this
        omega
      subst e
      rw [List.getElem?_append_right (by omega), show i - zs.length = 0 by omega] at hx
      cases hx
      exact hz

/-- A slice of flat structs that is read: what it holds. -/
theorem flat_slice {t e : TypeId} {c : CT} {d : Nat} {v : Value} {y : DataW H} {ps : List MemPlace} {r : Reach} {base' : Nat} (ht : P.underlying t = some (.slice e)) (hc : flatOf P d e = some c) (hw : P.cellsOf e = c.width)
    (h : DataW.Trod enc P w base spare held t v y ps) (hok : Value.okWide P w r base' t v) {a : Option Addr} {len cap : Nat} (hv : v = .slice a len cap) :
    ∃ zs : List c.den, zs.length = len ∧ (∀ I : Cells, (∀ b o, RowCells a (len * c.width) b o → I b o) → RepV I w (.l c zs) v) ∧ ∀ b o, RowCells a (len * c.width) b o → b < w.heap.size := by
  subst hv
  obtain ⟨fuel, hf⟩ := h
  have hcs : (Value.slice a len cap).cells.toList = [.slice a len cap] := rfl
  rw [hcs] at hf
  rcases DataW.trod_slice ht hf with ⟨h0, _⟩ | ⟨a', len', cap', elems, rest, n, _, h0, _, _, hl, _, hlen, hel, _, _⟩
  · cases h0
    refine ⟨[], rfl, fun I _ => .inl ⟨rfl, rfl⟩, fun b o hb => ?_⟩
    obtain ⟨off, h1, _⟩ := hb
    cases h1
  · cases h0
    have hsp := slice_spot ht hok
    obtain ⟨b, off, sp⟩ := a'
    simp only at hsp
    subst hsp
    have hadd : ∀ off k, (⟨b, off, none⟩ : Addr).add k = ⟨b, off + k, none⟩ := fun off k => by unfold Addr.add; split <;> simp_all
    have each : ∀ i, i < len → ∃ z : c.den, ∃ us : List Value, us.length = c.width ∧ (∀ I w', Rep I w' c z us) ∧ ∀ j u, us[j]? = some u → w.at' b (off + i * c.width + j) = some u := by
      intro i hi
      have h1 := hel i hi
      rw [List.getElem?_eq_getElem (by omega)] at h1
      obtain ⟨cs, h2, h3⟩ := Option.bind_eq_some_iff.1 h1
      obtain ⟨_, h4, h5⟩ := World.cells?_some h2
      obtain ⟨z, hz⟩ := flat_rep d e c hc n cs _ h3
      refine ⟨z, cs, by rw [h4, hw], hz, fun j u hj => ?_⟩
      have hjl : j < P.cellsOf e := by
        have := (List.getElem?_eq_some_iff.1 hj).1
        omega
      have := h5 j hjl
      rw [hadd, hadd, hj, hw] at this
      exact this
    obtain ⟨zs, hz1, hz2⟩ := choose_list len _ each
    refine ⟨zs, hz1, fun I hI => .inr ⟨b, off, cap, by rw [hz1], by omega, fun i z hi => ?_⟩, ?_⟩
    · obtain ⟨us, h1, h2, h3⟩ := hz2 i z hi
      refine ⟨us, h2 _ _, fun j u hj => ⟨hI _ _ ⟨off, rfl, by omega, ?_⟩, h3 j u hj⟩⟩
      have hil : i < len := by
        have := (List.getElem?_eq_some_iff.1 hi).1
        omega
      have hjl : j < c.width := by
        have := (List.getElem?_eq_some_iff.1 hj).1
        omega
      have : (i + 1) * c.width ≤ len * c.width := Nat.mul_le_mul_right _ hil
      rw [Nat.add_mul, Nat.one_mul] at this
      omega
    · rintro b' o ⟨off', h1, h2, h3⟩
      cases h1
      have hpos : 0 < c.width := by
        rcases Nat.eq_zero_or_pos c.width with h | h
        · rw [h, Nat.mul_zero] at h3; omega
        · exact h
      have hq : (o - off) / c.width < len := by rw [Nat.div_lt_iff_lt_mul hpos]; omega
      obtain ⟨z, us, h4, h5, h6⟩ := each _ hq
      have hm := Nat.mod_lt (o - off) hpos
      have := h6 ((o - off) % c.width) (us[(o - off) % c.width]) (List.getElem?_eq_getElem (by omega))
      exact cell_lt this
end Go.Ab
