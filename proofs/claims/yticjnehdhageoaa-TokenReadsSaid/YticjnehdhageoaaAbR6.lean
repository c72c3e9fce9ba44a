/- Package token: what separates, the reader. -/
import Derived.Test.YticjnehdhageoaaAbR5
import Derived.Lib.IndexMore
namespace Go.Ab
open Go.Proofs
set_option linter.unusedSectionVars false
set_option maxRecDepth 100000

/-- The package-level variable that strings.Index reads. -/
class Glob extends Base where
  hm : ∃ m : Int, (Var.mk 0 0 (.int .i64) m) ∈ vars

variable [Glob]

def indexV (s t : ByteArray) : Int := Lib.index s.data.toList t.data.toList

theorem indexV_ge (s t : ByteArray) : -1 ≤ indexV s t := Lib.index_ge _ _
theorem indexV_room (s t : ByteArray) (h : 0 ≤ indexV s t) : indexV s t + t.size ≤ s.size := Lib.index_room _ _ h

def T44 : Table := ext T43 61 (saysSS fun s t => (some (fits s), .int .i64 (indexV s t)))

theorem t44 : TSound Try.prog T44 := by
  refine ext_calls t43 61 (fn := Try.f61) rfl rfl rfl fun args H p r H' hs hp => ?_
  unfold saysSS at hs
  split at hs
  · rename_i s t
    cases hs
    refine ⟨rfl, fun G hS hH cargs ha => ?_⟩
    have hp' : s.size ≤ 1000000000 := hp
    cases ha with
    | cons h1 t1 =>
      cases t1 with
      | cons h2 t2 =>
        cases t2
        obtain ⟨_, rfl⟩ := h1
        obtain ⟨_, rfl⟩ := h2
        obtain ⟨m, hm⟩ := Glob.hm
        obtain ⟨us, hu, hc⟩ := hS.vars _ hm
        have hu' : us = [.int .i64 m] := hu
        subst hu'
        have := (hc 0 _ rfl).2
        exact ⟨_, ⟨rfl, rfl⟩, Try.strings_Index s t m _ (by omega) this⟩
  · cases hs

theorem prefB_size {s t : ByteArray} (h : prefB s t = true) : t.size ≤ s.size := by
  unfold prefB at h
  have := of_decide_eq_true (Bool.and_eq_true_iff.1 h).1
  omega

def sepV (s : ByteArray) : Int × Int :=
  if prefB s ⟨#[47, 47]⟩ then (leadN lineB s, 0)
  else if prefB s ⟨#[47, 42]⟩ then (if indexV (s.extract 2 s.size) ⟨#[42, 47]⟩ < 0 then (0, 21) else (indexV (s.extract 2 s.size) ⟨#[42, 47]⟩ + 4, 0))
  else (leadN spaceB s, 0)

def T45 : Table := ext T44 41 (saysS fun s => (some (fits s), numSV (sepV s)))

theorem t45 : TSound Try.prog T45 := by
  refine extS t44 41 (fn := Try.f41) rfl rfl (by decide) _ [0, 2, 3, 4, 5, 10, 17] fun s hs => ?_
  have hs' : s.size ≤ 1000000000 := hs
  conv => whnf
  refine cond_intro (fun h => ?_) (fun h => ?_)
  · have h' : prefB s ⟨#[47, 47]⟩ = true := h
    conv => whnf
    refine ⟨hs, ?_⟩
    conv => whnf
    refine ends_eq ⟨?_, rfl⟩
    simp only [sepV, h', if_true]
    rfl
  have h' : prefB s ⟨#[47, 47]⟩ = false := h
  conv => whnf
  refine cond_intro (fun h2 => ?_) (fun h2 => ?_)
  · have h2' : prefB s ⟨#[47, 42]⟩ = true := h2
    have hsz : 2 ≤ s.size := prefB_size h2'
    have hsz2 : (s.extract 2 s.size).size = s.size - 2 := by rw [ByteArray.size_extract]; omega
    have hge := indexV_ge (s.extract 2 s.size) ⟨#[42, 47]⟩
    have hroom := indexV_room (s.extract 2 s.size) ⟨#[42, 47]⟩
    conv => whnf
    refine ⟨by omega, ?_⟩
    conv => whnf
    refine ⟨?_, ?_⟩
    · show (s.extract 2 s.size).size ≤ 1000000000
      omega
    conv => whnf
    refine cond_intro (fun h3 => ?_) (fun h3 => ?_)
    · have h3' : indexV (s.extract 2 s.size) ⟨#[42, 47]⟩ < 0 := of_decide_eq_true h3
      conv => whnf
      refine ends_eq ⟨?_, rfl⟩
      simp only [sepV, h', h2', if_pos h3', if_true, Bool.false_eq_true, if_false]
      rfl
    · have h3' : ¬ indexV (s.extract 2 s.size) ⟨#[42, 47]⟩ < 0 := of_decide_eq_false h3
      conv => whnf
      refine ⟨?_, ?_⟩
      · show inI64 (indexV (s.extract 2 s.size) ⟨#[42, 47]⟩ + 4)
        unfold inI64
        have := hroom (by omega)
        omega
      conv => whnf
      refine ends_eq ⟨?_, rfl⟩
      simp only [sepV, h', h2', if_neg h3', if_true, Bool.false_eq_true, if_false]
      rfl
  · have h2' : prefB s ⟨#[47, 42]⟩ = false := h2
    conv => whnf
    refine ⟨hs, ?_⟩
    conv => whnf
    refine ends_eq ⟨?_, rfl⟩
    simp only [sepV, h', h2', Bool.false_eq_true, if_false]
    rfl

end Go.Ab
