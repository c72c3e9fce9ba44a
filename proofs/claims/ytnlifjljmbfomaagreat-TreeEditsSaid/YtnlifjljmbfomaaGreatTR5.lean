/- Package token: numbers, names, words, signs. -/
import Derived.Test.YtnlifjljmbfomaaGreatTR2toR4
namespace Go.Ab
open Go.Proofs
set_option linter.unusedSectionVars false
set_option maxRecDepth 100000
variable [Base]
def prefB (s t : ByteArray) : Bool := decide ((t.size : Int) ≤ s.size) && decide (s.extract 0 t.size = t)
def trimP (s t : ByteArray) : ByteArray := if prefB s t then s.extract t.size s.size else s
def cutPre (s t : ByteArray) : SV := .tup [.c (.str (trimP s t)), .c (.bool (prefB s t))]
def T34 : Table := ext T33 149 (saysSS fun s t => (none, .bool (prefB s t)))
def T35 : Table := T34
def T36 : Table := ext T35 121 (saysSS fun s t => (none, cutPre s t))
def T37 : Table := ext T36 77 (saysSS fun s t => (none, cutPre s t))
theorem t34 : TS9 T34 := by
 refine extSS t33 149 (fn := Tryz.f149) rfl rfl (by decide) _ [0, 1, 4] fun s t _ => ?_
 conv => whnf
 refine ⟨fun h => ?_, ?_⟩
 ·simp [lit] at h; omega
 conv => whnf
 exact eR9
theorem t35 : TS9 T35 := t34
theorem t36 : TS9 T36 := by
 refine extSS t35 121 (fn := Tryz.f121) rfl rfl (by decide) _ [0, 1, 4, 5, 9] fun s t _ => ?_
 conv => whnf
 refine cI9 ?_ ?_<;>intro h
 ·have h' : prefB s t = false := by simpa using h
  conv => whnf
  refine eT9 ?_
  simp only [cutPre, trimP, h', Bool.false_eq_true, if_false]
 ·have h' : prefB s t = true := by simpa using h
  have h2 : (t.size : Int) ≤ s.size := by simp [prefB] at h'; omega
  conv => whnf
  refine ⟨by omega, ?_⟩
  conv => whnf
  refine eT9 ?_
  simp only [cutPre, trimP, h', if_true]
  rfl
theorem t37 : TS9 T37 := by
 refine extSS t36 77 (fn := Tryz.f77) rfl rfl (by decide) _ [0, 1, 4, 5] fun s t _ => ?_
 conv => whnf
 exact eR9
end Go.Ab
