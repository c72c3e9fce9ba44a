/- Package tree: parents, names, order. -/
import Derived.Test.YtnlifjljmbfomaaTX0toY60
namespace Go.Ab
open Go.Proofs
set_option linter.unusedSectionVars false
set_option maxRecDepth 100000
variable [Base]

def ptFrm (p : Pt) : Bool := prpB p.1
def ndFrm (i : Nat) (n : Nd) : Bool := !(decide ((i : Int) = 0) && (!decide (n.1 = -1) || !decide (n.2.1 = ⟨#[]⟩))) && !(decide (0 < (i : Int)) && ((decide (n.1 < 0) || decide ((i : Int) ≤ n.1)) || !namB n.2.1)) && n.2.2.all ptFrm
def frmGo : Nat → List Nd → Bool
  | _, [] => true
  | i, n :: r => ndFrm i n && frmGo (i + 1) r
def frmV (ns : List Nd) : Bool := frmGo 0 ns
theorem frm_drop {ns : List Nd} {i : Nat} (h : i < ns.length) : frmGo i (ns.drop i) = (ndFrm i ns[i] && frmGo (i + 1) (ns.drop (i + 1))) := by
  rw [List.drop_eq_getElem_cons h]
  rfl

/-- Lists are no longer than a number can tell. -/
structure LenN (ns : List Nd) : Prop where
  len : ns.length ≤ 1000000000
  ps : ∀ n ∈ ns, n.2.2.length ≤ 1000000000
theorem LenN.at {ns : List Nd} (h : LenN ns) {i : Nat} (hi : i < ns.length) : (ns[i]).2.2.length ≤ 1000000000 := h.ps _ (List.getElem_mem hi)

def A6 : Table := ext A5 25 (saysG daN eaN fun ns => (some (LenN ns), .bool (frmV ns)))
theorem a6 : TSound Try.prog A6 := by
  refine extG a5 25 (fn := Try.f25) rfl rfl daN eaN _ (fun _ => Nat.le_of_ble_eq_true rfl) [0, 2, 3, 4, 6, 7, 8, 9, 10, 25, 44, 46, 47, 48, 49, 55] fun ns hok => ?_
  have hok : LenN ns := hok
  have hlen := hok.len
  dsimp only
  unfold frmV
  repeat ((conv => whnf); refine ⟨by first | (unfold inI64; omega) | omega | exact ⟨by omega, by omega⟩ | exact rfl | decide +kernel, ?_⟩)
  conv => whnf
  refine loop_intro (σ := Nat) (fun i => [(0, XV.s .none), (2, XV.s .none), (3, XV.s .none), (4, XV.s .none), (6, XV.s .none), (7, XV.s (.a (.c (.p (.l ndC ns))))), (8, XV.s (.int .i64 (ns.length : Nat))), (9, XV.s (.int .i64 (i : Nat))), (10, XV.s .none), (25, XV.s .none), (44, XV.s .none), (46, XV.s .none), (47, XV.s .none), (48, XV.s .none), (49, XV.s .none), (55, XV.s .none)])
    (fun _ => []) (fun i => i ≤ ns.length ∧ frmGo 0 ns = frmGo i (ns.drop i)) (fun i => ns.length - i) 0 ?_ rfl ⟨Nat.zero_le _, rfl⟩ fun i hI => ?_
  · repeat (first | exact LeL.nil | refine LeL.drop ?_ | refine LeL.same ?_)
  obtain ⟨hi, hall⟩ := hI
  repeat ((conv => whnf); refine ⟨by first | (unfold inI64; omega) | omega | exact ⟨by omega, by omega⟩ | exact rfl | decide +kernel, ?_⟩)
  conv => whnf
  refine cond_intro (fun h2 => ?_) (fun h2 => ?_)
  · have hlt := lt_of_dec h2
    have hin : 0 ≤ (i : Int) ∧ (i : Int) < (ns.length : Nat) := by omega
    rw [frm_drop hlt] at hall
    have hg := nd_get hlt
    have hpl := hok.at hlt
    repeat ((conv => whnf); refine ⟨by first | exact hin | (unfold inI64; omega) | omega | exact ⟨by omega, by omega⟩ | exact rfl | decide +kernel, ?_⟩)
    conv => whnf
    generalize hnd : ns.getD ((i : Int)).toNat ndC.dflt = nd at hg ⊢
    rw [← hg] at hall hpl
    refine cond_intro (fun h3 => ?_) (fun h3 => ?_)
    · have h4 : ndFrm i nd = false := by
        have h5 : (decide ((i : Int) = 0) && (!decide (nd.1 = -1) || !decide (nd.2.1 = ⟨#[]⟩))) = true := h3
        unfold ndFrm
        rw [h5]
        rfl
      rw [hall, h4]
      repeat ((conv => whnf); refine ⟨by first | (unfold inI64; omega) | omega | exact ⟨by omega, by omega⟩ | exact rfl | decide +kernel, ?_⟩)
      conv => whnf
      exact ends_eq ⟨rfl, rfl⟩
    have h3 : (decide ((i : Int) = 0) && (!decide (nd.1 = -1) || !decide (nd.2.1 = ⟨#[]⟩))) = false := h3
    repeat ((conv => whnf); refine ⟨by first | (unfold inI64; omega) | omega | exact ⟨by omega, by omega⟩ | exact rfl | decide +kernel, ?_⟩)
    conv => whnf
    refine cond_intro (fun h5 => ?_) (fun h5 => ?_)
    · have h4 : ndFrm i nd = false := by
        have h6 : (decide (0 < (i : Int)) && ((decide (nd.1 < 0) || decide ((i : Int) ≤ nd.1)) || !namB nd.2.1)) = true := h5
        unfold ndFrm
        rw [h3, h6]
        rfl
      rw [hall, h4]
      repeat ((conv => whnf); refine ⟨by first | (unfold inI64; omega) | omega | exact ⟨by omega, by omega⟩ | exact rfl | decide +kernel, ?_⟩)
      conv => whnf
      exact ends_eq ⟨rfl, rfl⟩
    have h5 : (decide (0 < (i : Int)) && ((decide (nd.1 < 0) || decide ((i : Int) ≤ nd.1)) || !namB nd.2.1)) = false := h5
    have e4 : ndFrm i nd = nd.2.2.all ptFrm := by
      unfold ndFrm
      rw [h3, h5]
      rfl
    repeat ((conv => whnf); refine ⟨by first | (unfold inI64; omega) | omega | exact ⟨by omega, by omega⟩ | exact rfl | decide +kernel, ?_⟩)
    conv => whnf
    refine loop_intro (σ := Nat) (fun j => [(0, XV.s .none), (2, XV.s .none), (3, XV.s .none), (4, XV.s .none), (6, XV.s .none), (7, XV.s (.a (.c (.p (.l ndC ns))))), (8, XV.s (.int .i64 (ns.length : Nat))), (9, XV.s (.int .i64 (i : Nat))), (10, XV.s .none), (25, XV.s .none), (44, XV.s .none), (46, XV.s (.a (.c (.p (.l ptC nd.2.2))))), (47, XV.s (.int .i64 (nd.2.2.length : Nat))), (48, XV.s (.int .i64 (j : Nat))), (49, XV.s .none), (55, XV.s .none)])
      (fun _ => _) (fun j => j ≤ nd.2.2.length ∧ nd.2.2.all ptFrm = (nd.2.2.drop j).all ptFrm) (fun j => nd.2.2.length - j) 0 ?_ rfl ⟨Nat.zero_le _, rfl⟩ fun j hJ => ?_
    · repeat (first | exact LeL.nil | refine LeL.drop ?_ | refine LeL.same ?_)
    obtain ⟨hj, hjall⟩ := hJ
    repeat ((conv => whnf); refine ⟨by first | (unfold inI64; omega) | omega | exact ⟨by omega, by omega⟩ | exact rfl | decide +kernel, ?_⟩)
    conv => whnf
    refine cond_intro (fun h6 => ?_) (fun h6 => ?_)
    · have hjt := lt_of_dec h6
      have hjn : 0 ≤ (j : Int) ∧ (j : Int) < (nd.2.2.length : Nat) := by omega
      have hq := pt_get hjt
      rw [all_drop hjt] at hjall
      repeat ((conv => whnf); refine ⟨by first | exact hjn | (unfold inI64; omega) | omega | exact ⟨by omega, by omega⟩ | exact rfl | decide +kernel, ?_⟩)
      conv => whnf
      generalize hpt : nd.2.2.getD ((j : Int)).toNat ptC.dflt = pt at hq ⊢
      rw [← hq] at hjall
      refine cond_intro (fun h7 => ?_) (fun h7 => ?_)
      · have h8 : ptFrm pt = false := by
          have h9 : (!prpB pt.1) = true := h7
          show prpB pt.1 = false
          simpa using h9
        rw [hall, e4, hjall, h8]
        repeat ((conv => whnf); refine ⟨by first | (unfold inI64; omega) | omega | exact ⟨by omega, by omega⟩ | exact rfl | decide +kernel, ?_⟩)
        conv => whnf
        exact ends_eq ⟨rfl, rfl⟩
      have h8 : ptFrm pt = true := by
        have h9 : (!prpB pt.1) = false := h7
        show prpB pt.1 = true
        simpa using h9
      rw [h8, Bool.true_and] at hjall
      repeat ((conv => whnf); refine ⟨by first | (unfold inI64; omega) | omega | exact ⟨by omega, by omega⟩ | exact rfl | decide +kernel, ?_⟩)
      conv => whnf
      refine head_keep (j + 1) [0] rfl id0 rfl ?_ ⟨hjt, hjall⟩ ?_
      · repeat (first | exact KeepL.nil | refine KeepL.drop ?_ | refine KeepL.ren rfl ?_)
      · omega
    · have hje : j = nd.2.2.length := by have := ge_of_dec h6; omega
      subst hje
      rw [List.drop_length] at hjall
      rw [e4, hjall] at hall
      repeat ((conv => whnf); refine ⟨by first | (unfold inI64; omega) | omega | exact ⟨by omega, by omega⟩ | exact rfl | decide +kernel, ?_⟩)
      conv => whnf
      refine head_keep (i + 1) [] rfl (fun k hk => absurd hk (Nat.not_lt_zero k)) rfl ?_ ⟨hlt, hall⟩ ?_
      · repeat (first | exact KeepL.nil | refine KeepL.drop ?_ | refine KeepL.ren rfl ?_)
      · omega
  · have : i = ns.length := by have := ge_of_dec h2; omega
    subst this
    rw [List.drop_length] at hall
    rw [hall]
    repeat ((conv => whnf); refine ⟨by first | (unfold inI64; omega) | omega | exact ⟨by omega, by omega⟩ | exact rfl | decide +kernel, ?_⟩)
    conv => whnf
    exact ends_eq ⟨rfl, rfl⟩

/-! Ascending names. -/
def bLt (a b : ByteArray) : Bool := Op.bytesLess a.toList b.toList
def bLe (a b : ByteArray) : Bool := Op.bytesLess a.toList b.toList || decide (a = b)
def ascV : List Pt → Bool
  | [] => true
  | p :: r => (match r with | q :: _ => bLt p.1 q.1 | [] => true) && ascV r
theorem asc_drop {ps : List Pt} {j : Nat} (h : j + 1 < ps.length) : ascV (ps.drop j) = (bLt (ps[j]'(by omega)).1 (ps[j + 1]).1 && ascV (ps.drop (j + 1))) := by
  rw [List.drop_eq_getElem_cons (by omega), List.drop_eq_getElem_cons h]
  rfl
theorem asc_end {ps : List Pt} {j : Nat} (h : ps.length ≤ j + 1) : ascV (ps.drop j) = true := by
  rcases Nat.lt_or_ge j ps.length with h1 | h1
  · rw [List.drop_eq_getElem_cons h1, List.drop_eq_nil_of_le h]
    rfl
  · rw [List.drop_eq_nil_of_le h1]
    rfl

def A7 : Table := ext A6 54 (saysG daP eaP fun ps => (some (ps.length ≤ 1000000000), .bool (ascV ps)))
theorem a7 : TSound Try.prog A7 := by
  refine extG a6 54 (fn := Try.f54) rfl rfl daP eaP _ (fun _ => Nat.le_of_ble_eq_true rfl) [0, 2, 3, 7, 21] fun ps hok => ?_
  have hlen : ps.length ≤ 1000000000 := hok
  dsimp only
  repeat ((conv => whnf); refine ⟨by first | (unfold inI64; omega) | omega | exact ⟨by omega, by omega⟩ | exact rfl | decide +kernel, ?_⟩)
  conv => whnf
  refine loop_intro (σ := Nat) (fun j => [(0, XV.s (.a (.c (.p (.l ptC ps))))), (2, XV.s .none), (3, XV.s (.int .i64 (1 + (j : Int)))), (7, XV.s .none), (21, XV.s .none)])
    (fun _ => []) (fun j => j ≤ ps.length ∧ ascV ps = ascV (ps.drop j)) (fun j => ps.length - j) 0 ?_ rfl ⟨Nat.zero_le _, rfl⟩ fun j hI => ?_
  · repeat (first | exact LeL.nil | refine LeL.drop ?_ | refine LeL.same ?_)
  obtain ⟨hj, hall⟩ := hI
  repeat ((conv => whnf); refine ⟨by first | (unfold inI64; omega) | omega | exact ⟨by omega, by omega⟩ | exact rfl | decide +kernel, ?_⟩)
  conv => whnf
  refine cond_intro (fun h2 => ?_) (fun h2 => ?_)
  · have hlt : j + 1 < ps.length := by
      have : 1 + (j : Int) < (ps.length : Nat) := of_decide_eq_true h2
      omega
    have hin : 0 ≤ 1 + (j : Int) - 1 ∧ 1 + (j : Int) - 1 < (ps.length : Nat) := by omega
    have hin2 : 0 ≤ 1 + (j : Int) ∧ 1 + (j : Int) < (ps.length : Nat) := by omega
    rw [asc_drop hlt] at hall
    have e1 : ps.getD (1 + (j : Int) - 1).toNat ptC.dflt = ps[j] := by
      have : (1 + (j : Int) - 1).toNat = j := by omega
      rw [this]
      simp [show j < ps.length by omega]
    have e2 : ps.getD (1 + (j : Int)).toNat ptC.dflt = ps[j + 1] := by
      have : (1 + (j : Int)).toNat = j + 1 := by omega
      rw [this]
      simp [hlt]
    rw [← e1, ← e2] at hall
    repeat ((conv => whnf); refine ⟨by first | exact hin | exact hin2 | (unfold inI64; omega) | omega | exact ⟨by omega, by omega⟩ | exact rfl | decide +kernel, ?_⟩)
    conv => whnf
    refine cond_intro (fun h3 => ?_) (fun h3 => ?_)
    · have h4 : bLt (ps.getD (1 + (j : Int) - 1).toNat ptC.dflt).1 (ps.getD (1 + (j : Int)).toNat ptC.dflt).1 = false := by
        have h5 : (!bLt (ps.getD (1 + (j : Int) - 1).toNat ptC.dflt).1 (ps.getD (1 + (j : Int)).toNat ptC.dflt).1) = true := h3
        simpa using h5
      rw [hall, h4]
      repeat ((conv => whnf); refine ⟨by first | (unfold inI64; omega) | omega | exact ⟨by omega, by omega⟩ | exact rfl | decide +kernel, ?_⟩)
      conv => whnf
      exact ends_eq ⟨rfl, rfl⟩
    have h4 : bLt (ps.getD (1 + (j : Int) - 1).toNat ptC.dflt).1 (ps.getD (1 + (j : Int)).toNat ptC.dflt).1 = true := by
      have h5 : (!bLt (ps.getD (1 + (j : Int) - 1).toNat ptC.dflt).1 (ps.getD (1 + (j : Int)).toNat ptC.dflt).1) = false := h3
      simpa using h5
    rw [h4, Bool.true_and] at hall
    repeat ((conv => whnf); refine ⟨by first | (unfold inI64; omega) | omega | exact ⟨by omega, by omega⟩ | exact rfl | decide +kernel, ?_⟩)
    conv => whnf
    refine head_intro (j + 1) ?_ rfl ⟨by omega, hall⟩ ?_
    · have e : (1 + (j : Int) + 1) = 1 + ((j + 1 : Nat) : Int) := by omega
      rw [e]
      repeat (first | exact LeL.nil | refine LeL.drop ?_ | refine LeL.same ?_)
    · omega
  · have hge : ps.length ≤ j + 1 := by
      have : ¬ 1 + (j : Int) < (ps.length : Nat) := of_decide_eq_false h2
      omega
    rw [asc_end hge] at hall
    rw [hall]
    repeat ((conv => whnf); refine ⟨by first | (unfold inI64; omega) | omega | exact ⟨by omega, by omega⟩ | exact rfl | decide +kernel, ?_⟩)
    conv => whnf
    exact ends_eq ⟨rfl, rfl⟩

/-- Each node but the first has an earlier one as its parent. -/
def paI (ns : List Nd) (j : Nat) : Int := (ndAt ns j).1
def ParOk (ns : List Nd) : Prop := ∀ i, 0 < i → i < ns.length → 0 ≤ paI ns i ∧ paI ns i < (i : Int)
def paN (ns : List Nd) (j : Nat) : Nat := (paI ns j).toNat
theorem par_lt {ns : List Nd} (h : ParOk ns) {j : Nat} (h0 : 0 < j) (hj : j < ns.length) : paN ns j < j ∧ ((paN ns j : Nat) : Int) = (ndAt ns j).1 := by
  have := h j h0 hj
  unfold paN
  refine ⟨by omega, ?_⟩
  show (((paI ns j).toNat : Nat) : Int) = paI ns j
  omega
theorem nd_at {ns : List Nd} (i : Nat) : ns.getD ((i : Int)).toNat ndC.dflt = ndAt ns i := rfl

/-- Whether something can follow the node at a place: 'n' is that. -/
def flwGo (ns : List Nd) (n : Nd) : Nat → Nat → Bool
  | 0, _ => false
  | k + 1, j => if j = 0 then false else if (ndAt ns j).1 = n.1 then bLe (ndAt ns j).2.1 n.2.1 else flwGo ns n k (paN ns j)
def flwV (ns : List Nd) (i : Nat) : Bool := if (ndAt ns i).1 = (i : Int) - 1 then true else flwGo ns (ndAt ns i) i (i - 1)

def A8 : Table := ext A7 53 (saysG daNI eaNI fun a => (some (a.1.length ≤ 1000000000 ∧ ParOk a.1 ∧ 0 < a.2 ∧ a.2 < (a.1.length : Nat)), .bool (flwV a.1 a.2.toNat)))
theorem a8 : TSound Try.prog A8 := by
  refine extG a7 53 (fn := Try.f53) rfl rfl daNI eaNI _ (fun _ => Nat.le_of_ble_eq_true rfl) [0, 1, 4, 5, 6, 15, 19, 32] fun a hok => ?_
  obtain ⟨ns, i⟩ := a
  obtain ⟨hlen, hpar, hi0, hi1⟩ : ns.length ≤ 1000000000 ∧ ParOk ns ∧ 0 < i ∧ i < (ns.length : Nat) := hok
  obtain ⟨i, rfl⟩ : ∃ k : Nat, i = k := ⟨i.toNat, by omega⟩
  have hin : 0 ≤ (i : Int) ∧ (i : Int) < (ns.length : Nat) := by omega
  dsimp only
  rw [Int.toNat_natCast]
  unfold flwV
  repeat ((conv => whnf); refine ⟨by first | exact hin | (unfold inI64; omega) | omega | exact ⟨by omega, by omega⟩ | exact rfl | decide +kernel, ?_⟩)
  conv => whnf
  rw [nd_at]
  refine cond_intro (fun h => ?_) (fun h => ?_)
  · have h1 : (ndAt ns i).1 = (i : Int) - 1 := of_decide_eq_true h
    rw [if_pos h1]
    repeat ((conv => whnf); refine ⟨by first | (unfold inI64; omega) | omega | exact ⟨by omega, by omega⟩ | exact rfl | decide +kernel, ?_⟩)
    conv => whnf
    exact ends_eq ⟨rfl, rfl⟩
  have h1 : ¬ (ndAt ns i).1 = (i : Int) - 1 := of_decide_eq_false h
  rw [if_neg h1]
  obtain ⟨nd, hnd⟩ : ∃ nd, nd = ndAt ns i := ⟨_, rfl⟩
  rw [← hnd]
  repeat ((conv => whnf); refine ⟨by first | (unfold inI64; omega) | omega | exact ⟨by omega, by omega⟩ | exact rfl | decide +kernel, ?_⟩)
  conv => whnf
  refine loop_intro (σ := Nat × Nat) (fun ⟨_, j⟩ => [(0, XV.s (.a (.c (.p (.l ndC ns))))), (1, XV.s .none), (4, XV.s .none), (5, XV.s (.a (.c (.ptr 0 0)))), (6, XV.s (.int .i64 (j : Nat))), (15, XV.s .none), (19, XV.s .none), (32, XV.s .none)])
    (fun _ => [.row [.int .i64 nd.1, .str nd.2.1, .p (.l ptC nd.2.2)]]) (fun ⟨k, j⟩ => j < k ∧ j < ns.length ∧ flwGo ns nd i (i - 1) = flwGo ns nd k j) (fun ⟨_, j⟩ => j) (i, i - 1) ?_ rfl ⟨by omega, by omega, rfl⟩ ?_
  · have e : ((i - 1 : Nat) : Int) = (i : Int) - 1 := by omega
    dsimp only
    rw [e]
    repeat (first | exact LeL.nil | refine LeL.drop ?_ | refine LeL.same ?_)
  rintro ⟨k, j⟩ ⟨hjk, hjl, hgo⟩
  obtain ⟨k, rfl⟩ : ∃ m, k = m + 1 := ⟨k - 1, by omega⟩
  repeat ((conv => whnf); refine ⟨by first | (unfold inI64; omega) | omega | exact ⟨by omega, by omega⟩ | exact rfl | decide +kernel, ?_⟩)
  conv => whnf
  refine cond_intro (fun h2 => ?_) (fun h2 => ?_)
  · have hj0 : 0 < j := by
      have : (0 : Int) < (j : Nat) := of_decide_eq_true h2
      omega
    have hjn : 0 ≤ (j : Int) ∧ (j : Int) < (ns.length : Nat) := by omega
    have e : flwGo ns nd (k + 1) j = if (ndAt ns j).1 = nd.1 then bLe (ndAt ns j).2.1 nd.2.1 else flwGo ns nd k (paN ns j) := by
      show (if j = 0 then false else _) = _
      rw [if_neg (by omega)]
    rw [e] at hgo
    repeat ((conv => whnf); refine ⟨by first | exact hjn | (unfold inI64; omega) | omega | exact ⟨by omega, by omega⟩ | exact rfl | decide +kernel, ?_⟩)
    conv => whnf
    rw [nd_at]
    refine cond_intro (fun h3 => ?_) (fun h3 => ?_)
    · have h4 : (ndAt ns j).1 = nd.1 := of_decide_eq_true h3
      rw [if_pos h4] at hgo
      repeat ((conv => whnf); refine ⟨by first | exact hjn | (unfold inI64; omega) | omega | exact ⟨by omega, by omega⟩ | exact rfl | decide +kernel, ?_⟩)
      conv => whnf
      refine ends_eq ⟨?_, rfl⟩
      rw [hgo]
      rfl
    have h4 : ¬ (ndAt ns j).1 = nd.1 := of_decide_eq_false h3
    rw [if_neg h4] at hgo
    repeat ((conv => whnf); refine ⟨by first | exact hjn | (unfold inI64; omega) | omega | exact ⟨by omega, by omega⟩ | exact rfl | decide +kernel, ?_⟩)
    conv => whnf
    obtain ⟨hp1, hp2⟩ := par_lt hpar hj0 hjl
    refine head_intro (k, paN ns j) ?_ rfl ⟨by omega, by omega, hgo⟩ hp1
    dsimp only
    rw [hp2]
    repeat (first | exact LeL.nil | refine LeL.drop ?_ | refine LeL.same ?_)
  · have hj0 : j = 0 := by
      have : ¬ (0 : Int) < (j : Nat) := of_decide_eq_false h2
      omega
    subst hj0
    repeat ((conv => whnf); refine ⟨by first | (unfold inI64; omega) | omega | exact ⟨by omega, by omega⟩ | exact rfl | decide +kernel, ?_⟩)
    conv => whnf
    refine ends_eq ⟨?_, rfl⟩
    rw [hgo]
    rfl

def ordAt (ns : List Nd) (i : Nat) : Bool := !((decide (0 < (i : Int)) && !flwV ns i) || !ascV (ndAt ns i).2.2)
def ordGo (ns : List Nd) : Nat → Nat → Bool
  | 0, _ => true
  | m + 1, i => ordAt ns i && ordGo ns m (i + 1)
def ordV (ns : List Nd) : Bool := ordGo ns ns.length 0

def A9 : Table := ext A8 26 (saysG daN eaN fun ns => (some (LenN ns ∧ ParOk ns), .bool (ordV ns)))
theorem a9 : TSound Try.prog A9 := by
  refine extG a8 26 (fn := Try.f26) rfl rfl daN eaN _ (fun _ => Nat.le_of_ble_eq_true rfl) [0, 2, 3, 4, 5, 6, 7, 8, 25] fun ns hok => ?_
  obtain ⟨hl, hpar⟩ : LenN ns ∧ ParOk ns := hok
  have hlen := hl.len
  dsimp only
  unfold ordV
  repeat ((conv => whnf); refine ⟨by first | (unfold inI64; omega) | omega | exact ⟨by omega, by omega⟩ | exact rfl | decide +kernel, ?_⟩)
  conv => whnf
  refine loop_intro (σ := Nat × Nat) (fun ⟨_, i⟩ => [(0, XV.s (.a (.c (.p (.l ndC ns))))), (2, XV.s .none), (3, XV.s .none), (4, XV.s .none), (5, XV.s (.a (.c (.p (.l ndC ns))))), (6, XV.s (.int .i64 (ns.length : Nat))), (7, XV.s (.int .i64 (i : Nat))), (8, XV.s .none), (25, XV.s .none)])
    (fun _ => []) (fun ⟨m, i⟩ => i + m = ns.length ∧ ordGo ns ns.length 0 = ordGo ns m i) (fun ⟨m, _⟩ => m) (ns.length, 0) ?_ rfl ⟨Nat.zero_add _, rfl⟩ ?_
  · repeat (first | exact LeL.nil | refine LeL.drop ?_ | refine LeL.same ?_)
  rintro ⟨m, i⟩ ⟨him, hgo⟩
  repeat ((conv => whnf); refine ⟨by first | (unfold inI64; omega) | omega | exact ⟨by omega, by omega⟩ | exact rfl | decide +kernel, ?_⟩)
  conv => whnf
  refine cond_intro (fun h2 => ?_) (fun h2 => ?_)
  · have hlt := lt_of_dec h2
    obtain ⟨m, rfl⟩ : ∃ q, m = q + 1 := ⟨m - 1, by omega⟩
    have hin : 0 ≤ (i : Int) ∧ (i : Int) < (ns.length : Nat) := by omega
    have hpl : (ndAt ns i).2.2.length ≤ 1000000000 := by
      have := hl.at hlt
      rw [← nd_get hlt] at this
      exact this
    have e : ordGo ns (m + 1) i = (ordAt ns i && ordGo ns m (i + 1)) := rfl
    rw [e] at hgo
    have hf : lit true (decide (0 < (i : Int))) = true → ([AV.c (.p (.l ndC ns)), AV.c (.int .i64 (i : Nat))] = eaNI (ns, (i : Int)) ∧ holdsO (some (ns.length ≤ 1000000000 ∧ ParOk ns ∧ 0 < (i : Int) ∧ (i : Int) < (ns.length : Nat)))) := fun h => by
      refine ⟨rfl, hlen, hpar, ?_, hin.2⟩
      simpa [lit] using h
    repeat ((conv => whnf); refine ⟨by first | exact hin | exact hf | exact fun _ => ⟨rfl, hpl⟩ | (unfold inI64; omega) | omega | exact ⟨by omega, by omega⟩ | exact rfl | decide +kernel, ?_⟩)
    conv => whnf
    refine cond_intro (fun h3 => ?_) (fun h3 => ?_)
    · have h4 : ordAt ns i = false := by
        have h5 : ((decide (0 < (i : Int)) && !flwV ns i) || !ascV (ndAt ns i).2.2) = true := h3
        unfold ordAt
        rw [h5]
        rfl
      rw [h4] at hgo
      repeat ((conv => whnf); refine ⟨by first | (unfold inI64; omega) | omega | exact ⟨by omega, by omega⟩ | exact rfl | decide +kernel, ?_⟩)
      conv => whnf
      refine ends_eq ⟨?_, rfl⟩
      rw [hgo]
      rfl
    have h4 : ordAt ns i = true := by
      have h5 : ((decide (0 < (i : Int)) && !flwV ns i) || !ascV (ndAt ns i).2.2) = false := h3
      unfold ordAt
      rw [h5]
      rfl
    rw [h4, Bool.true_and] at hgo
    repeat ((conv => whnf); refine ⟨by first | (unfold inI64; omega) | omega | exact ⟨by omega, by omega⟩ | exact rfl | decide +kernel, ?_⟩)
    conv => whnf
    refine head_keep (m, i + 1) [] rfl (fun k hk => absurd hk (Nat.not_lt_zero k)) rfl ?_ ⟨by omega, hgo⟩ (Nat.lt_succ_self m)
    repeat (first | exact KeepL.nil | refine KeepL.drop ?_ | refine KeepL.ren rfl ?_)
  · have hge := ge_of_dec h2
    obtain rfl : m = 0 := by omega
    repeat ((conv => whnf); refine ⟨by first | (unfold inI64; omega) | omega | exact ⟨by omega, by omega⟩ | exact rfl | decide +kernel, ?_⟩)
    conv => whnf
    refine ends_eq ⟨?_, rfl⟩
    rw [hgo]
    rfl

abbrev kyC : CT := .pair (.int .i64) .str
abbrev twE : Type := List (kyC.den × CT.bool.den)
def twGo : twE → List Nd → Bool
  | _, [] => false
  | es, n :: r => if (findE (k := kyC) (v := .bool) es (n.1, n.2.1)).getD false = true then true else twGo (setE (k := kyC) (v := .bool) (n.1, n.2.1) true es) r
def twV (ns : List Nd) : Bool := twGo [] ns
theorem tw_drop {ns : List Nd} {es : twE} {i : Nat} (h : i < ns.length) : twGo es (ns.drop i) = if (findE (k := kyC) (v := .bool) es ((ns[i]).1, (ns[i]).2.1)).getD false = true then true else twGo (setE (k := kyC) (v := .bool) ((ns[i]).1, (ns[i]).2.1) true es) (ns.drop (i + 1)) := by
  rw [List.drop_eq_getElem_cons h]
  rfl

def A10 : Table := ext A9 27 (saysG daN eaN fun ns => (some (ns.length ≤ 1000000000), .bool (twV ns)))
theorem a10 : TSound Try.prog A10 := by
  refine extG a9 27 (fn := Try.f27) rfl rfl daN eaN _ (fun _ => Nat.le_of_ble_eq_true rfl) [0, 2, 3, 5, 6, 8, 9, 10, 11, 21] fun ns hok => ?_
  have hlen : ns.length ≤ 1000000000 := hok
  dsimp only
  unfold twV
  repeat ((conv => whnf); refine ⟨by first | (unfold inI64; omega) | omega | exact ⟨by omega, by omega⟩ | exact rfl | decide +kernel, ?_⟩)
  conv => whnf
  refine loop_intro (σ := Nat × twE) (fun ⟨i, _⟩ => [(0, XV.s .none), (2, XV.s .none), (3, XV.s (.a (.c (.mp 0)))), (5, XV.s .none), (6, XV.s .none), (8, XV.s (.a (.c (.p (.l ndC ns))))), (9, XV.s (.int .i64 (ns.length : Nat))), (10, XV.s (.int .i64 (i : Nat))), (11, XV.s .none), (21, XV.s .none)])
    (fun ⟨_, es⟩ => [.map kyC .bool es]) (fun ⟨i, es⟩ => i ≤ ns.length ∧ twGo [] ns = twGo es (ns.drop i)) (fun ⟨i, _⟩ => ns.length - i) (0, []) ?_ rfl ⟨Nat.zero_le _, rfl⟩ ?_
  · repeat (first | exact LeL.nil | refine LeL.drop ?_ | refine LeL.same ?_)
  rintro ⟨i, es⟩ ⟨hi, hall⟩
  repeat ((conv => whnf); refine ⟨by first | (unfold inI64; omega) | omega | exact ⟨by omega, by omega⟩ | exact rfl | decide +kernel, ?_⟩)
  conv => whnf
  refine cond_intro (fun h2 => ?_) (fun h2 => ?_)
  · have hlt := lt_of_dec h2
    have hin : 0 ≤ (i : Int) ∧ (i : Int) < (ns.length : Nat) := by omega
    rw [tw_drop hlt] at hall
    have hg := nd_get hlt
    repeat ((conv => whnf); refine ⟨by first | exact hin | (unfold inI64; omega) | omega | exact ⟨by omega, by omega⟩ | exact rfl | decide +kernel, ?_⟩)
    conv => whnf
    generalize hnd : ns.getD ((i : Int)).toNat ndC.dflt = nd at hg ⊢
    rw [← hg] at hall
    refine cond_intro (fun h3 => ?_) (fun h3 => ?_)
    · have h4 : (findE (k := kyC) (v := .bool) es (nd.1, nd.2.1)).getD false = true := h3
      rw [if_pos h4] at hall
      rw [hall]
      repeat ((conv => whnf); refine ⟨by first | (unfold inI64; omega) | omega | exact ⟨by omega, by omega⟩ | exact rfl | decide +kernel, ?_⟩)
      conv => whnf
      exact ends_eq ⟨rfl, rfl⟩
    have h4 : ¬ (findE (k := kyC) (v := .bool) es (nd.1, nd.2.1)).getD false = true := by
      have h5 : (findE (k := kyC) (v := .bool) es (nd.1, nd.2.1)).getD false = false := h3
      rw [h5]; simp
    rw [if_neg h4] at hall
    repeat ((conv => whnf); refine ⟨by first | (unfold inI64; omega) | omega | exact ⟨by omega, by omega⟩ | exact rfl | decide +kernel, ?_⟩)
    conv => whnf
    refine head_keep (i + 1, setE (k := kyC) (v := .bool) (nd.1, nd.2.1) true es) [0] rfl id0 rfl ?_ ⟨hlt, hall⟩ ?_
    · repeat (first | exact KeepL.nil | refine KeepL.drop ?_ | refine KeepL.ren rfl ?_)
    · show ns.length - (i + 1) < ns.length - i
      omega
  · have : i = ns.length := by have := ge_of_dec h2; omega
    subst this
    rw [List.drop_length] at hall
    rw [hall]
    repeat ((conv => whnf); refine ⟨by first | (unfold inI64; omega) | omega | exact ⟨by omega, by omega⟩ | exact rfl | decide +kernel, ?_⟩)
    conv => whnf
    exact ends_eq ⟨rfl, rfl⟩

/-! Depth. -/
def dpGo (ns : List Nd) : Nat → Nat → Nat
  | 0, _ => 0
  | k + 1, j => if j = 0 then 0 else dpGo ns k (paN ns j) + 1
def dpV (ns : List Nd) (j : Nat) : Nat := dpGo ns (j + 1) j
theorem dp_le (ns : List Nd) : ∀ k j, dpGo ns k j ≤ k := by
  intro k
  induction k with
  | zero => intro j; exact Nat.le_refl _
  | succ k ih =>
    intro j
    unfold dpGo
    split
    · exact Nat.zero_le _
    · have := ih (paN ns j)
      omega

def A11 : Table := ext A10 57 (saysG daNI eaNI fun a => (some (a.1.length ≤ 1000000000 ∧ ParOk a.1 ∧ 0 ≤ a.2 ∧ a.2 < (a.1.length : Nat)), .int .i64 (dpV a.1 a.2.toNat : Nat)))
theorem a11 : TSound Try.prog A11 := by
  refine extG a10 57 (fn := Try.f57) rfl rfl daNI eaNI _ (fun _ => Nat.le_of_ble_eq_true rfl) [0, 1, 4, 5, 7] fun a hok => ?_
  obtain ⟨ns, i⟩ := a
  obtain ⟨hlen, hpar, hi0, hi1⟩ : ns.length ≤ 1000000000 ∧ ParOk ns ∧ 0 ≤ i ∧ i < (ns.length : Nat) := hok
  obtain ⟨i, rfl⟩ : ∃ k : Nat, i = k := ⟨i.toNat, by omega⟩
  dsimp only
  rw [Int.toNat_natCast]
  unfold dpV
  have hb := dp_le ns (i + 1) i
  repeat ((conv => whnf); refine ⟨by first | (unfold inI64; omega) | omega | exact ⟨by omega, by omega⟩ | exact rfl | decide +kernel, ?_⟩)
  conv => whnf
  refine loop_intro (σ := Nat × Nat × Nat) (fun ⟨_, j, d⟩ => [(0, XV.s (.a (.c (.p (.l ndC ns))))), (1, XV.s (.int .i64 (j : Nat))), (4, XV.s .none), (5, XV.s (.int .i64 (d : Nat))), (7, XV.s .none)])
    (fun _ => []) (fun ⟨k, j, d⟩ => j < k ∧ j < ns.length ∧ d ≤ 1000000001 ∧ d + dpGo ns k j = dpGo ns (i + 1) i) (fun ⟨_, j, _⟩ => j) (i + 1, i, 0) ?_ rfl ⟨by omega, by omega, by omega, Nat.zero_add _⟩ ?_
  · repeat (first | exact LeL.nil | refine LeL.drop ?_ | refine LeL.same ?_)
  rintro ⟨k, j, d⟩ ⟨hjk, hjl, hd, hgo⟩
  obtain ⟨k, rfl⟩ : ∃ m, k = m + 1 := ⟨k - 1, by omega⟩
  repeat ((conv => whnf); refine ⟨by first | (unfold inI64; omega) | omega | exact ⟨by omega, by omega⟩ | exact rfl | decide +kernel, ?_⟩)
  conv => whnf
  refine cond_intro (fun h2 => ?_) (fun h2 => ?_)
  · have hj0 : 0 < j := by
      have : (0 : Int) < (j : Nat) := of_decide_eq_true h2
      omega
    have hjn : 0 ≤ (j : Int) ∧ (j : Int) < (ns.length : Nat) := by omega
    have e : dpGo ns (k + 1) j = dpGo ns k (paN ns j) + 1 := by
      show (if j = 0 then 0 else _) = _
      rw [if_neg (by omega)]
    rw [e] at hgo
    repeat ((conv => whnf); refine ⟨by first | exact hjn | (unfold inI64; omega) | omega | exact ⟨by omega, by omega⟩ | exact rfl | decide +kernel, ?_⟩)
    conv => whnf
    obtain ⟨hp1, hp2⟩ := par_lt hpar hj0 hjl
    refine head_intro (k, paN ns j, d + 1) ?_ rfl ⟨by omega, by omega, by omega, by omega⟩ hp1
    dsimp only
    rw [hp2]
    repeat (first | exact LeL.nil | refine LeL.drop ?_ | refine LeL.same ?_)
  · have hj0 : j = 0 := by
      have : ¬ (0 : Int) < (j : Nat) := of_decide_eq_false h2
      omega
    subst hj0
    have e : dpGo ns (k + 1) 0 = 0 := rfl
    rw [e] at hgo
    repeat ((conv => whnf); refine ⟨by first | (unfold inI64; omega) | omega | exact ⟨by omega, by omega⟩ | exact rfl | decide +kernel, ?_⟩)
    conv => whnf
    refine ends_eq ⟨?_, rfl⟩
    rw [← hgo]
    rfl

/-! The first node of which something holds. -/
def skGo (p : Nat → Bool) : Nat → Nat → Nat
  | 0, i => i
  | m + 1, i => if p i = true then i else skGo p m (i + 1)
def skV (p : Nat → Bool) (n : Nat) : Nat := skGo p n 0
theorem skGo_le (p : Nat → Bool) : ∀ m i, i ≤ skGo p m i ∧ skGo p m i ≤ i + m := by
  intro m
  induction m with
  | zero => intro i; exact ⟨Nat.le_refl _, Nat.le_refl _⟩
  | succ m ih =>
    intro i
    unfold skGo
    split
    · exact ⟨Nat.le_refl _, by omega⟩
    · have := ih (i + 1)
      omega
theorem skV_le (p : Nat → Bool) (n : Nat) : skV p n ≤ n := by
  have := (skGo_le p n 0).2
  unfold skV
  omega

/-- A closure over objects H that tells of each node whether p holds. -/
def saysCl1 (pre : List Nd → List AO → Prop) (p : List AO → Nat → Bool) (caps : List AV) (hp : List AO → Option (List Nd)) : Says := fun args H => match args with
  | .c (.p (.v (.int .i64 i))) :: _ => match hp H with
    | some ns => some (some (args = .c (.int .i64 i) :: caps ∧ pre ns H ∧ 0 ≤ i ∧ i < (ns.length : Nat)), .bool (p H i.toNat), H)
    | none => none
  | _ => none

def daR1 : List AO → Option (List Nd)
  | [.row [.p (.l c0 ns)]] => castD (e := ndC) (e' := c0) ns
  | _ => none
def deepB (ns : List Nd) (i : Nat) : Bool := decide ((8 : Int) < (dpV ns i : Nat))
def saysDeep1 : Says := fun args H => match args, daR1 H with
  | [.c (.p (.v (.int .i64 i))), .c (.ptr 0 0)], some ns => some (some (H = [.row [.p (.l ndC ns)]] ∧ ns.length ≤ 1000000000 ∧ ParOk ns ∧ 0 ≤ i ∧ i < (ns.length : Nat)), .bool (deepB ns i.toNat), [.row [.p (.l ndC ns)]])
  | _, _ => none
def A12 : Table := ext A11 56 saysDeep1
theorem a12 : TSound Try.prog A12 := by
  refine ext_run a11 (f := 56) (fn := Try.f56) rfl rfl [0, 1, 3] fun args H p r' H' hs hp => ?_
  unfold saysDeep1 at hs
  split at hs
  · rename_i i ns _
    cases hs
    obtain ⟨rfl, h1, h2, h3, h4⟩ := hp
    refine ⟨Nat.le_of_ble_eq_true rfl, [0], rfl, id0, ?_⟩
    repeat ((conv => whnf); refine ⟨by first | exact ⟨rfl, h1, h2, h3, h4⟩ | (unfold inI64; omega) | omega | exact ⟨by omega, by omega⟩ | exact rfl | decide +kernel, ?_⟩)
    conv => whnf
    exact ends_eq ⟨rfl, rfl⟩
  · cases hs

def saysSkD : Says := fun args H => match args, daR1 H with
  | [.c (.p (.l c0 ns)), .c (.clo _ _ _)], some _ => match castD (e := ndC) (e' := c0) ns with
    | some ns => some (some (args = [.c (.p (.l ndC ns)), .c (.clo false 56 [0])] ∧ H = [.row [.p (.l ndC ns)]] ∧ ns.length ≤ 1000000000 ∧ ParOk ns), .int .i64 (skV (deepB ns) ns.length : Nat), [.row [.p (.l ndC ns)]])
    | none => none
  | _, _ => none
def A13 : Table := ext A12 55 saysSkD
theorem a13 : TSound Try.prog A13 := by
  refine ext_run a12 (f := 55) (fn := Try.f55) rfl rfl [0, 1, 4, 5, 7, 8, 9, 13] fun args H p r' H' hs hp => ?_
  unfold saysSkD at hs
  split at hs
  · split at hs
    · rename_i ns0 _ _ _ _ _ _ _ ns _
      cases hs
      obtain ⟨ha, hH, h1, h2⟩ := hp
      rw [ha, hH]
      refine ⟨Nat.le_of_ble_eq_true rfl, [0], rfl, id0, ?_⟩
      repeat ((conv => whnf); refine ⟨by first | (unfold inI64; omega) | omega | exact ⟨by omega, by omega⟩ | exact rfl | decide +kernel, ?_⟩)
      conv => whnf
      refine loop_intro (σ := Nat × Nat) (fun ⟨_, i⟩ => [(0, XV.s (.a (.c (.p (.l ndC ns))))), (1, XV.s (.a (.c (.clo false 56 [0])))), (4, XV.s .none), (5, XV.s .none), (7, XV.s (.int .i64 (ns.length : Nat))), (8, XV.s (.int .i64 (i : Nat))), (9, XV.s .none), (13, XV.s .none)])
        (fun _ => [.row [.p (.l ndC ns)]]) (fun ⟨m, i⟩ => i + m = ns.length ∧ skV (deepB ns) ns.length = skGo (deepB ns) m i) (fun ⟨m, _⟩ => m) (ns.length, 0) ?_ rfl ⟨Nat.zero_add _, rfl⟩ ?_
      · repeat (first | exact LeL.nil | refine LeL.drop ?_ | refine LeL.same ?_)
      rintro ⟨m, i⟩ ⟨him, hgo⟩
      repeat ((conv => whnf); refine ⟨by first | (unfold inI64; omega) | omega | exact ⟨by omega, by omega⟩ | exact rfl | decide +kernel, ?_⟩)
      conv => whnf
      refine cond_intro (fun h3 => ?_) (fun h3 => ?_)
      · have hlt := lt_of_dec h3
        obtain ⟨m, rfl⟩ : ∃ q, m = q + 1 := ⟨m - 1, by omega⟩
        have hin : 0 ≤ (i : Int) ∧ (i : Int) < (ns.length : Nat) := by omega
        have e : skGo (deepB ns) (m + 1) i = if deepB ns i = true then i else skGo (deepB ns) m (i + 1) := rfl
        rw [e] at hgo
        repeat ((conv => whnf); refine ⟨by first | exact ⟨rfl, h1, h2, hin.1, hin.2⟩ | (unfold inI64; omega) | omega | exact ⟨by omega, by omega⟩ | exact rfl | decide +kernel, ?_⟩)
        conv => whnf
        refine cond_intro (fun h4 => ?_) (fun h4 => ?_)
        · have h5 : deepB ns i = true := h4
          rw [if_pos h5] at hgo
          repeat ((conv => whnf); refine ⟨by first | (unfold inI64; omega) | omega | exact ⟨by omega, by omega⟩ | exact rfl | decide +kernel, ?_⟩)
          conv => whnf
          rw [hgo]
          exact ends_eq ⟨rfl, rfl⟩
        have h5 : ¬ deepB ns i = true := by
          have h6 : deepB ns i = false := h4
          rw [h6]; simp
        rw [if_neg h5] at hgo
        repeat ((conv => whnf); refine ⟨by first | (unfold inI64; omega) | omega | exact ⟨by omega, by omega⟩ | exact rfl | decide +kernel, ?_⟩)
        conv => whnf
        refine head_intro (m, i + 1) ?_ rfl ⟨by omega, hgo⟩ (Nat.lt_succ_self m)
        repeat (first | exact LeL.nil | refine LeL.drop ?_ | refine LeL.same ?_)
      · have hge := ge_of_dec h3
        obtain rfl : m = 0 := by omega
        obtain rfl : i = ns.length := by omega
        repeat ((conv => whnf); refine ⟨by first | (unfold inI64; omega) | omega | exact ⟨by omega, by omega⟩ | exact rfl | decide +kernel, ?_⟩)
        conv => whnf
        rw [hgo]
        exact ends_eq ⟨rfl, rfl⟩
    · cases hs
  · cases hs

def deepV (ns : List Nd) : Bool := decide (((skV (deepB ns) ns.length : Nat) : Int) < (ns.length : Nat))
def A14 : Table := ext A13 28 (saysG daN eaN fun ns => (some (ns.length ≤ 1000000000 ∧ ParOk ns), .bool (deepV ns)))
theorem a14 : TSound Try.prog A14 := by
  refine extG a13 28 (fn := Try.f28) rfl rfl daN eaN _ (fun _ => Nat.le_of_ble_eq_true rfl) [0, 1, 2] fun ns hok => ?_
  obtain ⟨h1, h2⟩ : ns.length ≤ 1000000000 ∧ ParOk ns := hok
  repeat ((conv => whnf); refine ⟨by first | exact ⟨rfl, rfl, h1, h2⟩ | ((conv => whnf); exact ⟨⟨rfl, rfl, rfl⟩, trivial⟩) | exact Early.one (by decide +kernel) (by (conv => whnf); exact ⟨rfl, rfl, rfl⟩) trivial | (unfold inI64; omega) | omega | exact ⟨by omega, by omega⟩ | exact rfl | decide +kernel, ?_⟩)
  conv => whnf
  exact ends_eq ⟨rfl, rfl⟩
end Go.Ab
