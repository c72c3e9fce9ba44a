/- The abstract machine's operations on maps and on elements that may be written are the model's. -/
import Derived.Test.YtnlifjljmbfomaaGreatTG2
namespace Go.Ab
set_option linter.unusedSectionVars false
variable [Base]
theorem arrOf_some {H : List AO} {id : Nat} {e : CT} {zs : List e.den} {ver : Nat} (h : arrOf H id e = some (zs, ver)) : ∃ t, H[id]? = some (.arr t e zs ver) := by
 unfold arrOf at h
 split at h
 ·rename_i t e' zs' ver' ho
  split at h
  ·rename_i zs'' hz
   cases h
   unfold castD at hz
   split at hz
   ·rename_i he
    subst he
    cases hz
    exact ⟨t, ho⟩
   ·cases hz
  ·cases h
 ·cases h
theorem sl_live {G : View} {id : Nat} {e : CT} {ver len : Nat} {v : Value} {t : TypeId} {zs : List e.den} (h : RepC G (.sl id e ver len) v) (ho : G.H[id]? = some (.arr t e zs ver)) : len ≤ zs.length ∧ G.arrV id t e zs.length len v := by
 obtain ⟨_, h1 | ⟨t', zs', ver', h1, _, h2⟩⟩ := h
 ·rw [ho] at h1; cases h1
 ·rw [ho] at h1; cases h1; exact h2 rfl
theorem ep_live {G : View} {id : Nat} {e : CT} {ver i k : Nat} {v : Value} {t : TypeId} {zs : List e.den} (h : RepC G (.ep id e ver i k) v) (ho : G.H[id]? = some (.arr t e zs ver)) : i < zs.length ∧ v = .pointer (some ⟨G.ρ id, i * e.width + k, none⟩) := by
 obtain ⟨_, h1 | ⟨t', zs', ver', h1, _, h2⟩⟩ := h
 ·rw [ho] at h1; cases h1
 ·rw [ho] at h1; cases h1; exact h2 rfl
theorem vecOf_some {H : List AO} {id : Nat} {e : CT} (h : vecOf H id = some e) : ∃ t zs i k x, H[id]? = some (.vec t e zs i k x) := by
 unfold vecOf at h
 split at h
 ·rename_i t e' zs i k x ho
  cases h
  exact ⟨t, zs, i, k, x, ho⟩
 ·cases h
theorem vs_live {G : View} {id len : Nat} {v : Value} {t : TypeId} {e : CT} {zs : List e.den} {i k : Nat} {x : AC} (h : RepC G (.vs id len) v) (ho : G.H[id]? = some (.vec t e zs i k x)) : len ≤ zs.length ∧ ∃ cap, v = .slice (some ⟨G.ρ id, 0, none⟩) len cap ∧ zs.length ≤ cap := by
 obtain ⟨_, h1 | ⟨t', e', zs', i', k', x', h1, h2⟩⟩ := h
 ·rw [ho] at h1; cases h1
 ·rw [ho] at h1; cases h1; exact h2
theorem ve_live {G : View} {id j l : Nat} {v : Value} {t : TypeId} {e : CT} {zs : List e.den} {i k : Nat} {x : AC} (h : RepC G (.ve id j l) v) (ho : G.H[id]? = some (.vec t e zs i k x)) : j < zs.length ∧ v = .pointer (some ⟨G.ρ id, j * e.width + l, none⟩) := by
 obtain ⟨_, h1 | ⟨t', e', zs', i', k', x', h1, h2⟩⟩ := h
 ·rw [ho] at h1; cases h1
 ·rw [ho] at h1; cases h1; exact h2
theorem gvecOf_some {H : List AO} {id : Nat} {e : CT} {ver : Nat} (h : gvecOf H id = some (e, ver)) : ∃ t zs i k x, H[id]? = some (.gvec t e zs i k x ver) := by
 unfold gvecOf at h
 split at h
 ·rename_i t e' zs i k x ver' ho
  cases h
  exact ⟨t, zs, i, k, x, ho⟩
 ·cases h
theorem gs_live {G : View} {id ver len : Nat} {v : Value} {t : TypeId} {e : CT} {zs : List e.den} {i k : Nat} {x : AC} (h : RepC G (.gs id ver len) v) (ho : G.H[id]? = some (.gvec t e zs i k x ver)) : len = zs.length ∧ ∃ cap cur, v = .slice (some ⟨G.ρ id, 0, none⟩) len cap ∧ G.w.heap[G.ρ id]? = some (.cells cur t (0, 0)) ∧ len ≤ cap ∧ cap ≤ maxLen ∧ cur.size = cap * e.width := by
 obtain ⟨_, h1 | ⟨t', e', zs', i', k', x', ver', h1, _, h2⟩⟩ := h
 ·rw [ho] at h1; cases h1
 ·rw [ho] at h1; cases h1; exact h2 rfl
theorem ge_live {G : View} {id ver j l : Nat} {v : Value} {t : TypeId} {e : CT} {zs : List e.den} {i k : Nat} {x : AC} (h : RepC G (.ge id ver j l) v) (ho : G.H[id]? = some (.gvec t e zs i k x ver)) : j < zs.length ∧ v = .pointer (some ⟨G.ρ id, j * e.width + l, none⟩) := by
 obtain ⟨_, h1 | ⟨t', e', zs', i', k', x', ver', h1, _, h2⟩⟩ := h
 ·rw [ho] at h1; cases h1
 ·rw [ho] at h1; cases h1; exact h2 rfl
theorem avOf_rep {G : View} {t : CT} {z : t.den} {a : AV} {xs : List Value} (h : avOf (enc t z) = some a) (hr : Rep G.I G.w t z xs) : RepA G a (packV t xs) := by
 have hq := enc_rep t z xs hr
 have one : ∀ {x v}, enc t z = [x] → xs = [v] → t.isPair = false → avOf [x] = some a → RepV G.I G.w x v → RepA G a (packV t xs) := by
  intro x v _ hv hp ha hz
  cases ha
  subst hv
  cases t <;> simp [CT.isPair] at hp <;> exact hz
 have hl := hq.length
 have hw := Rep.length _ _ _ hr
 cases t with
 | pair p q =>
  have h2 : 2 ≤ (enc (.pair p q) z).length := by
   rw [hl, hw]
   have : ∀ t : CT, 1 ≤ t.width := by
    intro t
    induction t with
    | pair a b iha ihb => simp [CT.width]; omega
    | _ => simp [CT.width]
   have h1 := this p
   have h2 := this q
   simp [CT.width]; omega
  match he : enc (.pair p q) z, h2 with
  | a1 :: a2 :: r, _ =>
   rw [he] at h hq
   simp only [avOf] at h
   cases h
   exact ⟨xs, rfl, All2.map_left hq⟩
 | _ =>
  simp [enc] at h hq
  cases hq with
  | cons h1 t1 => cases t1; exact one rfl rfl rfl h h1
theorem packV_one {t : CT} (h : t.isPair = false) {xs : List Value} (hl : xs.length = 1) : ∃ v, xs = [v] ∧ packV t xs = v := by
 match xs, hl with
 | [v], _ => exact ⟨v, rfl, by cases t <;> simp [CT.isPair] at h <;> rfl⟩
theorem isPair_width {t : CT} (h : t.isPair = false) : t.width = 1 := by cases t <;> simp [CT.isPair] at h <;> rfl
theorem zeroD_sound {P : Program} {G : View} {et : TypeId} {v : CT} {d : v.den} (h : zeroD P et v = some d) (ha : zeroAgg P et = some v.isPair) :
  ∃ z xs, (∀ w, (zeroValue et).run P w = .ok z w) ∧ z = packV v xs ∧ Rep G.I G.w v d xs := by
 unfold zeroD at h
 split at h
 ·rename_i z hz
  split at h
  ·rename_i ps hps
   split at h
   ·rename_i d' hd
    cases h
    obtain ⟨i, v0, hi, hz0, hrep, _⟩ := zeroCells_cases hz
    have hp := pureCells_sound z ps _ hps (hrep G)
    obtain ⟨xs, ys, hx, hr, hy⟩ := dec_rep v ps d [] _ hp hd
    cases hy
    simp only [List.append_nil] at hx
    refine ⟨v0, xs, fun w => run_zeroValue' hi hz0 w, ?_, hr⟩
    have hag : zeroAgg P et = some (match v0 with | .agg _ => true | _ => false) := by
     simp only [zeroAgg, hi, hz0]
     cases v0 <;> rfl
    rw [hag] at ha
    have ha' := Option.some.inj ha
    have hl := Rep.length _ _ _ hr
    cases hp : v.isPair with
    | true =>
     rw [hp] at ha'
     cases v0 <;> simp at ha'
     rename_i cs
     cases v <;> simp [CT.isPair] at hp
     simp only [Value.cells] at hx
     show _ = Value.agg xs.toArray
     rw [← hx]
    | false =>
     rw [hp] at ha'
     rw [isPair_width hp] at hl
     obtain ⟨x, rfl, h2⟩ := packV_one hp hl
     rw [h2]
     cases v0 <;> simp [Value.cells] at ha' hx <;> exact hx
   ·cases h
  ·cases h
 ·cases h
theorem mapOf_sound {G : View} (hS : Sim G) {x : SV} {k v : CT} {es : List (k.den × v.den)} (h : mapOf G.H x = some ⟨k, v, es⟩) {vx : Value} (rx : RepS G x vx) :
  ∃ b ens clock, vx = .map (some b) ∧ G.w.heap[b]? = some (.map ens clock) ∧ Entries G.I G.w k v es ens := by
 unfold mapOf at h
 split at h
 ·rename_i k' v' es'
  simp only [Option.some.injEq, MapIs.mk.injEq] at h
  obtain ⟨rfl, rfl, he⟩ := h
  cases he
  obtain ⟨b, ens, clock, hv, _, hh, hl, hz⟩ := rx
  cases hv
  exact ⟨b, ens, clock, rfl, hh, hl, hz⟩
 ·rename_i id
  split at h
  ·rename_i k' v' es' ho
   simp only [Option.some.injEq, MapIs.mk.injEq] at h
   obtain ⟨rfl, rfl, he⟩ := h
   cases he
   obtain ⟨_, h1 | ⟨k2, t2, es2, h1, h2⟩⟩ := rx
   ·rw [ho] at h1; cases h1
   ·rw [ho] at h1
    cases h1
    obtain ⟨ens, clock, hh, _, he⟩ := hS.objs id _ ho trivial
    exact ⟨_, ens, clock, h2, hh, he⟩
  ·cases h
 ·cases h
theorem cells_pack {G : View} {x : AV} {vx : Value} (rx : RepA G x vx) {ps : List PV} (hp : pureCells x.cells = some ps) {k : CT} {z : k.den} (hd : dec k ps = some (z, [])) : ∃ us, Rep G.I G.w k z us ∧ vx.cells.toList = us := by
 have hv := pureCells_sound _ _ _ hp (AV.cells_rep' rx)
 obtain ⟨xs, ys, h1, h2, h3⟩ := dec_rep k ps z [] _ hv hd
 cases h3
 exact ⟨xs, h2, by simpa using h1⟩
theorem keyOf_rep {G : View} {k : CT} {x : SV} {key : k.den} (h : keyOfA k x = some key) {vx : Value} (rx : RepS G x vx) : ∃ us, Rep G.I G.w k key us ∧ vx = packV k us ∧ vx.cells.toList = us := by
 unfold keyOfA at h
 split at h
 ·rename_i a
  split at h
  ·rename_i ps h3 hps
   have h3 : a.isAgg = k.isPair := by simpa using h3
   split at h
   ·rename_i z hz
    cases h
    obtain ⟨us, h1, h2⟩ := cells_pack rx hps hz
    refine ⟨us, h1, ?_, h2⟩
    cases a with
    | agg l =>
     obtain ⟨cs, rfl, _⟩ := rx
     have hp : k.isPair = true := h3.symm
     simp only [Value.cells] at h2
     cases k <;> simp [CT.isPair] at hp
     show _ = Value.agg us.toArray
     rw [← h2]
    | c x =>
     have hp : k.isPair = false := h3.symm
     have ho := RepC.oneCell rx
     have hc : vx.cells = #[vx] := by cases vx <;> first | rfl | simp [Value.oneCell'] at ho
     rw [hc] at h2
     rw [← h2]
     cases k <;> simp [CT.isPair] at hp <;> rfl
   ·cases h
  ·cases h
 ·cases h
theorem keyOf_sound {G : View} {k : CT} (hk : k.keyable = true) {x : SV} {key : k.den} (h : keyOfA k x = some key) {vx : Value} (rx : RepS G x vx) : vx = keyV k key := by
 obtain ⟨us, h1, h2, _⟩ := keyOf_rep h rx
 rw [h2, rep_lit k _ us hk h1]
 rfl
theorem getMap {P : Program} {w : World} {r : Nat} {es : Array MapEntry} {clock : Nat} (hb : w.heap[r]? = some (.map es clock)) : (getObj r).run P w = .ok (.map es clock) w := by
 simp [getObj, Sem.run, hb]
def valOr (r : Option (Nat × Value)) (z : Value) : Value := match r with | some p => p.2 | none => z
theorem run_lookup_at {P : Program} {w : World} {t kt et : TypeId} (ht : P.underlying t = some (.map kt et)) {b : Nat} {ens : Array MapEntry} {clock : Nat} (hb : w.heap[b]? = some (.map ens clock)) {key : Value} (hc : ∀ e, (Instr.checkKey e 10000 kt key).run P w = .ok () w)
  {r : Option (Nat × Value)} (hf : (Instr.findKey kt key ens.toList).run P w = .ok r w) {z : Value} (hz : r = none → (zeroValue et).run P w = .ok z w) (ok : Bool) :
  (Instr.lookup t (.map (some b)) key ok).run P w = .ok (if ok then .tuple #[valOr r z, .bool r.isSome] else valOr r z) w := by
 cases r with
 | none => simp [valOr, Instr.lookup, rU9 ht, getMap hb, hc, hf, hz rfl]
 | some p => simp [valOr, Instr.lookup, rU9 ht, getMap hb, hc, hf]
theorem lookupA_sound {P : Program} {G : View} (hS : Sim G) {t : TypeId} {x k : SV} {ok : Bool} {p : Option Prop} {r : SV} (h : lookupA P G.H t x k ok = some (p, r)) (hp0 : holdsO p) {vx vk : Value} (rx : RepS G x vx) (rk : RepS G k vk) :
  ∃ u, (Instr.lookup t vx vk ok).run P G.w = .ok u G.w ∧ RepS G r u := by
 unfold lookupA at h
 split at h
 rotate_left
 ·cases h
 rename_i kt0 et0 ht0
 split at h
 rotate_left
 ·cases h
 rename_i r0 h0
 cases h
 have h := h0
 unfold lookup0 at h
 split at h
 ·rename_i kt et kc vc es ht hm
  rw [ht0] at ht
  cases ht
  have ht := ht0
  obtain ⟨b, ens, clock, rfl, hb, he⟩ := mapOf_sound hS hm rx
  split at h
  ·rename_i key hck hkey
   simp only [Bool.and_eq_true, decide_eq_true_eq] at hck
   obtain ⟨hkf, hza⟩ := hck
   have hkt := key_of hkf hp0
   have hkb := keyT_keyable hkt
   obtain rfl := keyOf_sound hkb hkey rk
   obtain ⟨rr, hf, hfound⟩ := find_key G.w hkt key es ens.toList (he.keys hkb)
   have found : ∀ {i : Nat} {en : MapEntry} {kv : kc.den × vc.den}, ens.toList[i]? = some en → es[i]? = some kv → ∃ xs, Rep G.I G.w vc kv.2 xs ∧ en.val = packV vc xs := by
    intro i en kv h1 h2
    obtain ⟨en', us, xs, h3, _, h4, _, h5⟩ := he.2 i kv h2
    have : en = en' := by rw [← Array.getElem?_toList] at h3; rw [h1] at h3; exact Option.some.inj h3
    subst this
    exact ⟨xs, h4, h5⟩
   split at h
   ·rename_i d hd
    obtain ⟨z, zs, hz, hz1, hz2⟩ := zeroD_sound (G := G) hd hza
    split at h
    ·rename_i a ha
     have hrun := fun ok => run_lookup_at (P := P) ht hb (fun e => key_check G.w e hkt key) hf (z := z) (fun _ => hz _) ok
     have hval : RepA G a (valOr rr z) ∧ rr.isSome = (findE es key).isSome := by
      rcases hfound with ⟨rfl, h2, _⟩ | ⟨i, en, kv, rfl, h2, h3, _, h5, _⟩
      ·rw [h2] at ha ⊢
       exact ⟨by simp only [valOr, hz1]; exact avOf_rep ha hz2, rfl⟩
      ·rw [h5] at ha ⊢
       obtain ⟨xs, h6, h7⟩ := found h2 h3
       exact ⟨by simp only [valOr, h7]; exact avOf_rep ha h6, rfl⟩
     split at h
     ·cases h
      refine ⟨_, hrun true, _, rfl, .cons hval.1 (.cons ?_ .nil)⟩
      rw [hval.2]
      exact ⟨rfl, rfl⟩
     ·cases h
      exact ⟨_, hrun false, hval.1⟩
    ·cases h
   ·split at h
    ·rename_i hp
     split at h
     ·rename_i c hz
      cases h
      obtain ⟨i, v0, hi, hz0, hrep, hflat⟩ := zeroCells_cases hz
      have hag : zeroAgg P et0 = some (match v0 with | .agg _ => true | _ => false) := by
       simp only [zeroAgg, hi, hz0]
       cases v0 <;> rfl
      rw [hag, hp] at hza
      have hrun := run_lookup_at (P := P) ht hb (fun e => key_check G.w e hkt key) hf (z := v0) (fun _ => run_zeroValue' hi hz0 _) true
      refine ⟨_, hrun, _, rfl, .cons ?_ (.cons ?_ .nil)⟩
      ·show Value.oneCell' _ = true
       rcases hfound with ⟨rfl, h2, _⟩ | ⟨i, en, kv, rfl, h2, h3, _, h5, _⟩
       ·have : v0.cells = #[v0] := by cases v0 <;> first | rfl | simp at hza
        exact flat_oneCell (hflat v0 (by rw [this]; simp))
       ·obtain ⟨xs, h6, h7⟩ := found h2 h3
        have hl := Rep.length _ _ _ h6
        rw [isPair_width hp] at hl
        obtain ⟨y, rfl, h8⟩ := packV_one hp hl
        simp only [valOr, h7, h8]
        exact oneCell_rep _ _ _ h6 y (by simp)
      ·have : rr.isSome = (findE es key).isSome := by
        rcases hfound with ⟨rfl, h2, _⟩ | ⟨i, en, kv, rfl, h2, h3, _, h5, _⟩
        ·rw [h2]; rfl
        ·rw [h5]; rfl
       rw [this]
       exact ⟨rfl, rfl⟩
     ·cases h
    ·split at h
     ·rename_i d hd
      split at h
      ·rename_i a ha
       cases h
       rcases hfound with ⟨_, h2, _⟩ | ⟨i, en, kv, rfl, h2, h3, _, h5, _⟩
       ·rw [hd] at h2; cases h2
       ·have hrun := run_lookup_at (P := P) ht hb (fun e => key_check G.w e hkt key) hf (z := .nilFunc) (fun h => by cases h) false
        rw [hd] at h5
        cases h5
        obtain ⟨xs, h6, h7⟩ := found h2 h3
        exact ⟨_, hrun, by simp only [valOr, Bool.false_eq_true, if_false, h7]; exact avOf_rep ha h6⟩
      ·cases h
     ·cases h
    ·cases h
  ·cases h
 ·cases h
theorem idxArr_sound {M : Mach} {G : View} {t : TypeId} {x ix : SV} {p : Option Prop} {r : SV} (h : idxArr M G.H t x ix = some (p, r)) (hp : holdsO p) {vx vi : Value} (rx : RepS G x vx) (ri : RepS G ix vi) :
  ∃ v, (Instr.indexAt t vx vi).run M.P G.w = .ok v G.w ∧ RepS G r v := by
 unfold idxArr at h
 split at h
 ·rename_i n e k i id off hu
  obtain ⟨_, hiv⟩ := ri
  obtain ⟨hvx, hcs⟩ := rx
  split at h
  ·rename_i w hn
   cases h
   obtain ⟨h0, h1⟩ := hp
   refine ⟨.pointer (some ⟨G.ρ id, off + i.toNat * w, none⟩), ?_, rfl, hcs⟩
   have hidx : 0 ≤ i ∧ i < (n : Int) := ⟨h0, h1⟩
   simp [Instr.indexAt, hiv, asIntOf, rU9 hu, hvx, hidx, rS9 hn, addr_add, Instr.sureAddr]
  ·cases h
 ·rename_i n e k i id c ver a k' hu
  obtain ⟨_, hiv⟩ := ri
  split at h
  ·rename_i w zs ver' hn hz
   split at h
   ·rename_i hw
    cases h
    simp only [Bool.and_eq_true, Nat.beq_eq] at hw
    obtain ⟨⟨hw', rfl⟩, rfl⟩ := hw
    obtain ⟨T, ho⟩ := arrOf_some hz
    obtain ⟨hp, h0, h1, h2⟩ := hp
    subst hp
    obtain ⟨hle, hv⟩ := ep_live rx ho
    refine ⟨.pointer (some ⟨G.ρ id, i.toNat * c.width, none⟩), ?_, rfl, .inr ⟨T, zs, ver', ho, nR9 _, fun _ => ⟨by omega, rfl⟩⟩⟩
    have hidx : 0 ≤ i ∧ i < (n : Int) := ⟨h0, h1⟩
    simp [Instr.indexAt, hiv, asIntOf, rU9 hu, hv, hidx, rS9 hn, addr_add, hw', Instr.sureAddr]
   ·cases h
  ·cases h
 ·cases h
theorem loadG1_sound {P : Program} {G : View} (hS : Sim G) {t : TypeId} {id ver j l : Nat} {p : Option Prop} {r : SV} (h : loadG1 P t id ver j l G.H = some (p, r)) (hp : holdsO p) {va : Value} (ra : RepC G (.ge id ver j l) va) :
  ∃ u, (Instr.loadAt t va).run P G.w = .ok u G.w ∧ RepS G r u := by
 unfold loadG1 at h
 split at h
 ·rename_i T e zs i k x ver' ho
  split at h
  ·rename_i hlk
   have hlk : l = k := Nat.eq_of_beq_eq_true hlk
   split at h
   ·rename_i a ha
    cases h
    obtain ⟨hver, hji⟩ : ver' = ver ∧ j = i := hp
    subst hver
    subst hji
    subst hlk
    obtain ⟨hjl, hva⟩ := ge_live ra ho
    obtain ⟨vs, rest, v, hh, hno, hi, hk, hx, hrows⟩ := hS.objs id _ ho trivial
    have hlen : j * e.width + l < (vs ++ rest).length := by
     have h1 : (j + 1) * e.width ≤ zs.length * e.width := Nat.mul_le_mul_right _ hi
     rw [Nat.add_mul] at h1
     rw [zP9, hrows.1]
     omega
    obtain ⟨u, hu', hru⟩ := load_sound (P := P) (b := G.ρ id) (base := j * e.width + l) (vs := [v]) ha (.cons hx .nil) (fun m u hm => by
     cases m with
     | succ m => cases hm
     | zero =>
      cases hm
      show G.w.cell? _ = _
      rw [cell_of_row G.w (G.ρ id) _ _ T (0, 0) hh]
      simp only [List.getElem?_toArray, Nat.add_zero]
      rw [List.getElem?_set, if_pos rfl, if_pos hlen])
    refine ⟨u, ?_, hru⟩
    rw [Nat.add_zero] at hu'
    simp [Instr.loadAt, hva, Instr.sureAddr, hu']
   ·cases h
  ·rename_i hlk
   have hlk : ¬ l = k := fun h => by rw [h, Nat.beq_refl] at hlk; cases hlk
   split at h
   ·rename_i q hq
    split at h
    ·rename_i a ha
     cases h
     have hver : ver' = ver := hp
     subst hver
     obtain ⟨hjl, hva⟩ := ge_live ra ho
     obtain ⟨vs, rest, v, hh, hno, hi, hk, hx, hrows⟩ := hS.objs id _ ho trivial
     have hget : zs[j]? = some (zs.getD j e.dflt) := by simp [hjl]
     obtain ⟨us, hu, hj⟩ := hrows.2 j _ hget
     have hul := Rep.length _ _ _ hu
     obtain ⟨y, hy, hyr⟩ := (enc_rep e _ us hu).get hq
     have hlw : l < us.length := (List.getElem?_eq_some_iff.1 hy).1
     have h1 := hj l y hy
     have h2 := (List.getElem?_eq_some_iff.1 h1).1
     have hne : ¬ i * e.width + k = j * e.width + l := fun he => by
      rcases Nat.lt_trichotomy j i with h3 | h3 | h3
      ·have : (j + 1) * e.width ≤ i * e.width := Nat.mul_le_mul_right _ h3
       rw [Nat.add_mul] at this
       omega
      ·subst h3
       omega
      ·have : (i + 1) * e.width ≤ j * e.width := Nat.mul_le_mul_right _ h3
       rw [Nat.add_mul] at this
       omega
     obtain ⟨u, hu', hru⟩ := load_sound (P := P) (b := G.ρ id) (base := j * e.width + l) (vs := [y]) ha (.cons hyr .nil) (fun m u hm => by
      cases m with
      | succ m => cases hm
      | zero =>
       cases hm
       show G.w.cell? _ = _
       rw [cell_of_row G.w (G.ρ id) _ _ T (0, 0) hh]
       simp only [List.getElem?_toArray, Nat.add_zero]
       rw [List.getElem?_set, if_neg hne, List.getElem?_append_left h2, h1])
     refine ⟨u, ?_, hru⟩
     rw [Nat.add_zero] at hu'
     simp [Instr.loadAt, hva, Instr.sureAddr, hu']
    ·cases h
   ·cases h
 ·cases h
theorem pureNew_sound {M : Mach} {G : View} (hS : Sim G) {ev : Operand → SV} {cv : Operand → Value} {o : Oper} {p : Option Prop} {r : SV}
  (h : pureNew M ev G.H o.op = some (p, r)) (hp : holdsO p) (hr : ∀ x ∈ o.op.operands.toList, RepS G (ev x) (cv x)) :
  ∃ v, (execOp cv o).run M.P G.w = .ok (.value v) G.w ∧ RepS G r v := by
 have fin : ∀ {s : Sem Value}, (execOp cv o = (do pure (.value (← s)))) → (∃ v, s.run M.P G.w = .ok v G.w ∧ RepS G r v) → ∃ v, (execOp cv o).run M.P G.w = .ok (.value v) G.w ∧ RepS G r v := by
  intro s he ⟨v, hv, hr⟩
  exact ⟨v, by rw [he]; simp [hv], hr⟩
 obtain ⟨dst, op, ty, pos, after, guard⟩ := o
 simp only at h hr fin ⊢
 unfold pureNew at h
 split at h
 ·rename_i t a
  have hx := hr a (by simp [Op.operands])
  split at h
  ·rename_i id ver j l hid
   rw [hid] at hx
   obtain ⟨u, hu, hru⟩ := loadG1_sound hS h hp hx
   exact fin rfl ⟨u, hu, hru⟩
  ·rename_i id e ver i k hid
   rw [hid] at hx
   split at h
   ·rename_i zs ver' hz
    obtain ⟨T, ho⟩ := arrOf_some hz
    split at h
    ·rename_i v hv
     cases h
     have hp : ver' = ver := hp
     subst hp
     obtain ⟨hi, hav⟩ := ep_live hx ho
     obtain ⟨vs, rest, hh, _, hrows⟩ := hS.objs id _ ho (by show 0 < zs.length; omega)
     have hget : zs[i]? = some (zs.getD i e.dflt) := by simp [hi]
     obtain ⟨us, hu, hj⟩ := hrows.2 i _ hget
     obtain ⟨u, hu', hru⟩ := load_sound (P := M.P) (b := G.ρ id) (base := i * e.width) hv (All2.map_left (enc_rep e _ us hu)) (fun j u hju => by
      show G.w.cell? _ = _
      rw [cell_of_row G.w (G.ρ id) _ _ T (0, 0) hh]
      have h1 := hj j u hju
      have h2 := (List.getElem?_eq_some_iff.1 h1).1
      simp only [List.getElem?_toArray]
      rw [List.getElem?_append_left h2, h1])
     refine fin rfl ⟨u, ?_, hru⟩
     simp [Instr.loadAt, hav, Instr.sureAddr, hu']
    ·cases h
   ·cases h
  ·cases h
 ·rename_i x
  have hx := hr x (by simp [Op.operands])
  split at h
  ·rename_i id e ver i k hid
   rw [hid] at hx
   split at h
   ·rename_i zs ver' hz
    cases h
    obtain ⟨T, ho⟩ := arrOf_some hz
    have hp : ver' = ver := hp
    subst hp
    obtain ⟨hi, hav⟩ := ep_live hx ho
    exact ⟨cv x, by simp [execOp, hav], hx⟩
   ·cases h
  ·rename_i id i k hid
   rw [hid] at hx
   split at h
   ·rename_i e hz
    cases h
    obtain ⟨T, zs, i', k', x', ho⟩ := vecOf_some hz
    obtain ⟨_, hav⟩ := ve_live hx ho
    exact ⟨cv x, by simp [execOp, hav], hx⟩
   ·cases h
  ·rename_i id ver i k hid
   rw [hid] at hx
   split at h
   ·rename_i e ver' hz
    cases h
    obtain ⟨T, zs, i', k', x', ho⟩ := gvecOf_some hz
    have hp : ver' = ver := hp
    subst hp
    obtain ⟨_, hav⟩ := ge_live hx ho
    exact ⟨cv x, by simp [execOp, hav], hx⟩
   ·cases h
  ·cases h
 ·rename_i s x f
  have hx := hr x (by simp [Op.operands])
  split at h
  ·rename_i fd hfd
   obtain ⟨fs, hu, hf⟩ := fieldOf_cases hfd
   split at h
   ·rename_i n hn
    split at h
    ·rename_i id e ver i k hid
     rw [hid] at hx
     split at h
     ·rename_i zs ver' hz
      cases h
      obtain ⟨T, ho⟩ := arrOf_some hz
      have hp : ver' = ver := hp
      subst hp
      obtain ⟨hi, hav⟩ := ep_live hx ho
      refine fin rfl ⟨.pointer (some ⟨G.ρ id, i * e.width + (k + fd.offset), none⟩), ?_, rfl, .inr ⟨T, zs, ver', ho, nR9 _, fun _ => ⟨hi, rfl⟩⟩⟩
      simp [Instr.fieldAt, rU9 hu, hf, hav, Instr.sureAddr, run_fieldPlace hn, Nat.add_assoc]
     ·cases h
    ·rename_i id i k hid
     rw [hid] at hx
     split at h
     ·rename_i e hz
      cases h
      obtain ⟨T, zs, i', k', x', ho⟩ := vecOf_some hz
      obtain ⟨hi, hav⟩ := ve_live hx ho
      refine fin rfl ⟨.pointer (some ⟨G.ρ id, i * e.width + (k + fd.offset), none⟩), ?_, rfl, .inr ⟨T, e, zs, i', k', x', ho, hi, rfl⟩⟩
      simp [Instr.fieldAt, rU9 hu, hf, hav, Instr.sureAddr, run_fieldPlace hn, Nat.add_assoc]
     ·cases h
    ·rename_i id ver i k hid
     rw [hid] at hx
     split at h
     ·rename_i e ver' hz
      cases h
      obtain ⟨T, zs, i', k', x', ho⟩ := gvecOf_some hz
      have hp : ver' = ver := hp
      subst hp
      obtain ⟨hi, hav⟩ := ge_live hx ho
      refine fin rfl ⟨.pointer (some ⟨G.ρ id, i * e.width + (k + fd.offset), none⟩), ?_, rfl, .inr ⟨T, e, zs, i', k', x', ver', ho, nR9 _, fun _ => ⟨hi, rfl⟩⟩⟩
      simp [Instr.fieldAt, rU9 hu, hf, hav, Instr.sureAddr, run_fieldPlace hn, Nat.add_assoc]
     ·cases h
    ·cases h
   ·cases h
  ·cases h
 ·rename_i t x ix
  have hx := hr x (by simp [Op.operands])
  have hi := hr ix (by simp [Op.operands])
  split at h
  ·rename_i y hy
   cases h
   obtain ⟨v, h1, h2⟩ := idxArr_sound hy hp hx hi
   exact fin rfl ⟨v, by simp [h1], h2⟩
  split at h
  ·rename_i e k i id c ver len hu hix hxs
   rw [hix] at hi
   rw [hxs] at hx
   obtain ⟨_, hiv⟩ := hi
   split at h
   ·rename_i n zs ver' hn hz
    split at h
    ·rename_i hw
     cases h
     have hw' : n = c.width := by simpa using hw
     obtain ⟨T, ho⟩ := arrOf_some hz
     obtain ⟨hp, h0, h1⟩ := hp
     subst hp
     obtain ⟨hle, hv⟩ := sl_live hx ho
     rcases hv with ⟨hv, _⟩ | ⟨hpos, cap, cur, hv, _⟩
     ·omega
     ·refine fin rfl ⟨.pointer (some ⟨G.ρ id, i.toNat * c.width, none⟩), ?_, rfl, .inr ⟨T, zs, ver', ho, nR9 _, fun _ => ⟨by omega, rfl⟩⟩⟩
      have hidx : 0 ≤ i ∧ i < (len : Int) := ⟨h0, h1⟩
      simp [Instr.indexAt, hiv, asIntOf, rU9 hu, hv, hidx, rS9 hn, addr_add, hw']
    ·cases h
   ·cases h
  ·rename_i e k i id len hu hix hxs
   rw [hix] at hi
   rw [hxs] at hx
   obtain ⟨_, hiv⟩ := hi
   split at h
   ·rename_i n c hn hz
    split at h
    ·rename_i hw
     cases h
     have hw' : n = c.width := by simpa using hw
     obtain ⟨T, zs, i', k', x', ho⟩ := vecOf_some hz
     obtain ⟨h0, h1⟩ := hp
     obtain ⟨hle, cap, hv, _⟩ := vs_live hx ho
     refine fin rfl ⟨.pointer (some ⟨G.ρ id, i.toNat * c.width, none⟩), ?_, rfl, .inr ⟨T, c, zs, i', k', x', ho, by omega, rfl⟩⟩
     have hidx : 0 ≤ i ∧ i < (len : Int) := ⟨h0, h1⟩
     simp [Instr.indexAt, hiv, asIntOf, rU9 hu, hv, hidx, rS9 hn, addr_add, hw']
    ·cases h
   ·cases h
  ·rename_i e k i id ver len hu hix hxs
   rw [hix] at hi
   rw [hxs] at hx
   obtain ⟨_, hiv⟩ := hi
   split at h
   ·rename_i n c ver' hn hz
    split at h
    ·rename_i hw
     cases h
     have hw' : n = c.width := by simpa using hw
     obtain ⟨T, zs, i', k', x', ho⟩ := gvecOf_some hz
     obtain ⟨hp, h0, h1⟩ := hp
     subst hp
     obtain ⟨hle, cap, cur, hv, _⟩ := gs_live hx ho
     refine fin rfl ⟨.pointer (some ⟨G.ρ id, i.toNat * c.width, none⟩), ?_, rfl, .inr ⟨T, c, zs, i', k', x', ver', ho, nR9 _, fun _ => ⟨by omega, rfl⟩⟩⟩
     have hidx : 0 ≤ i ∧ i < (len : Int) := ⟨h0, h1⟩
     simp [Instr.indexAt, hiv, asIntOf, rU9 hu, hv, hidx, rS9 hn, addr_add, hw']
    ·cases h
   ·cases h
  ·cases h
 ·rename_i t x lo hi mx
  have opt : ∀ (y : Option Operand), (∀ z, y = some z → RepS G (ev z) (cv z)) → All1 G (y.map ev) (y.map cv) := by
   intro y hy
   cases y with
   | none => trivial
   | some z => exact hy z rfl
  have hx := hr x (by simp [Op.operands])
  have rl := opt lo fun z hz => hr z (by subst hz; simp [Op.operands])
  have rh := opt hi fun z hz => hr z (by subst hz; simp [Op.operands])
  split at h
  ·rename_i e id c ver len hu hxs
   rw [hxs] at hx
   split at h
   ·rename_i l hh n zs ver' hl hhh hn hz
    split at h
    ·rename_i hw
     cases h
     have hw' : n = c.width := by simpa using hw
     obtain ⟨T, ho⟩ := arrOf_some hz
     obtain ⟨hp, rfl, h0, h1⟩ := hp
     subst hp
     obtain ⟨hle, hv⟩ := sl_live hx ho
     rcases hv with ⟨hv, hvv⟩ | ⟨hpos, cap, cur, hvv, hcur, hcap, hcm, hcs⟩
     ·have hh0 : hh = 0 := by omega
      subst hh0
      have hb := bounds_sound (P := M.P) (w := G.w) rl rh (len := 0) (cap := 0) true hl (by rw [show len = 0 by omega] at hhh; exact hhh) (by omega) (by omega) (by omega) (nR9 _)
      refine fin rfl ⟨.slice none 0 0, ?_, rfl, .inr ⟨T, zs, ver', ho, nR9 _, fun _ => ⟨by simp, .inl ⟨hv, rfl⟩⟩⟩⟩
      rw [hvv]
      simp [Instr.sliceAt, Instr.slice, rU9 hu, hb, rS9 hn]
     ·have hb := bounds_sound (P := M.P) (w := G.w) rl rh (len := len) (cap := cap) true hl hhh (by omega) h0 h1 (by omega)
      refine fin rfl ⟨.slice (some ⟨G.ρ id, 0, none⟩) hh.toNat cap, ?_, rfl, .inr ⟨T, zs, ver', ho, nR9 _, fun _ => ⟨by omega, .inr ⟨hpos, cap, cur, rfl, hcur, hcap, hcm, hcs⟩⟩⟩⟩
      rw [hvv]
      simp [Instr.sliceAt, Instr.slice, rU9 hu, hb, rS9 hn, addr_add]
    ·cases h
   ·cases h
  ·cases h
 ·rename_i t x k ok
  obtain ⟨u, h1, h2⟩ := lookupA_sound (P := M.P) hS h hp (hr x (by simp [Op.operands])) (hr k (by simp [Op.operands]))
  exact fin rfl ⟨u, h1, h2⟩
 ·rename_i src dst x
  have hx := hr x (by simp [Op.operands])
  split at h
  ·rename_i e id ver len hs hd hid
   rw [hid] at hx
   split at h
   ·rename_i zs ver' he hz
    cases h
    obtain ⟨T, ho⟩ := arrOf_some hz
    obtain ⟨hp, hlen⟩ := hp
    subst hp
    subst hlen
    obtain ⟨_, hv⟩ := sl_live hx ho
    refine fin rfl ⟨.string (bytesOf zs), ?_, RepS.mkv rfl⟩
    rcases hv with ⟨h0, hvv⟩ | ⟨hpos, cap, cur, hvv, hcur, hcap, hcm, hcs⟩
    ·have hz0 : zs = [] := List.eq_nil_of_length_eq_zero h0
     subst hz0
     rw [hvv]
     exact run_convert_bytes_nil G.w src e hs he 0 0 dst hd
    ·obtain ⟨vs, rest, hh, _, hrows⟩ := hS.objs id _ ho hpos
     rw [hvv]
     refine run_convert_bytes_arg G.w src e hs he (G.ρ id) 0 zs.length cap zs rfl (fun i hi => ?_) dst hd
     have hget : zs[i]? = some (zs.getD i (CT.int IntKind.u8).dflt) := by simp [hi]
     obtain ⟨us, hu, hj⟩ := hrows.2 i _ hget
     cases hu
     have h1 := hj 0 _ rfl
     have h2 := (List.getElem?_eq_some_iff.1 h1).1
     show G.w.cell? _ = _
     rw [cell_of_row G.w (G.ρ id) _ _ T (0, 0) hh]
     simp only [List.getElem?_toArray, Nat.zero_add]
     have e0 : i * CT.width (CT.int IntKind.u8) + 0 = i := Nat.mul_one i
     rw [e0] at h1 h2
     rw [List.getElem?_append_left h2, h1]
     rfl
   ·cases h
  ·cases h
 ·rename_i c
  obtain ⟨callee, args, argTypes⟩ := c
  have hargs : ∀ x ∈ args.toList, RepS G (ev x) (cv x) := fun x hx => hr x (by simp [Op.operands, Call.operands]; exact .inr (by simpa using hx))
  simp only at h
  split at h
  ·split at h
   ·rename_i x t hx ht
    have e1 : args = #[x] := by rw [← Array.toArray_toList (xs := args), hx]
    have e2 : argTypes = #[t] := by rw [← Array.toArray_toList (xs := argTypes), ht]
    subst e1; subst e2
    have hx := hargs x (by simp)
    split at h
    ·rename_i e id c ver len hu hxs
     rw [hxs] at hx
     split at h
     ·rename_i zs ver' hz
      cases h
      obtain ⟨T, ho⟩ := arrOf_some hz
      have hp : ver' = ver := hp
      subst hp
      obtain ⟨hle, hv⟩ := sl_live hx ho
      have hlen : ∃ base cap, cv x = .slice base len cap := by
       rcases hv with ⟨hv, hvv⟩ | ⟨_, cap, cur, hvv, _⟩
       ·exact ⟨none, 0, by rw [hvv, show len = 0 by omega]⟩
       ·exact ⟨_, cap, hvv⟩
      obtain ⟨base, cap, hvv⟩ := hlen
      exact ⟨.int .i64 len, by simp [execOp, resolve, invoke, builtin, Builtin.len_, rU9 hu, hvv, goInt], RepS.mkv rfl⟩
     ·cases h
    ·rename_i e id len hu hxs
     rw [hxs] at hx
     split at h
     ·rename_i c hz
      cases h
      obtain ⟨T, zs, i', k', x', ho⟩ := vecOf_some hz
      obtain ⟨hle, cap, hvv, _⟩ := vs_live hx ho
      exact ⟨.int .i64 len, by simp [execOp, resolve, invoke, builtin, Builtin.len_, rU9 hu, hvv, goInt], RepS.mkv rfl⟩
     ·cases h
    ·rename_i e id ver len hu hxs
     rw [hxs] at hx
     split at h
     ·rename_i c ver' hz
      cases h
      obtain ⟨T, zs, i', k', x', ho⟩ := gvecOf_some hz
      have hp : ver' = ver := hp
      subst hp
      obtain ⟨hle, cap, cur, hvv, _⟩ := gs_live hx ho
      exact ⟨.int .i64 len, by simp [execOp, resolve, invoke, builtin, Builtin.len_, rU9 hu, hvv, goInt], RepS.mkv rfl⟩
     ·cases h
    ·cases h
   ·cases h
  ·cases h
 ·cases h
theorem opRep_all {G : View} {ev : Operand → SV} {cv : Operand → Value} {op : Op} (h : OpRep G ev cv op) (hn : ∀ c a b, op ≠ .pick c a b) : ∀ x ∈ op.operands.toList, RepS G (ev x) (cv x) := by
 cases op <;> first | exact h | exact absurd rfl (hn _ _ _)
theorem pureOp_sound {M : Mach} {G : View} (hS : Sim G) {ev : Operand → SV} {cv : Operand → Value} (hc : Consts ev cv) {o : Oper} {p : Option Prop} {r : SV}
  (h : pureOp M ev G.H o.op = some (p, r)) (hp : holdsO p) (hr : OpRep G ev cv o.op) (hncall : ∀ c f, o.op = .call c → c.callee ≠ .value f) :
  ∃ v, (execOp cv o).run M.P G.w = .ok (.value v) G.w ∧ RepS G r v := by
 unfold pureOp at h
 split at h
 ·rename_i x hx
  cases h
  exact pureOp0_sound hS hc hx hp hr hncall
 ·refine pureNew_sound hS h hp (opRep_all hr ?_)
  intro c a b he
  rw [he] at h
  cases h
end Go.Ab
