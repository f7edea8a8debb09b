/- The document's own controller of layer 13: Tick. -/
import Derived.Test.YthfmgdhhjnngaaaShRefA
namespace Go.Proofs.Ythfmgdhhjnngaaa
open Go.RowKit
open Bt

variable {S T : Nat → Prop} {w w' w1 : World} {b : Nat} {x : Ctl}

/-- Levels of which the first so many are nought. -/
def zf (l : List Int) (t : Nat) : List Int := (l.take t).map (fun _ => 0) ++ l.drop t

theorem zf_zero (l : List Int) : zf l 0 = l := by simp [zf]
theorem zf_len (l : List Int) (t : Nat) : (zf l t).length = l.length := by simp [zf]; omega
theorem zf_all (l : List Int) : zf l l.length = l.map (fun _ => 0) := by simp [zf]
theorem zf_next (l : List Int) {t : Nat} (ht : t < l.length) : (zf l t).set t 0 = zf l (t + 1) := by
  unfold zf
  have hm : ((l.take t).map (fun _ => (0 : Int))).length = t := by simp; omega
  rw [List.set_append_right _ _ (by omega), hm, Nat.sub_self, List.drop_eq_getElem_cons ht, List.set_cons_zero, List.take_succ_eq_append_getElem ht, List.map_append, List.append_assoc]
  rfl

theorem ll_zero (x : Ctl) : (llS x).map (fun _ => (0 : Int)) = (x.beds.map zeroS).map (fun s => (s.lv : Int)) := by
  unfold llS
  rw [List.map_map, List.map_map]
  rfl

theorem ll_modify (x : Ctl) {i : Nat} (hi : i < x.beds.length) : (llS x).set i ((x.beds[i].lv : Int) + 1) = (x.beds.modify i oneS).map (fun s => (s.lv : Int)) := by
  unfold llS
  apply List.ext_getElem?
  intro j
  rw [List.getElem?_set, List.getElem?_map, List.getElem?_map, List.getElem?_modify]
  by_cases e : i = j
  · subst e
    simp [hi, oneS]
  · simp [e]

theorem lp_modify (x : Ctl) (i : Nat) : (x.beds.modify i oneS).map Sd.prio = lpS x := prio_modify x.beds i

theorem ok_calm {x : Ctl} (h : x.Ok) : ({ x with calm := 0 } : Ctl).Ok := ⟨h.few, h.lev, h.once, h.w1, h.w2, by have := h.w1; show 0 < x.waits; omega⟩

set_option maxRecDepth 100000 in
set_option maxHeartbeats 2000000 in
theorem refTick13_over (b : Nat) (S : Nat → Prop) (x : Ctl) (w : World) (h : RCt S w b x) :
    Calls Try.prog 19 #[.pointer (some ⟨b, 0, none⟩), .bool true] w fun e w' => e = .returned (.int .i64 (tickD x true)) ∧ LeftRC S w w' b (tickC x true) := by
  obtain ⟨⟨vb, vp, vl, h⟩, ok⟩ := h
  have hf := ok.few
  have OKH := Hid.intro ok
  obtain ⟨_, c1, _, _, _, fz⟩ := h.cells
  have f1 := fz 1
  obtain ⟨h1, k1⟩ := h.setCalm 0
  obtain ⟨_, _, d2, _, d4, _⟩ := h1.cells
  obtain ⟨ab, cb, rfl, hzb⟩ := ownsRow_form h.ob
  obtain ⟨al, cl', rfl, hzl⟩ := ownsRow_form h.ol
  have eb : (lbS x).length = x.beds.length := by simp [lbS]
  have el : (llS x).length = x.beds.length := by simp [llS]
  rw [eb] at d2 hzb
  rw [el] at d4 hzl
  have e1 : tickD x true = shedD x.beds := by simp [tickD]
  have e2 : tickC x true = { x with calm := 0, beds := shedL x.beds } := by simp [tickC]
  rw [e1, e2]
  have HA := Hid.intro (fun t (ht : t < x.beds.length) (g g' : Nat) (e : ab = some ⟨g, 0, none⟩) (e' : al = some ⟨g', 0, none⟩) => (show (w.setCell ⟨b, 1, none⟩ (.int .i64 0)).cell? ⟨g, t, none⟩ = some (.int .i64 x.beds[t].bed) ∧ (w.setCell ⟨b, 1, none⟩ (.int .i64 0)).cell? ⟨g', t, none⟩ = some (.int .i64 (x.beds[t].lv : Int)) ∧ (w.setCell ⟨b, 1, none⟩ (.int .i64 0)).frozen? ⟨g', t, none⟩ = false ∧ g' ≠ b ∧ g' ≠ g from by
    subst e
    subst e'
    have q1 := row_at h1.ob (i := t) (by omega)
    have q2 := row_at h1.ol (i := t) (by omega)
    have m1 : (lbS x)[t]'(by omega) = x.beds[t].bed := by simp [lbS]
    have m2 : (llS x)[t]'(by omega) = (x.beds[t].lv : Int) := by simp [llS]
    rw [m1] at q1
    rw [m2] at q2
    refine ⟨q1, q2, ?_, fun e => row_ne h1.ol h1.head (by rw [e]; rfl), fun e => h1.ab g' rfl (by rw [e]; rfl)⟩
    rcases h1.ol.2 with ⟨hv, _⟩ | ⟨g2, cap, cur, hv, _, hg, _⟩
    · cases hv
    · cases hv; exact frozen_of_row _ _ t _ _ hg))
  have HIT : Hid (∀ (i : Nat) (hi : i < x.beds.length) (g' : Nat), al = some ⟨g', 0, none⟩ → upS x.beds = some i → LeftRC S w ((w.setCell ⟨b, 1, none⟩ (.int .i64 0)).setCell ⟨g', i, none⟩ (.int .i64 ((x.beds[i].lv : Int) + 1))) b { x with calm := 0, beds := shedL x.beds }) := fun i hi g' e hu => by
    subst e
    obtain ⟨p1, p2⟩ := h1.setLv i ((x.beds[i].lv : Int) + 1)
    rw [shedL_hit hu]
    have q1 : lbS { x with calm := 0, beds := x.beds.modify i oneS } = lbS x := bed_modify _ _
    have q2 : lpS { x with calm := 0, beds := x.beds.modify i oneS } = lpS x := lp_modify x i
    have q3 : llS { x with calm := 0, beds := x.beds.modify i oneS } = (llS x).set i ((x.beds[i].lv : Int) + 1) := (ll_modify x hi).symm
    rw [← q1, ← q2, ← q3] at p1
    have q := ok_tick OKH.out true
    rw [e2, shedL_hit hu] at q
    exact ⟨S, ⟨⟨_, _, _, p1⟩, q⟩, k1.trans p2 (fun _ q _ => q), fun _ => .inl⟩
  have MIS : Hid (upS x.beds = none → LeftRC S w (w.setCell ⟨b, 1, none⟩ (.int .i64 0)) b { x with calm := 0, beds := shedL x.beds }) := fun hu => by
    rw [shedL_miss hu]
    exact ⟨S, ⟨⟨_, _, _, h1⟩, ok_calm OKH.out⟩, k1, fun _ => .inl⟩
  obtain ⟨D, hD⟩ : ∃ D, D = shedD x.beds := ⟨_, rfl⟩
  have HD := Hid.intro hD
  obtain ⟨X, hX⟩ : ∃ X : Ctl, X = { x with calm := 0, beds := shedL x.beds } := ⟨_, rfl⟩
  rw [← hX] at HIT MIS ⊢
  rw [← hD]
  have L3 := Hid.intro ok.lev
  have HZB := Hid.intro hzb
  have HZL := Hid.intro hzl
  obtain ⟨n, hn⟩ : ∃ n, n = x.beds.length := ⟨_, rfl⟩
  have HN := Hid.intro hn
  rw [← hn] at d2 d4 hf
  clear h h1 k1 hzb hzl eb el e1 e2 hn hD hX fz ok
  go_enter Try.func19, Try.ntmps19
  go_wp2_with fail
  generalize w.setCell ⟨b, 1, none⟩ (.int .i64 0) = W at *
  go_loop [5] (fun iv => ∃ t : Nat, t ≤ n ∧ iv = .int .i64 ((t : Int) - 1) ∧ ∀ j, (hj : j < x.beds.length) → t ≤ j → x.beds[j].lv = 3) (fun iv => (intOf iv + 1).toNat)
  case atStart => exact ⟨n, by omega, by congr 1, fun j hj h => by have := HN.out; omega⟩
  case round =>
    obtain ⟨t, ht, rfl, hno⟩ := hrel
    have HNO := Hid.intro hno
    clear hno
    by_cases h0 : t = 0
    · subst h0
      have hu : upS x.beds = none := upS_none (fun s hs => by obtain ⟨j, hj, rfl⟩ := List.getElem_of_mem hs; exact HNO.out j hj (Nat.zero_le _))
      have FI := Hid.intro (MIS.out hu)
      have ED : Hid (D = -1) := by rw [Hid, HD.out]; exact shedD_miss hu
      have z0 : ((0 : Nat) : Int) - 1 = -1 := by omega
      rw [z0]
      clear hu HIT MIS
      go_wp2
      go_ret
      exact ⟨by rw [ED.out]; rfl, FI.out⟩
    · obtain ⟨i, rfl⟩ : ∃ i, t = i + 1 := ⟨t - 1, by omega⟩
      have hi : i < x.beds.length := by rw [← HN.out]; omega
      obtain ⟨g, rfl⟩ := HZB.out.resolve_left (by omega)
      obtain ⟨g', rfl⟩ := HZL.out.resolve_left (by omega)
      obtain ⟨q1, q2, q3, q4, q5⟩ := HA.out i hi g g' rfl rfl
      have ez : (((i + 1 : Nat) : Int) - 1) = (i : Int) := by omega
      rw [ez]
      have i0 : (0 : Int) ≤ (i : Int) := by omega
      have i1 : (i : Int) < (n : Int) := by omega
      have le3 := L3.out _ (List.getElem_mem hi)
      by_cases hlv : x.beds[i].lv = 3
      · have NX : Hid (∀ j, (hj : j < x.beds.length) → i ≤ j → x.beds[j].lv = 3) := fun j hj h => by
          by_cases q : j = i
          · subst q; exact hlv
          · exact HNO.out j hj (by omega)
        rw [hlv] at q2
        clear hlv le3 q1 HIT
        go_wp2
        go_round
        case rel => exact ⟨i, by omega, by go_num, NX.out⟩
        case measure => simp [intOf]
      · have hu : upS x.beds = some i := upS_some hi hlv (fun j hj h => HNO.out j hj (by omega))
        have FI := Hid.intro (HIT.out i hi g' rfl hu)
        have ED : Hid (D = x.beds[i].bed) := by rw [Hid, HD.out]; exact shedD_hit hi hu
        have l3 : x.beds[i].lv < 3 := by omega
        clear hu HIT MIS hlv le3
        generalize x.beds[i].lv = lv at *
        generalize x.beds[i].bed = bd at *
        have lc : (lv : Int) < 3 := by omega
        go_wp2
        go_ret
        exact ⟨by rw [ED.out]; rfl, FI.out⟩

set_option maxRecDepth 100000 in
set_option maxHeartbeats 2000000 in
theorem refTick13_calm (b : Nat) (S : Nat → Prop) (x : Ctl) (w : World) (h : RCt S w b x) :
    Calls Try.prog 19 #[.pointer (some ⟨b, 0, none⟩), .bool false] w fun e w' => e = .returned (.int .i64 (tickD x false)) ∧ LeftRC S w w' b (tickC x false) := by
  obtain ⟨⟨vb, vp, vl, h⟩, ok⟩ := h
  have hf := ok.few
  have w1 := ok.w1
  have w2 := ok.w2
  have cw := ok.cw
  have OKH := Hid.intro ok
  obtain ⟨_, c1, _, _, _, fz⟩ := h.cells
  have f1 := fz 1
  obtain ⟨h1, k1⟩ := h.setCalm ((x.calm : Int) + 1)
  obtain ⟨g0, g1, _, _, _, gz⟩ := h1.cells
  have gf := gz 1
  have e1 : tickD x false = -1 := by simp [tickD]
  rw [e1]
  clear e1 fz gz
  by_cases hc : x.calm + 1 = x.waits
  · have e2 : tickC x false = { x with calm := 0, beds := x.beds.map zeroS } := by simp [tickC, hc]
    rw [e2]
    have OKT := ok_tick ok false
    rw [e2] at OKT
    have el : (llS x).length = x.beds.length := by simp [llS]
    obtain ⟨al, cl', rfl, hzl⟩ := ownsRow_form h.ol
    have H0 := Hid.intro (fun q => (show RH S (((w.setCell ⟨b, 1, none⟩ (.int .i64 ((x.calm : Int) + 1))).drewN q).setCell ⟨b, 1, none⟩ (.int .i64 0)) b x.waits 0 vb vp (.slice al (llS x).length cl') (lbS x) (lpS x) (llS x) ∧ Chg S w (((w.setCell ⟨b, 1, none⟩ (.int .i64 ((x.calm : Int) + 1))).drewN q).setCell ⟨b, 1, none⟩ (.int .i64 0)) from by
      have hd := h1.kept (T := fun _ => False) ((Chg.refl _ _).drewN q) (fun _ _ => id)
      obtain ⟨p1, p2⟩ := hd.setCalm 0
      exact ⟨p1, (k1.drewN q).trans p2 (fun _ q _ => q)⟩))
    have FIN : Hid (∀ W, RH S W b x.waits 0 vb vp (.slice al (llS x).length cl') (lbS x) (lpS x) (zf (llS x) (llS x).length) → Chg S w W → LeftRC S w W b { x with calm := 0, beds := x.beds.map zeroS }) := fun W hW kW => by
      have q1 : lbS { x with calm := 0, beds := x.beds.map zeroS } = lbS x := zero_bed _
      have q2 : lpS { x with calm := 0, beds := x.beds.map zeroS } = lpS x := by unfold lpS; rw [List.map_map]; rfl
      have q3 : llS { x with calm := 0, beds := x.beds.map zeroS } = zf (llS x) (llS x).length := by rw [zf_all, ll_zero]; rfl
      rw [← q1, ← q2, ← q3] at hW
      exact ⟨S, ⟨⟨_, _, _, hW⟩, OKT⟩, kW, fun _ => .inl⟩
    have hcc : (x.waits : Int) ≤ (x.calm : Int) + 1 := by omega
    rw [el] at hzl H0 FIN
    have HZL := Hid.intro hzl
    have EL := Hid.intro el
    generalize x.beds.map zeroS = sl at *
    generalize lbS x = lb at *
    generalize lpS x = lp at *
    generalize llS x = ll at *
    generalize x.beds.length = n at *
    generalize x.waits = wt at *
    generalize x.calm = cl at *
    clear h h1 k1 hzl el e2 hc ok OKT OKH
    go_enter Try.func19, Try.ntmps19
    go_wp2_with fail
    go_quiet (fail)
    go_wp2_with fail
    have H1 := H0.out nq
    generalize ((w.setCell ⟨b, 1, none⟩ (.int .i64 ((cl : Int) + 1))).drewN nq).setCell ⟨b, 1, none⟩ (.int .i64 0) = W at *
    have H1H := Hid.intro H1
    clear H1 H0 c1 f1 g0 g1 gf
    go_loopw [6] (fun iv ws => ∃ t : Nat, t ≤ n ∧ iv = .int .i64 t ∧ RH S ws b wt 0 vb vp (.slice al n cl') lb lp (zf ll t) ∧ Chg S w ws) (fun iv _ => n - (intOf iv).toNat)
    case atStart => exact ⟨0, by omega, rfl, by rw [zf_zero]; exact H1H.out.1, H1H.out.2⟩
    case round =>
      clear H1H
      obtain ⟨t, ht, rfl, hR, hC⟩ := hrel
      obtain ⟨_, _, _, _, d4, _⟩ := hR.cells
      by_cases hlt : t < n
      · have hlt' : t < ll.length := by rw [EL.out]; exact hlt
        obtain ⟨g, rfl⟩ := HZL.out.resolve_left (by omega)
        obtain ⟨p1, p2⟩ := hR.setLv t 0
        rw [zf_next ll hlt'] at p1
        have q2 := row_at (l := zf ll t) (n := n) (c := cl') (g := g) (by have := hR.ol; rw [zf_len, EL.out] at this; exact this) (i := t) (by rw [zf_len]; exact hlt')
        have q3 : wr.frozen? ⟨g, t, none⟩ = false := by
          rcases hR.ol.2 with ⟨hv, _⟩ | ⟨g2, cap, cur, hv, _, hg, _⟩
          · cases hv
          · cases hv; exact frozen_of_row _ _ t _ _ hg
        have P1 := Hid.intro p1
        have P2 := Hid.intro (hC.trans p2 (fun _ q _ => q))
        have t0 : (0 : Int) ≤ (t : Int) := by omega
        have t1 : (t : Int) < (n : Int) := by omega
        generalize (zf ll t)[t]'(by rw [zf_len]; exact hlt') = old at *
        clear hR hC p1 p2
        go_wp2
        go_roundw
        case rel => exact ⟨t + 1, by omega, by go_num, P1.out, P2.out⟩
        case measure => simp [intOf]; omega
      · obtain rfl : t = n := by omega
        have t1 : ¬ (t : Int) < (t : Int) := by omega
        have FI := Hid.intro (FIN.out wr hR hC)
        clear hR hC
        go_wp2
        go_ret
        exact ⟨rfl, FI.out⟩
  · have e2 : tickC x false = { x with calm := x.calm + 1 } := by simp [tickC, hc]
    rw [e2]
    have OKT := ok_tick ok false
    rw [e2] at OKT
    have FI : Hid (∀ q, LeftRC S w ((w.setCell ⟨b, 1, none⟩ (.int .i64 ((x.calm : Int) + 1))).drewN q) b { x with calm := x.calm + 1 }) := fun q =>
      ⟨S, ⟨⟨_, _, _, h1.kept (T := fun _ => False) ((Chg.refl _ _).drewN q) (fun _ _ => id)⟩, OKT⟩, k1.drewN q, fun _ => .inl⟩
    have hcc : ¬ (x.waits : Int) ≤ (x.calm : Int) + 1 := by omega
    generalize x.waits = wt at *
    generalize x.calm = cl at *
    clear h h1 k1 e2 hc ok OKT OKH
    go_enter Try.func19, Try.ntmps19
    go_wp2_with fail
    go_quiet (fail)
    go_wp2
    go_ret
    exact ⟨rfl, FI.out _⟩

theorem refTick13_any (b : Nat) (o : Bool) (S : Nat → Prop) (x : Ctl) (w : World) (h : RCt S w b x) :
    Calls Try.prog 19 #[.pointer (some ⟨b, 0, none⟩), .bool o] w fun e w' => e = .returned (.int .i64 (tickD x o)) ∧ LeftRC S w w' b (tickC x o) := by
  cases o with
  | true => exact refTick13_over b S x w h
  | false => exact refTick13_calm b S x w h

end Go.Proofs.Ythfmgdhhjnngaaa
