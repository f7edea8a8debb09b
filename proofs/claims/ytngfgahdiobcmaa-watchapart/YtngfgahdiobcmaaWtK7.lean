/- Package watch: Beds. -/
import Derived.Test.YtngfgahdiobcmaaWtK6
import Derived.Test.YtngfgahdiobcmaaStIn
namespace Go.Proofs.Ytngfgahdiobcmaa
open Go.RowKit Go.Shelf
open Bt
attribute [local go_sem] Oper.semAt_some

theorem beds_next {L : List Wb} {t : Nat} (ht : t < L.length) : bedsWb (L.take (t + 1)) = bedsWb (L.take t) ++ [L[t].bed] := by
  unfold bedsWb
  rw [List.take_succ_eq_append_getElem ht, List.map_append]
  rfl

/-- Between two rounds. -/
def BdI (w : World) (rv : Option Addr) (v : Value) (L : List Wb) (c : Nat) (W : World) : Prop := ∃ ow, RdN (fun _ => False) w W rv v L (bedsWb (L.take c)) ow

set_option maxRecDepth 100000 in
set_option maxHeartbeats 4000000 in
theorem beds_core (rv : Option Addr) (g : Nat) (v : Value) (L : List Wb) (w : World) (hf : L.length ≤ 100) (hv : ∀ k, v.ownBlock = some k → k < w.heap.size) (hown : w.ownsRow 0 58 4 v L.length (wcells15 L)) (hg : 0 < L.length → ∃ c, v = .slice (some ⟨g, 0, none⟩) L.length c)
    (hit : ∀ (l : Nat) (J : Nat → World → Prop) (W : World), (∀ c W, J c W → BdI w rv v L c W) → (∀ c W1, c < L.length → J c W1 → YieldAt Fence.wide 2 Try.prog l #[.pointer (some ⟨g, c * 4, none⟩)] W1 fun e W' => e = .returned (.bool true) ∧ J (c + 1) W') → J 0 W → CallsIn Fence.wide 3 Try.prog 33 (#[.func (.yield l) #[] #[]] ++ #[.pointer (some ⟨w.heap.size + 1, 0, none⟩)]) W fun e W' => (∃ u, e = .returned u) ∧ J L.length W') :
    Calls Try.prog 16 #[.pointer rv] w fun e w' => ∃ v', e = .returned v' ∧ NumsAt (fun k => w.heap.size ≤ k ∧ k < w'.heap.size) w' v' (bedsWb L) ∧ Below w.heap.size w w' := by
  have hmo : Try.prog.follows .mixedOrders = true := by kernel_rfl
  have ST := rd_start (T := fun _ => False) (rv := rv) hown
  refine (callsIn_wide (n := 4)).1 ?_
  refine callsIn_of_wp_marks Try.func16 rfl trivial ?_ rfl
  simp only [Try.ntmps16, List.size_toArray, List.length_cons, List.length_nil, Nat.reduceAdd, Nat.reduceSub, Array.replicate_succ, Array.replicate_zero, List.push_toArray, List.append_toArray, List.nil_append, List.cons_append]
  gi_wp2_with (refine ⟨trivial, ?_⟩; gi_at_call 29; refine (callsIn_wide.2 (wall_any rv _)).mono ?_; rintro e w' ⟨rfl, rfl⟩)
  have hsz : ((w.alloc (.cells #[.slice none 0 0] 30)).alloc (.cells #[.pointer rv] 25)).heap.size = w.heap.size + 2 := by simp
  generalize (w.alloc (.cells #[.slice none 0 0] 30)).alloc (.cells #[.pointer rv] 25) = W5 at ST hsz ⊢
  refine wpIn_range_told rfl (by decide) (gf := 33) (lb := #[.pointer (some ⟨w.heap.size + 1, 0, none⟩)]) rfl trivial (enters_of Try.func33 (by kernel_rfl) rfl)
    L.length (BdI w rv v L) (fun c => #[.pointer (some ⟨g, c * 4, none⟩)]) (by rw [hsz]; exact fun c W W' row ⟨ow, h⟩ hg hr => ⟨ow, h.grown hv hg hr⟩) ⟨_, ST⟩ (fun _ => rfl)
    (fun l J W hJI _ hY h0 => hit l J W hJI hY h0)
    (fun c => { tmps := #[.pointer rv, undef, .slice none 0 0, .pointer (some ⟨w.heap.size, 0, none⟩), .pointer (some ⟨g, c * 4, none⟩), .pointer rv, .func (.func 33) #[] #[.pointer (some ⟨w.heap.size + 1, 0, none⟩)], .pointer (some ⟨g, c * 4, none⟩), undef, undef, undef, undef, undef, undef, undef, undef], defers := [] }) ?assign ?body ?done
  case assign =>
    intro l c W K _ hK
    gi_wp2
    exact hK
  case body =>
    rintro l c W hc ⟨ow, hT⟩
    obtain ⟨vc, rfl⟩ := hg (by omega)
    have hT1 : RdN (fun _ => False) w W.drew rv (.slice (some ⟨g, 0, none⟩) L.length vc) L (bedsWb (L.take c)) ow := hT.grown hv (grown_drew W 1) (fun r e => by cases e)
    have c0 := (ws_at hT1.own hc).1
    obtain ⟨v', wb, hrun, ⟨z1, z2⟩, ⟨oa, oc, hvf⟩, hN, hK0⟩ := hT1.more hv L[c].bed (by unfold bedsWb; simp; omega) 30
    subst hvf
    have HN : Hid (toldPost (W5.heap.size) (BdI w rv (.slice (some ⟨g, 0, none⟩) L.length vc) L (c + 1)) W .normal ⟨#[], []⟩ (wb.setCell ⟨w.heap.size, 0, none⟩ (.slice oa ((bedsWb (L.take c)).length + 1) oc))) := by
      refine ⟨⟨hK0.size, fun k o hk ho hcc => hK0.same k o (by omega) ho hcc⟩, .slice oa ((bedsWb (L.take c)).length + 1) oc, ?_⟩
      rw [beds_next hc]
      exact hN
    have k0 := hT1.cells.1.1
    have k1 : (W.drew.alloc (.cells #[.int .i64 L[c].bed] 3)).cell? ⟨w.heap.size, 0, none⟩ = some ow := cellOldS _ k0
    clear hT hT1 hN hK0 hown hit ST
    generalize L[c].bed = x at *
    generalize (bedsWb (L.take c)).length = n at *
    generalize c * 4 = o at *
    gi_wp2
    refine wpIn_region_any hmo ?_
    try (change wpAnyIn _ _ _ _ _ _ _ _ _ (World.drew _))
    generalize W.drew = W1 at *
    refine wpAnyIn_ready (rs := [0, 1]) (by kernel_rfl) (by simp) ?_
    refine AllReadyIn.cons rfl (fun K hK => ?_) ?_
    · go_simp
      refine hK _ _ ?_
      clear hK K
      refine wpAnyIn_ready (rs := [1]) (by kernel_rfl) (by simp) ?_
      refine AllReadyIn.cons rfl (fun K hK => ?_) ?_
      · go_simp
        refine hK _ _ ?_
        clear hK K
        refine wpAnyIn_ready (rs := [2]) (by kernel_rfl) (by simp) ?_
        refine AllReadyIn.cons rfl (fun K hK => ?_) ?_
        · go_simp
          refine hK _ _ ?_
          clear hK K
          refine wpAnyIn_ready (rs := [3]) (by kernel_rfl) (by simp) ?_
          refine AllReadyIn.cons rfl (fun K hK => ?_) ?_
          · go_simp
            refine hK _ _ ?_
            clear hK K
            refine wpAnyIn_ready (rs := [4]) (by kernel_rfl) (by simp) ?_
            refine AllReadyIn.cons rfl (fun K hK => ?_) ?_
            · go_simp
              refine hK _ _ ?_
              clear hK K
              refine wpAnyIn_ready (rs := [5]) (by kernel_rfl) (by simp) ?_
              refine AllReadyIn.cons rfl (fun K hK => ?_) ?_
              · go_simp
                refine hK _ _ ?_
                clear hK K
                refine wpAnyIn_ready (rs := [6]) (by kernel_rfl) (by simp) ?_
                refine AllReadyIn.cons rfl (fun K hK => ?_) ?_
                · refine stepIn_append rfl _ _ _ rfl _ _ _ _ (by rfl) (by rfl) hrun ?_
                  refine hK _ _ ?_
                  clear hK K
                  simp only [Act.put, List.setIfInBounds_toArray]
                  refine wpAnyIn_ready (rs := [7]) (by kernel_rfl) (by simp) ?_
                  refine AllReadyIn.cons rfl (fun K hK => ?_) ?_
                  · go_simp
                    refine hK _ _ ?_
                    clear hK K
                    refine wpAnyIn_done (by kernel_rfl) ?_ _
                    exact HN.out
                  exact AllReadyIn.nil
                exact AllReadyIn.nil
              exact AllReadyIn.nil
            exact AllReadyIn.nil
          exact AllReadyIn.nil
        exact AllReadyIn.nil
      exact AllReadyIn.nil
    refine AllReadyIn.cons rfl (fun K hK => ?_) ?_
    · go_simp
      refine hK _ _ ?_
      clear hK K
      refine wpAnyIn_ready (rs := [0, 2]) (by kernel_rfl) (by simp) ?_
      refine AllReadyIn.cons rfl (fun K hK => ?_) ?_
      · go_simp
        refine hK _ _ ?_
        clear hK K
        refine wpAnyIn_ready (rs := [2]) (by kernel_rfl) (by simp) ?_
        refine AllReadyIn.cons rfl (fun K hK => ?_) ?_
        · go_simp
          refine hK _ _ ?_
          clear hK K
          refine wpAnyIn_ready (rs := [3]) (by kernel_rfl) (by simp) ?_
          refine AllReadyIn.cons rfl (fun K hK => ?_) ?_
          · go_simp
            refine hK _ _ ?_
            clear hK K
            refine wpAnyIn_ready (rs := [4]) (by kernel_rfl) (by simp) ?_
            refine AllReadyIn.cons rfl (fun K hK => ?_) ?_
            · go_simp
              refine hK _ _ ?_
              clear hK K
              refine wpAnyIn_ready (rs := [5]) (by kernel_rfl) (by simp) ?_
              refine AllReadyIn.cons rfl (fun K hK => ?_) ?_
              · go_simp
                refine hK _ _ ?_
                clear hK K
                refine wpAnyIn_ready (rs := [6]) (by kernel_rfl) (by simp) ?_
                refine AllReadyIn.cons rfl (fun K hK => ?_) ?_
                · refine stepIn_append rfl _ _ _ rfl _ _ _ _ (by rfl) (by rfl) hrun ?_
                  refine hK _ _ ?_
                  clear hK K
                  simp only [Act.put, List.setIfInBounds_toArray]
                  refine wpAnyIn_ready (rs := [7]) (by kernel_rfl) (by simp) ?_
                  refine AllReadyIn.cons rfl (fun K hK => ?_) ?_
                  · go_simp
                    refine hK _ _ ?_
                    clear hK K
                    refine wpAnyIn_done (by kernel_rfl) ?_ _
                    exact HN.out
                  exact AllReadyIn.nil
                exact AllReadyIn.nil
              exact AllReadyIn.nil
            exact AllReadyIn.nil
          exact AllReadyIn.nil
        exact AllReadyIn.nil
      refine AllReadyIn.cons rfl (fun K hK => ?_) ?_
      · go_simp
        refine hK _ _ ?_
        clear hK K
        refine wpAnyIn_ready (rs := [0, 3]) (by kernel_rfl) (by simp) ?_
        refine AllReadyIn.cons rfl (fun K hK => ?_) ?_
        · go_simp
          refine hK _ _ ?_
          clear hK K
          refine wpAnyIn_ready (rs := [3]) (by kernel_rfl) (by simp) ?_
          refine AllReadyIn.cons rfl (fun K hK => ?_) ?_
          · go_simp
            refine hK _ _ ?_
            clear hK K
            refine wpAnyIn_ready (rs := [4]) (by kernel_rfl) (by simp) ?_
            refine AllReadyIn.cons rfl (fun K hK => ?_) ?_
            · go_simp
              refine hK _ _ ?_
              clear hK K
              refine wpAnyIn_ready (rs := [5]) (by kernel_rfl) (by simp) ?_
              refine AllReadyIn.cons rfl (fun K hK => ?_) ?_
              · go_simp
                refine hK _ _ ?_
                clear hK K
                refine wpAnyIn_ready (rs := [6]) (by kernel_rfl) (by simp) ?_
                refine AllReadyIn.cons rfl (fun K hK => ?_) ?_
                · refine stepIn_append rfl _ _ _ rfl _ _ _ _ (by rfl) (by rfl) hrun ?_
                  refine hK _ _ ?_
                  clear hK K
                  simp only [Act.put, List.setIfInBounds_toArray]
                  refine wpAnyIn_ready (rs := [7]) (by kernel_rfl) (by simp) ?_
                  refine AllReadyIn.cons rfl (fun K hK => ?_) ?_
                  · go_simp
                    refine hK _ _ ?_
                    clear hK K
                    refine wpAnyIn_done (by kernel_rfl) ?_ _
                    exact HN.out
                  exact AllReadyIn.nil
                exact AllReadyIn.nil
              exact AllReadyIn.nil
            exact AllReadyIn.nil
          exact AllReadyIn.nil
        refine AllReadyIn.cons rfl (fun K hK => ?_) ?_
        · go_simp
          refine hK _ _ ?_
          clear hK K
          refine wpAnyIn_ready (rs := [0, 4]) (by kernel_rfl) (by simp) ?_
          refine AllReadyIn.cons rfl (fun K hK => ?_) ?_
          · go_simp
            refine hK _ _ ?_
            clear hK K
            refine wpAnyIn_ready (rs := [4]) (by kernel_rfl) (by simp) ?_
            refine AllReadyIn.cons rfl (fun K hK => ?_) ?_
            · go_simp
              refine hK _ _ ?_
              clear hK K
              refine wpAnyIn_ready (rs := [5]) (by kernel_rfl) (by simp) ?_
              refine AllReadyIn.cons rfl (fun K hK => ?_) ?_
              · go_simp
                refine hK _ _ ?_
                clear hK K
                refine wpAnyIn_ready (rs := [6]) (by kernel_rfl) (by simp) ?_
                refine AllReadyIn.cons rfl (fun K hK => ?_) ?_
                · refine stepIn_append rfl _ _ _ rfl _ _ _ _ (by rfl) (by rfl) hrun ?_
                  refine hK _ _ ?_
                  clear hK K
                  simp only [Act.put, List.setIfInBounds_toArray]
                  refine wpAnyIn_ready (rs := [7]) (by kernel_rfl) (by simp) ?_
                  refine AllReadyIn.cons rfl (fun K hK => ?_) ?_
                  · go_simp
                    refine hK _ _ ?_
                    clear hK K
                    refine wpAnyIn_done (by kernel_rfl) ?_ _
                    exact HN.out
                  exact AllReadyIn.nil
                exact AllReadyIn.nil
              exact AllReadyIn.nil
            exact AllReadyIn.nil
          refine AllReadyIn.cons rfl (fun K hK => ?_) ?_
          · go_simp
            refine hK _ _ ?_
            clear hK K
            refine wpAnyIn_ready (rs := [0, 5]) (by kernel_rfl) (by simp) ?_
            refine AllReadyIn.cons rfl (fun K hK => ?_) ?_
            · go_simp
              refine hK _ _ ?_
              clear hK K
              refine wpAnyIn_ready (rs := [5]) (by kernel_rfl) (by simp) ?_
              refine AllReadyIn.cons rfl (fun K hK => ?_) ?_
              · go_simp
                refine hK _ _ ?_
                clear hK K
                refine wpAnyIn_ready (rs := [6]) (by kernel_rfl) (by simp) ?_
                refine AllReadyIn.cons rfl (fun K hK => ?_) ?_
                · refine stepIn_append rfl _ _ _ rfl _ _ _ _ (by rfl) (by rfl) hrun ?_
                  refine hK _ _ ?_
                  clear hK K
                  simp only [Act.put, List.setIfInBounds_toArray]
                  refine wpAnyIn_ready (rs := [7]) (by kernel_rfl) (by simp) ?_
                  refine AllReadyIn.cons rfl (fun K hK => ?_) ?_
                  · go_simp
                    refine hK _ _ ?_
                    clear hK K
                    refine wpAnyIn_done (by kernel_rfl) ?_ _
                    exact HN.out
                  exact AllReadyIn.nil
                exact AllReadyIn.nil
              exact AllReadyIn.nil
            refine AllReadyIn.cons rfl (fun K hK => ?_) ?_
            · go_simp
              refine hK _ _ ?_
              clear hK K
              refine wpAnyIn_ready (rs := [0]) (by kernel_rfl) (by simp) ?_
              refine AllReadyIn.cons rfl (fun K hK => ?_) ?_
              · go_simp
                refine hK _ _ ?_
                clear hK K
                refine wpAnyIn_ready (rs := [6]) (by kernel_rfl) (by simp) ?_
                refine AllReadyIn.cons rfl (fun K hK => ?_) ?_
                · refine stepIn_append rfl _ _ _ rfl _ _ _ _ (by rfl) (by rfl) hrun ?_
                  refine hK _ _ ?_
                  clear hK K
                  simp only [Act.put, List.setIfInBounds_toArray]
                  refine wpAnyIn_ready (rs := [7]) (by kernel_rfl) (by simp) ?_
                  refine AllReadyIn.cons rfl (fun K hK => ?_) ?_
                  · go_simp
                    refine hK _ _ ?_
                    clear hK K
                    refine wpAnyIn_done (by kernel_rfl) ?_ _
                    exact HN.out
                  exact AllReadyIn.nil
                exact AllReadyIn.nil
              exact AllReadyIn.nil
            exact AllReadyIn.nil
          exact AllReadyIn.nil
        exact AllReadyIn.nil
      exact AllReadyIn.nil
    exact AllReadyIn.nil
  case done =>
    rintro D W hD ⟨ow, hT⟩ hK
    rw [List.take_length] at hT
    rw [hsz] at hD
    have h2 := hT.grown hv (grownBy_putObj' W D (.deferred none)) (fun r e => by cases e; exact ⟨hD, _, hK, rfl⟩)
    have k0 := hT.cells.1.1
    obtain ⟨oa, oc, hof, _⟩ := ownsRow_form hT.nums
    subst hof
    have FIN : Hid (NumsAt (fun k => w.heap.size ≤ k ∧ k < (W.putObj D (.deferred none)).heap.size) (W.putObj D (.deferred none)) (.slice oa (bedsWb L).length oc) (bedsWb L) ∧ Below w.heap.size w (W.putObj D (.deferred none))) :=
      ⟨nums_own15 rfl h2.nums (fun k hk => ⟨by have := h2.ge k hk; omega, (World.ownsRow.lt h2.nums k hk).2⟩), h2.chg.below (Nat.le_refl _) (fun _ f => f.elim)⟩
    clear hT h2 ST hit hown
    generalize (bedsWb L).length = n at *
    gi_wp2
    refine ⟨by simp, .inl ⟨_, _, rfl, run_takeDeferred hK, ?_⟩⟩
    exact ⟨_, results_tmp rfl _ _ _, .slice oa n oc, rfl, FIN.out⟩

theorem wbeds_any (b : Nat) (S : Nat → Prop) (L : List Wb) (w : World) (h : WS b L S w) :
    Calls Try.prog 16 #[.pointer (some ⟨b, 0, none⟩)] w fun e w' => ∃ v', e = .returned v' ∧ NumsAt (fun k => w.heap.size ≤ k ∧ k < w'.heap.size) w' v' (bedsWb L) ∧ Below w.heap.size w w' := by
  obtain ⟨v, h⟩ := h
  have hf := h.ok.few
  obtain ⟨ao, c, rfl, hz⟩ := ownsRow_form h.own
  obtain ⟨g, hg⟩ : ∃ g, 0 < L.length → ao = some ⟨g, 0, none⟩ := by
    rcases hz with q | ⟨g, q⟩
    · exact ⟨0, fun r => by omega⟩
    · exact ⟨g, fun _ => q⟩
  refine beds_core (some ⟨b, 0, none⟩) g (.slice ao L.length c) L w (by omega) (fun k hk => h.lt k (h.inV k hk)) h.own (fun q => ⟨c, by rw [hg q]⟩) (fun l J W hJI hY h0 => all1_told 3 (by decide) b (w.heap.size + 1) g L.length c ao (by omega) hg (BdI w (some ⟨b, 0, none⟩) (.slice ao L.length c) L) (fun c W ⟨ow, hT⟩ => ⟨hT.cells.2, ?_⟩) l J W hJI hY h0)
  exact cell_chg hT.chg h.cells.1 id

theorem wbeds_nil (w : World) :
    Calls Try.prog 16 #[.pointer none] w fun e w' => ∃ v', e = .returned v' ∧ NumsAt (fun k => w.heap.size ≤ k ∧ k < w'.heap.size) w' v' [] ∧ Below w.heap.size w w' :=
  beds_core none 0 (.slice none 0 0) [] w (by simp) (fun k hk => by cases hk) (own_noneR _ _ _) (fun q => absurd q (by simp)) (fun l J W hJI _ h0 => all1_told_nil 3 (w.heap.size + 1) (BdI w none (.slice none 0 0) []) (fun c W ⟨_, hT⟩ => hT.cells.2) l J W hJI h0)

end Go.Proofs.Ytngfgahdiobcmaa
