/- The statement RoamOrder: transmitters are listed in the order in which they came. -/
import Derived.Test.YtohedeeajcdjcabDoorRoAlive
import Derived.Test.YtohedeeajcdjcabDoorRoArg
import Derived.Test.YtohedeeajcdjcabDoorRoFg
import Derived.Test.YtohedeeajcdjcabDoorFrmLaid
namespace Go.Proofs.YtohedeeajcdjcabDoor
open Go.ChangeShapes Go.WideShapes Go.ChangeAt Go.RowKit Go.Joins
open Bt

namespace LRoamOrder

/-- Who came, one more. -/
theorem came (x : Tab) (tx ant rssi now : Int) : (hearX x tx ant rssi now).l.map (fun s => s.tx) = x.l.map (fun s => s.tx) ++ (if hearT x tx ant rssi = 1 then [tx] else []) := by
  unfold hearX hearT
  split
  · cases hq : findT x.l tx with
    | some i =>
      obtain ⟨hi, ht, _⟩ := findT_some hq
      have ho : hearOut x.margin (x.l.getD i ⟨0, 0, 0, 0⟩) ant rssi ≠ 1 := by unfold hearOut; split <;> decide
      simp only [if_neg ho, List.append_nil]
      refine set_tx _ _ _ (fun _ => ?_)
      rw [(hearS_tx _ _ _ _ _).1]
      simp [hi]
    | none =>
      by_cases q : x.l.length < x.room
      · simp [if_pos q]
      · simp [if_neg q]
  · simp

/-- The list of who came has grown. -/
theorem more {B n cz gz : Nat} {cv : Value} {w0 w W wb : World} {b : Nat} {x : Tab} (h : TL (fun j => j < B ∨ cv.ownBlock = some j) w0 w b x) (hW : Below w.heap.size w W) (hgrow : W.grownBy wb cv.ownBlock) (hat : cv.ownBlock = some gz ∨ gz = W.heap.size) (hgl : gz < wb.heap.size) :
    TL (fun j => j < B ∨ (Value.slice (some ⟨gz, 0, none⟩) n cz).ownBlock = some j) wb wb b x := by
  obtain ⟨S, h1, h2, h3, h4⟩ := h
  have C : Chg (fun k => cv.ownBlock = some k) w wb := ((below_chg hW).mono (fun _ q _ => q.elim)).grown hgrow (fun q hq _ => hq)
  refine ⟨S, h1.kept C (fun k hk q => h2 k hk (.inr q)), fun k hk q => ?_, fun k q => ?_, Chg.refl _ _⟩
  · rcases q with q | q
    · exact h2 k hk (.inl q)
    · obtain rfl : gz = k := by simpa [Value.ownBlock] using q
      rcases hat with r | r
      · exact h2 gz hk (.inr r)
      · have := h1.lt gz hk
        have := hW.size
        omega
  · rcases q with q | q
    · have := h3 k (.inl q)
      have := h4.size
      have := C.size
      omega
    · obtain rfl : gz = k := by simpa [Value.ownBlock] using q
      exact hgl

set_option maxRecDepth 100000 in
theorem walk_nil (r a m : Int) (ao : Option Addr) (len cap : Nat) (w : World) (hW : Wid w) (h : mayR r a m = false) :
    Calls Tryd.prog 3 #[Rm r a m, .slice ao len cap] w fun e w' => e = .returned (.bool true) ∧ Below w.heap.size w w' := by
  have NO := Hid.intro (fun w => onew_no r a m h w)
  have B0 := Hid.intro ((Below.refl _ w).alloc (Nat.le_refl _) (.cells #[.int .i64 r, .int .i64 a, .int .i64 m] 23))
  have b0 := Hid.intro (heap_alloc_new w (.cells #[.int .i64 r, .int .i64 a, .int .i64 m] 23))
  have W0 := Hid.intro (hW.below B0.out)
  clear h hW
  go_enter Tryd.func3, Tryd.ntmps3
  go_wp2_with fail
  refine (alive9_any _ W0.out).mono ?_
  rintro e w1 ⟨rfl, B1⟩
  have b1 := (B1.block _ (lt_of_heap b0.out)).trans b0.out
  have B1H := Hid.intro (B0.out.trans (B1.mono B0.out.size))
  have c0 : w1.cell? ⟨w.heap.size, 0, none⟩ = some (.int .i64 r) := by rw [cell_of_row _ _ 0 _ _ _ b1]; rfl
  have c1 : w1.cell? ⟨w.heap.size, 1, none⟩ = some (.int .i64 a) := by rw [cell_of_row _ _ 1 _ _ _ b1]; rfl
  have c2 : w1.cell? ⟨w.heap.size, 2, none⟩ = some (.int .i64 m) := by rw [cell_of_row _ _ 2 _ _ _ b1]; rfl
  clear b1 B1 B0 W0 b0
  go_wp2_with fail
  refine (NO.out w1).mono ?_
  rintro e w2 ⟨rfl, B2⟩
  have B2H := Hid.intro (B1H.out.trans (B2.mono B1H.out.size))
  clear B2 B1H NO c0 c1 c2
  go_wp2
  go_ret
  exact ⟨rfl, B2H.out⟩

set_option maxRecDepth 100000 in
set_option maxHeartbeats 800000 in
theorem walk_near (r a m : Nat) (ao : Option Addr) (cap : Nat) (bs : List Nat) (hmx : bs.length ≤ maxLen) (hY : ∀ y ∈ bs, y < 256) (w : World) (hr : Reads w ao bs) (hW : Wid w) (h : mayR r a m = true) :
    Calls Tryd.prog 3 #[Rm r a m, .slice ao bs.length cap] w fun e w' => e = .returned (.bool true) ∧ Below w.heap.size w w' := by
  have NW := Hid.intro (fun w => onew_yes r a m h w)
  have hb := mayR_true h
  have B0 := Hid.intro ((Below.refl _ w).alloc (Nat.le_refl _) (.cells #[.int .i64 (r : Int), .int .i64 (a : Int), .int .i64 (m : Int)] 23))
  have b0 := Hid.intro (heap_alloc_new w (.cells #[.int .i64 (r : Int), .int .i64 (a : Int), .int .i64 (m : Int)] 23))
  have W0 := Hid.intro (hW.below B0.out)
  have hsz := World.size_alloc w (.cells #[.int .i64 (r : Int), .int .i64 (a : Int), .int .i64 (m : Int)] 23)
  have RD := Hid.intro hr
  have HY := Hid.intro hY
  obtain ⟨LL, hLL⟩ : ∃ LL, LL = bs.length := ⟨_, rfl⟩
  have HLL := Hid.intro hLL
  rw [← hLL] at hmx ⊢
  clear h hW hr hY hLL
  go_enter Tryd.func3, Tryd.ntmps3
  go_wp2_with fail
  refine (alive9_any _ W0.out).mono ?_
  rintro e w1 ⟨rfl, B1⟩
  have b1 := (B1.block _ (lt_of_heap b0.out)).trans b0.out
  have W1 := Hid.intro (W0.out.below B1)
  have B1H := Hid.intro (B0.out.trans (B1.mono B0.out.size))
  have S1 : Hid (w.heap.size < w1.heap.size) := by have := B1.size; show w.heap.size < w1.heap.size; omega
  have c0 : w1.cell? ⟨w.heap.size, 0, none⟩ = some (.int .i64 (r : Int)) := by rw [cell_of_row _ _ 0 _ _ _ b1]; rfl
  have c1 : w1.cell? ⟨w.heap.size, 1, none⟩ = some (.int .i64 (a : Int)) := by rw [cell_of_row _ _ 1 _ _ _ b1]; rfl
  have c2 : w1.cell? ⟨w.heap.size, 2, none⟩ = some (.int .i64 (m : Int)) := by rw [cell_of_row _ _ 2 _ _ _ b1]; rfl
  clear b1 B1 B0 W0 b0 hsz
  go_wp2_with fail
  refine (NW.out w1).mono ?_
  rintro e w2 ⟨b, F, rfl, hS, hF, B2⟩
  have L2 := Hid.intro (tl_new hS hF B2)
  have W2 := Hid.intro (W1.out.below B2)
  have Z2 : Hid ((fun k => k < w1.heap.size) 0) := by obtain ⟨t, fr, q⟩ := W1.out; exact lt_of_heap q
  have BW2 := Hid.intro (B1H.out.trans (B2.mono B1H.out.size))
  have RD1 := Hid.intro (RD.out.below B1H.out)
  have WW1 := Hid.intro W1.out
  have B12 := Hid.intro (B2.mono (Nat.le_refl _))
  clear hS hF B2 NW c0 c1 c2 W1 RD
  by_cases hbig : 80 < LL
  · have hbig' : (80 : Int) < (LL : Int) := by omega
    go_wp2
    go_ret
    exact ⟨rfl, BW2.out⟩
  have hbig' : ¬ (80 : Int) < (LL : Int) := by omega
  go_wp2_with fail
  go_loopw [6, 7] (fun cv i wr => ∃ (k : Nat) (x : Tab), k ≤ LL ∧ i = .int .i64 k ∧ wr.ownsRow 0 3 1 cv x.l.length ((x.l.map (fun s => s.tx)).map N64) ∧ (∀ j, cv.ownBlock = some j → w1.heap.size ≤ j) ∧ TL (fun j => j < w1.heap.size ∨ cv.ownBlock = some j) wr wr b x ∧ Below w1.heap.size w1 wr) (fun _ i _ => LL - (intOf i).toNat)
  case atStart => exact ⟨0, _, by omega, rfl, World.ownsRow_nil _ _ _ _, fun j hj => by simp [Value.ownBlock] at hj, L2.out.here.less (fun k hk => hk.elim id (fun q => by simp [Value.ownBlock] at q)), B12.out⟩
  case round =>
    obtain ⟨k, x, hk, rfl, hO, hnew, hL, hB⟩ := hrel
    have OH := Hid.intro hO
    have NH := Hid.intro hnew
    have HL := Hid.intro hL
    have BH := Hid.intro hB
    have hlx : x.l.length ≤ 8 := by have := hL.ok.few; have := (mayR_true hL.ok.may).2.1; omega
    obtain ⟨ca, cc, hcv, hcf⟩ := ownsRow_form hO
    obtain ⟨n, hn⟩ : ∃ n, n = x.l.length := ⟨_, rfl⟩
    rw [← hn] at hcv hlx hcf
    subst hcv
    have HN := Hid.intro hn
    clear hn
    by_cases hlt : k < LL
    · have k0 : (0 : Int) ≤ (k : Int) := by omega
      have k1 : (k : Int) < (LL : Int) := by omega
      have hkb : k < bs.length := by rw [← HLL.out]; exact hlt
      obtain ⟨bb, off, rfl, hcc⟩ := reads_at RD1.out (by omega)
      have cb1 := hcc k hkb
      have hy : bs[k] < 256 := HY.out _ (List.getElem_mem hkb)
      generalize bs[k] = y at cb1 hy
      have cb := below_cell hB cb1
      have hbb : bb < w1.heap.size := cell_lt cb1
      have T1 := tlhear (y : Int) ((y % 8 : Nat) : Int) ((y % 128 : Nat) : Int) 5 (by omega) (hL.below (Below.refl _ wr).drew) ((WW1.out.below hB).below (Below.refl _ wr).drew)
      have CM := Hid.intro (came x (y : Int) ((y % 8 : Nat) : Int) ((y % 128 : Nat) : Int) 5)
      have ym : (y : Int) % 128 = ((y % 128 : Nat) : Int) := by omega
      obtain ⟨z, hz⟩ : ∃ z : Nat, z = y % 128 := ⟨_, rfl⟩
      have hz2 : z < 128 := by omega
      have yz : IntKind.u8.wrap ((y : Int).tmod 128) = (z : Int) := by rw [hz, Int.tmod_eq_emod_of_nonneg (by omega), ym]; exact IntWalk.u8_in _ (by omega)
      have yz2 : (y : Int) % 128 = (z : Int) := by rw [hz]; exact ym
      have ym8 : (y : Int) % 8 = ((y % 8 : Nat) : Int) := by omega
      obtain ⟨q, hq⟩ : ∃ q : Nat, q = y % 8 := ⟨_, rfl⟩
      have hq2 : q < 8 := by omega
      have yq : IntKind.u8.wrap ((y : Int).tmod 8) = (q : Int) := by rw [hq, Int.tmod_eq_emod_of_nonneg (by omega), ym8]; exact IntWalk.u8_in _ (by omega)
      have yq2 : (y : Int) % 8 = (q : Int) := by rw [hq]; exact ym8
      have wy : IntKind.i64.wrap (y : Int) = (y : Int) := IntWalk.i64_in _ (by omega)
      have wz : IntKind.i64.wrap ((y : Int).tmod 128) = (z : Int) := by rw [hz, Int.tmod_eq_emod_of_nonneg (by omega), ym]; exact IntWalk.i64_in _ (by omega)
      have wq : IntKind.i64.wrap ((y : Int).tmod 8) = (q : Int) := by rw [hq, Int.tmod_eq_emod_of_nonneg (by omega), ym8]; exact IntWalk.i64_in _ (by omega)
      rw [← hz, ← hq] at T1 CM
      obtain ⟨ou, hou⟩ : ∃ ou, ou = hearT x (y : Int) (q : Int) (z : Int) := ⟨_, rfl⟩
      rw [← hou] at T1 CM
      obtain ⟨x', hx'⟩ : ∃ x', x' = hearX x (y : Int) (q : Int) (z : Int) 5 := ⟨_, rfl⟩
      rw [← hx'] at T1 CM
      have T1H := Hid.intro T1
      clear T1 hL hB hO hnew ym ym8 hz hq hou hx' cb1 hcc
      go_wp2_with fail
      go_region_held3 (fun w' => w'.cell? ⟨bb, off + k, none⟩ = some (.int .u8 (y : Int))) (first | exact E5 | go_keep)
        (first | (go_at_call 6; refine T1H.out.mono ?_; rintro e w5 ⟨rfl, L5⟩; have B5 : Below w1.heap.size wr w5 := L5.out BH.out.size (fun k hk => .inl hk); have E5 : w5.cell? ⟨bb, off + k, none⟩ = some (.int .u8 (y : Int)) := L5.cell cb (.inl hbb)) | fail)
      all_goals
        have O5 := ownsRow_keep OH.out (fun j hj => L5.block (.inr hj))
        have B15 := BH.out.trans B5
        have L5H := Hid.intro L5
        clear T1H cb B5 yz yz2 yq yq2
        by_cases eo : ou = 1
        · subst eo
          have e1 : x'.l.map (fun s => s.tx) = x.l.map (fun s => s.tx) ++ [(y : Int)] := by rw [CM.out]; rfl
          have e2 : x'.l.length = n + 1 := by have := congrArg List.length e1; simpa [← HN.out] using this
          have BN := (Below.refl _ w5).alloc (Nat.le_refl _) (.cells #[.int .i64 (y : Int)] 3)
          have FIN : Hid (∀ (gz cz : Nat) (wb : World), wb.ownsRow 0 3 1 (.slice (some ⟨gz, 0, none⟩) (n + 1) cz) (n + 1) ((x.l.map (fun s => s.tx)).map N64 ++ [.int .i64 (y : Int)]) → (w5.alloc (.cells #[.int .i64 (y : Int)] 3)).grownBy wb (Value.slice ca n cc).ownBlock → ((Value.slice ca n cc).ownBlock = some gz ∨ gz = (w5.alloc (.cells #[.int .i64 (y : Int)] 3)).heap.size) → gz < wb.heap.size →
              wb.ownsRow 0 3 1 (.slice (some ⟨gz, 0, none⟩) (n + 1) cz) x'.l.length ((x'.l.map (fun s => s.tx)).map N64) ∧ (∀ j, (Value.slice (some ⟨gz, 0, none⟩) (n + 1) cz).ownBlock = some j → w1.heap.size ≤ j) ∧ TL (fun j => j < w1.heap.size ∨ (Value.slice (some ⟨gz, 0, none⟩) (n + 1) cz).ownBlock = some j) wb wb b x' ∧ Below w1.heap.size w1 wb) := fun gz cz wb hown hgrow hat hgl => by
            have hs5 := B15.size
            have hsN := BN.size
            refine ⟨?_, fun j hj => ?_, more L5H.out BN hgrow hat hgl, ?_⟩
            · rw [e1, e2, List.map_append]
              exact hown
            · obtain rfl : gz = j := by simpa [Value.ownBlock] using hj
              rcases hat with q | q
              · exact NH.out gz q
              · omega
            · have C : Chg (fun k => (Value.slice ca n cc).ownBlock = some k) w5 wb := ((below_chg BN).mono (fun _ q _ => q.elim)).grown hgrow (fun q hq _ => hq)
              exact B15.trans (C.below hs5 (fun k hk => NH.out k hk))
          have ON := Hid.intro (O5.alloc (.cells #[.int .i64 (y : Int)] 3))
          have GR := Hid.intro (heap_alloc_new w5 (.cells #[.int .i64 (y : Int)] 3))
          rw [← HN.out] at ON
          obtain ⟨iI, hiI, hzI0, hzI1, hzI2⟩ := info_parts info_int
          generalize ((x.l.map (fun s => s.tx)).map N64) = gl at *
          clear e1 e2 BN O5 B15 CM
          go_wp2_with (refine wpList_append_lies _ (by rfl) _ _ _ (by rfl) 0 3 iI (.int .i64 0) 1 8 Tryd.underlying28 hiI hzI0 hzI1 hzI2 (by rfl) (by decide) (.slice ca n cc) n gl (by rfl) ON.out ⟨w5.heap.size, 0, none⟩ 1 1 [.int .i64 (y : Int)] (by rfl) (by rfl) (World.news_of_block (cs := #[.int .i64 (y : Int)]) GR.out) (by simp [Value.oneCell']) (by decide) (by unfold maxLen; omega) (by omega) (Nat.zero_le _) (w5.heap.size + 1) (by simp) ?_; intro gz cz wb hown hgrow hat hltz; have FN := Hid.intro (FIN.out gz cz wb hown hgrow (by simpa using hat) hltz); clear hown hgrow hat hltz)
          exact ⟨⟨k + 1, x', by omega, by go_num, FN.out⟩, by simp [intOf]; omega⟩
        · have e1 : x'.l.map (fun s => s.tx) = x.l.map (fun s => s.tx) := by rw [CM.out, if_neg eo, List.append_nil]
          have e2 : x'.l.length = x.l.length := by have := congrArg List.length e1; simpa using this
          have FN : Hid (w5.ownsRow 0 3 1 (.slice ca n cc) x'.l.length ((x'.l.map (fun s => s.tx)).map N64) ∧ (∀ j, (Value.slice ca n cc).ownBlock = some j → w1.heap.size ≤ j) ∧ TL (fun j => j < w1.heap.size ∨ (Value.slice ca n cc).ownBlock = some j) w5 w5 b x' ∧ Below w1.heap.size w1 w5) := ⟨by rw [e1, e2]; exact O5, NH.out, L5H.out.here, B15⟩
          clear e1 e2 O5 B15 CM
          go_wp2
          go_roundw
          case rel => exact ⟨k + 1, x', by omega, by go_num, FN.out⟩
          case measure => simp [intOf]; omega
    · obtain rfl : k = LL := by omega
      have k1 : ¬ (k : Int) < (k : Int) := by omega
      have T2 := Hid.intro (tllist hL)
      have NCELL : Hid (∀ g, ca = some ⟨g, 0, none⟩ → ∀ t, (ht : t < x.l.length) → wr.cell? ⟨g, t, none⟩ = some (.int .i64 x.l[t].tx)) := fun g hg t ht => by
        subst hg
        have q := OH.out
        rw [← HN.out] at q
        rw [q.cellAt t (by rw [HN.out]; omega)]
        simp [ht]
      clear hL hB hO hnew
      go_wp2_with fail
      refine T2.out.mono ?_
      rintro e w6 ⟨v6, rfl, s6, B6⟩
      have S6 := Hid.intro s6
      obtain ⟨a6, c6, e6, hc6⟩ := s6
      rw [← HN.out] at e6
      subst e6
      have HC6 := Hid.intro hc6
      have B16 := Hid.intro (BH.out.trans (B6.mono BH.out.size))
      have B6H := Hid.intro B6
      clear T2 hc6 B6
      go_wp2_with fail
      go_loopw [9] (fun i ws => ∃ t : Nat, t ≤ n ∧ i = .int .i64 t ∧ Below w6.heap.size w6 ws) (fun i _ => n - (intOf i).toNat)
      case atStart => exact ⟨0, by omega, rfl, Below.refl _ w6⟩
      case round =>
        obtain ⟨t, ht, rfl, hBt⟩ := hrel
        have BT := Hid.intro hBt
        by_cases htl : t < n
        · have htx : t < x.l.length := by rw [← HN.out]; exact htl
          obtain ⟨pb, po, rfl, _, hp⟩ := HC6.out (by omega)
          obtain ⟨g, rfl⟩ := hcf.resolve_left (by omega)
          have d0 := below_cell hBt (hp t htx).1
          have d1 := below_cell hBt (below_cell B6H.out (NCELL.out g rfl t htx))
          have t0 : (0 : Int) ≤ (t : Int) := by omega
          have t1 : (t : Int) < (n : Int) := by omega
          generalize x.l[t].tx = z at d0 d1
          clear hp hBt
          go_wp2_with fail
          go_region_held3 (fun w' => w'.cell? ⟨pb, po + t * 4, none⟩ = some (.int .i64 z) ∧ w'.cell? ⟨g, t, none⟩ = some (.int .i64 z)) (go_keep) (fail)
          all_goals
            go_wp2
            go_roundw
            case rel => exact ⟨t + 1, by omega, by go_num, BT.out.drew⟩
            case measure => simp [intOf]; omega
        · obtain rfl : t = n := by omega
          have t1 : ¬ (t : Int) < (t : Int) := by omega
          have FIN := Hid.intro (B1H.out.trans ((B16.out.mono B1H.out.size).trans (hBt.mono (Nat.le_trans B1H.out.size B16.out.size))))
          clear hBt
          go_wp2
          go_ret
          exact ⟨rfl, FIN.out⟩

theorem walk (r a m : Int) (ao : Option Addr) (len cap : Nat) (zs : List Int) (w : World) (_ : (Lit.int .i64 r).wf = true ∧ (Lit.int .i64 a).wf = true ∧ (Lit.int .i64 m).wf = true) (hz : IsRow .u8 w ao len cap zs) (hW : Wid w) :
    Calls Tryd.prog 3 #[Rm r a m, .slice ao len cap] w fun e w' => e = .returned (.bool true) ∧ Below w.heap.size w w' := by
  cases h : mayR r a m with
  | false => exact walk_nil r a m ao len cap w hW h
  | true =>
    have hb := mayR_true h
    have hmx := hz.len
    obtain ⟨bs, rfl, h1, h2⟩ := hz.bytes
    obtain ⟨R, rfl⟩ := Int.eq_ofNat_of_zero_le (show 0 ≤ r by omega)
    obtain ⟨A, rfl⟩ := Int.eq_ofNat_of_zero_le (show 0 ≤ a by omega)
    obtain ⟨Mg, rfl⟩ := Int.eq_ofNat_of_zero_le (show 0 ≤ m by omega)
    exact walk_near R A Mg ao cap bs hmx h1 w h2 hW h

set_option maxRecDepth 100000 in
theorem lifted (os : Os) (started : os.Started) (H : Type) (enc : TypeId × Value → H) :
    ReturnsInHanded {} Tryd.checked os 3 .any (fun w args => (Rows.roamOrderSpec.pre enc Tryd.prog Tryd.f3 [] false w args ∧ laidMetH Tryd.prog LW w) ∧ sizedMet enc Tryd.prog Tryd.f3 (OpenSpec.ofChange Rows.roamOrderSpec) false w args) (Rows.roamOrderSpec.post enc Tryd.prog Tryd.f3 false true false false) := by
  refine returnsInHanded_of_change_and (C := Tryd.checked) (X := fun w _ => laidMetH Tryd.prog LW w) (fun _ _ _ hh h => h.of_heap hh) own started (by kernel_rfl) Tryd.func3
    (ChangeSpec.witness_shaped (enc := enc) (C := Tryd.checked) (os := os) (X := fun w _ => laidMetH Tryd.prog LW w) false (World.doorLaid Tryd.prog 400 os) #[.agg #[.int .i64 0, .int .i64 0, .int .i64 0], .slice none 0 0] 8 rfl (World.shaped_of_RefB (by kernel_rfl) (by kernel_rfl)) (by kernel_rfl) (by kernel_rfl) (by kernel_rfl) (door_met os _)) ?_
  intro W base args ds gs before hval0 hW _ _ hL _
  have hval : ∀ (j : Nat) t v, Tryd.f3.params[j]? = some t → args[j]? = some v → Value.okWide Tryd.prog W .any base t v := hval0
  have hW' := hW
  obtain ⟨p, q, hA0, hV, rfl, hfz, hnd⟩ := hW
  have hA : DataW.TrodAll enc Tryd.prog W 0 (fun _ => true) true Tryd.f3.params.toList args.toList ds p := hA0
  rw [Tryd.params3] at hA hval
  obtain ⟨v0, vs0, d0, ds0, p0, q0, hargs, rfl, rfl, h0, r0⟩ := trodAll_cons hA
  obtain ⟨v1, vs1, d1, ds1, p1, q1, rfl, rfl, rfl, h1, r1⟩ := trodAll_cons r0
  obtain ⟨rfl, rfl, rfl⟩ := trodAll_nil r1
  obtain rfl : args = #[v0, v1] := by cases args; simp_all
  obtain ⟨rfl, rfl⟩ := trodVars_none hV
  have k0 := h0
  have lt0 : ∀ x ∈ p0, x.block < W.heap.size := by obtain ⟨m, hm⟩ := k0; exact DataW.trod_lt m _ _ _ hm
  obtain ⟨kc0, nc0, sc0, rfl, w0⟩ := open_roam (hval 0 23 v0 rfl rfl) h0
  obtain ⟨a1, len1, cap1, rfl⟩ := okWide_slice Tryd.underlying24 (hval 1 24 v1 rfl rfl)
  have k1 := h1
  have lt1 : ∀ x ∈ p1, x.block < W.heap.size := by obtain ⟨m, hm⟩ := k1; exact DataW.trod_lt m _ _ _ hm
  obtain ⟨z1, w1⟩ : ∃ zs, IsRow .u8 W a1 len1 cap1 zs := by
    obtain ⟨fuel, hf⟩ := h1
    rcases open_ints Tryd.underlying24 Tryd.underlying5 (by kernel_rfl) hf with ⟨hcs, _⟩ | ⟨x, l, c, zs, hcs, _, hl, hm, hz, _, hcell, hwz⟩
    · simp [Value.cells] at hcs
      obtain ⟨rfl, rfl, rfl⟩ := hcs
      exact ⟨[], .inl ⟨rfl, rfl, rfl, rfl⟩⟩
    · simp [Value.cells] at hcs
      obtain ⟨rfl, rfl, rfl⟩ := hcs
      exact ⟨zs, .inr ⟨_, rfl, hl, hm, by simpa using hz, hcell, hwz⟩⟩
  clear hA0 hval0
  refine (walk kc0 nc0 sc0 a1 len1 cap1 z1 W w0 w1 (laid_fact hL)).mono fun e W' ⟨he, bel⟩ => ?_
  subst he
  exact ⟨_, rfl, _, _, _, [], _, [], hW', trodAll_mk1 (shut_bool Tryd.underlying4 _), (trodAll_cons_mk (Below.trod laidOut (by kernel_rfl) (of_decide_eq_true (by kernel_rfl)) k0 bel lt0) (trodAll_cons_mk (Below.trod laidOut (by kernel_rfl) (of_decide_eq_true (by kernel_rfl)) k1 bel lt1) trodAll_mk0)), rfl, bel.frame _, fun h => by cases h⟩

theorem over : Rows.roamOrderRow.holds Tryd.pinned (OpenSpec.ofChange Rows.roamOrderSpec) :=
  OpenClaim.holds_of_wide 3 Tryd.f3 rfl rfl rfl rfl rfl rfl rfl ⟨rfl, rfl, rfl, rfl, rfl⟩ rfl rfl rfl rfl rfl (by kernel_rfl) Tryd.func3 (by kernel_rfl)
    (of_decide_eq_true (by kernel_rfl)) (by unfold Func.isWrapper; first | (rw [if_pos (by decide +kernel)]; kernel_rfl) | (rw [if_neg (by decide +kernel)]; exact ⟨rfl, rfl⟩))
    (fun os started H enc _ => lifted os started H enc)

end Go.Proofs.YtohedeeajcdjcabDoor.LRoamOrder

namespace Go.Proofs.YtohedeeajcdjcabDoor
theorem roamOrder_holds : Rows.RoamOrderCardSaid :=
  Claim7.holds_tied_plain_at .later [] [.data] true (true, "3d0c2578b7f721072d89b9a138493fab741f53e96393a9aecc7e94d6d33851b5") false
    LRoamOrder.over (fun _ h => by cases h) (by kernel_rfl) (fun _ h => by cases h) roamOrder_row_tie rfl ⟨rfl, rfl⟩ (by kernel_rfl) rfl
    (fun f fn hf hfn => by
      obtain rfl : f = 3 := Option.some.inj ((show Tryd.prog.funcNamed "gurney/gurneylaw09.RoamOrder" = some 3 by kernel_rfl).symm.trans hf) |>.symm
      obtain rfl : fn = Tryd.f3 := (Option.some.inj (Tryd.func3.symm.trans hfn)).symm
      exact ⟨by kernel_rfl, fun j t ht => by
        rw [Tryd.params3] at ht
        have hm : t ∈ [23, 24] := by simpa using Array.mem_of_getElem? ht
        have hall : ([23, 24].all fun u => !Tryd.prog.wantsStandIn u) = true := by kernel_rfl
        exact (show Tryd.prog.wantsStandIn t = false by simpa using List.all_eq_true.1 hall t hm)⟩)
    (by kernel_rfl)
#print axioms roamOrder_holds
end Go.Proofs.YtohedeeajcdjcabDoor
