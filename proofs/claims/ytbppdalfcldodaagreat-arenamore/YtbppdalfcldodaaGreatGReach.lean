/- The walk of the program's Reach. -/
import Derived.Test.YtbppdalfcldodaaGreatGReachM
import Derived.Laws.CopyOwn
import Derived.Deep.QuietTactic
namespace Go.Proofs.YtbppdalfcldodaaGreat.Gr
open Go.RowKit
set_option linter.unusedSimpArgs false
set_option linter.unusedVariables false

structure RInv (nxt : List (List Int)) (fr : Nat → Bool) (n : Nat) (F : Nat → Bool) : Prop where
  lt : ∀ v, F v = true → v < n
  rch : ∀ v, F v = true → Rch nxt fr n v
  fr : ∀ v, v < n → fr v = true → F v = true
structure LInv (n : Nat) (F : Nat → Bool) (L : List Int) (m : Nat) : Prop where
  len : L.length = m
  cnt : m = cnt n F
  mem : ∀ x ∈ L, ∃ v : Nat, x = (v : Int) ∧ F v = true
  all : ∀ v : Nat, F v = true → (v : Int) ∈ L
def Dn (nxt : List (List Int)) (F : Nat → Bool) (L : List Int) (i : Nat) : Prop := ∀ (j u : Nat) (r : List Int), j < i → L[j]? = some (u : Int) → nxt[u]? = some r → ∀ v : Nat, (v : Int) ∈ r → F v = true
section
variable {nxt : List (List Int)} {fr F : Nat → Bool} {n m i q u : Nat} {L r : List Int}
theorem RInv.put (h : RInv nxt fr n F) (hq : q < n) (hu : F u = true) (hr : nxt[u]? = some r) (hm : (q : Int) ∈ r) : RInv nxt fr n (upd F q) :=
  ⟨fun v hv => by
    rcases upd_or hv with rfl | hv
    · exact hq
    · exact h.lt v hv, fun v hv => by
    rcases upd_or hv with rfl | hv
    · exact .step (h.rch u hu) hr hm
    · exact h.rch v hv, fun v hv hf => upd_of (h.fr v hv hf)⟩
theorem LInv.put (h : LInv n F L m) (hq : q < n) (hf : F q = false) : LInv n (upd F q) (L ++ [(q : Int)]) (m + 1) :=
  ⟨by simp [h.len], by rw [cnt_upd n hq hf, ← h.cnt], fun x hx => by
    rcases List.mem_append.1 hx with hx | hx
    · obtain ⟨v, e, hv⟩ := h.mem x hx
      exact ⟨v, e, upd_of hv⟩
    · exact ⟨q, by simpa using hx, upd_same _ _⟩, fun v hv => by
    rcases upd_or hv with rfl | hv
    · simp
    · exact List.mem_append_left _ (h.all v hv)⟩
theorem Dn.put (h : Dn nxt F L i) (hi : i ≤ L.length) : Dn nxt (upd F q) (L ++ [(q : Int)]) i := fun j u r hj hl hr v hv => by
  rw [List.getElem?_append_left (by omega)] at hl
  exact upd_of (h j u r hj hl hr v hv)
theorem Dn.next (h : Dn nxt F L i) (hl : L[i]? = some (u : Int)) (hr : nxt[u]? = some r) (hd : ∀ v : Nat, (v : Int) ∈ r → F v = true) : Dn nxt F L (i + 1) := fun j u2 r2 hj hl2 hr2 v hv => by
  by_cases e : j = i
  · subst e
    rw [hl] at hl2
    injection hl2 with hl2
    have : u = u2 := by omega
    subst this
    rw [hr] at hr2
    injection hr2 with hr2
    subst hr2
    exact hd v hv
  · exact h j u2 r2 (by omega) hl2 hr2 v hv
theorem Dn.closed (h : Dn nxt F L m) (hL : LInv n F L m) : Closed nxt F := fun u r hu hr v hv => by
  obtain ⟨j, hj⟩ := List.getElem?_of_mem (hL.all u hu)
  exact h j u r (by rw [← hL.len]; exact (List.getElem?_eq_some_iff.1 hj).1) hj hr v hv
theorem LInv.le (h : LInv n F L m) : m ≤ n := by rw [h.cnt]; exact cnt_le _ _
theorem pick_congr {f f2 : Nat → Bool} : ∀ k, (∀ i, i < k → f i = f2 i) → pickTo f k = pickTo f2 k
  | 0, _ => rfl
  | k + 1, h => by rw [pickTo, pickTo, pick_congr k (fun i hi => h i (by omega)), h k (by omega)]
theorem inv_start (nxt : List (List Int)) (l : List Bool) (n : Nat) : RInv nxt (fun v => l.getD v false) n (fun i => decide (i < n) && l.getD i false) :=
  ⟨fun v hv => by simp at hv; exact hv.1, fun v hv => by
    rw [Bool.and_eq_true] at hv
    exact .base (of_decide_eq_true hv.1) hv.2, fun v hv hf => by
    rw [Bool.and_eq_true]
    exact ⟨decide_eq_true hv, hf⟩⟩
theorem linv_start (F : Nat → Bool) (n : Nat) (h : ∀ v, F v = true → v < n) : LInv n F (pickTo F n) (pickTo F n).length :=
  ⟨rfl, pick_len F n, fun x hx => by
    obtain ⟨i, h1, h2, h3⟩ := (pick_mem F n x).1 hx
    exact ⟨i, h2, h3⟩, fun v hv => (pick_mem F n _).2 ⟨v, h v hv, rfl, hv⟩⟩
end
theorem add_zero_at (b off j : Nat) : (⟨b, off, none⟩ : Addr).add j = ⟨b, off + j, none⟩ := by
  unfold Addr.add
  by_cases h : j = 0
  · simp [h]
  · simp [h]
theorem min_pos {a n m : Nat} (h0 : 0 < a) (h1 : a = Nat.min n m) : 0 < n := by
  have : a ≤ n := by rw [h1]; exact Nat.min_le_left _ _
  omega
theorem bools_one (l : List Bool) (n : Nat) : ∀ v ∈ (l.take n).map (fun x => Value.bool x), v.oneCell' = true := fun v hv => by
  obtain ⟨x, _, rfl⟩ := List.mem_map.1 hv
  rfl
theorem made_size (z : Value) (n : Nat) : (madeCells #[z] n).size = n := size_madeCells _ _
theorem copied_row {w : World} {b n : Nat} {l : List Bool} (h : w.heap[b]? = some (.cells (splice (madeCells #[.bool false] n).toList 0 ((l.take n).map fun x => .bool x)).toArray 4 (0, 0))) :
    w.rowIs b 4 n (boolV fun i => decide (i < n) && l.getD i false) := by
  refine ⟨_, h, ?_, fun i hi => ?_⟩
  · have : ((l.take n).map fun x => Value.bool x).length ≤ n := by simp; omega
    rw [List.size_toArray, length_splice _ _ _ (by rw [Array.length_toList (xs := madeCells #[Value.bool false] n), made_size]; simpa using this), Array.length_toList, made_size]
  · unfold splice boolV
    simp only [List.take_zero, List.nil_append, Nat.zero_add, List.length_map, List.length_take]
    rw [List.getElem?_toArray]
    by_cases hl : i < l.length
    · rw [List.getElem?_append_left (by simp; omega), List.getElem?_map, List.getElem?_take, if_pos hi, List.getElem?_eq_getElem hl]
      simp [hi, hl, List.getD]
    · rw [List.getElem?_append_right (by simp; omega), List.getElem?_drop]
      have e : l.getD i false = false := getD_out (by omega)
      rw [e]
      simp only [List.length_map, List.length_take, Array.getElem?_toList]
      rw [show min n l.length + (i - min n l.length) = i by omega]
      simp [madeCells, hi, Nat.mod_one]

set_option maxRecDepth 20000 in
set_option maxHeartbeats 1000000 in
theorem dreach_any (B : Nat) (OA NA : Option Addr) (on oc nn nc : Nat) (g : GT) (A : Option Addr) (n c : Nat) (l : List Bool) (w : World) (hB : B ≤ w.heap.size) (hg : RG w B ⟨OA, on, oc⟩ ⟨NA, nn, nc⟩ g) (hr : RB w B ⟨A, n, c⟩ l) :
    Calls Tryz.prog 26 #[.agg #[.slice OA on oc, .slice NA nn nc], .slice A n c] w (RowPost w (reachL g l)) := by
  have hbx : Below w.heap.size w (w.alloc (.cells #[.slice OA on oc, .slice NA nn nc] 35)) := (Below.refl _ _).alloc (Nat.le_refl _) _
  have Hg := hide (hg.below (hbx.mono hB))
  have Hr := hide (hr.below (hbx.mono hB))
  have hz0 : w.heap.size + 1 ≤ (w.alloc (.cells #[.slice OA on oc, .slice NA nn nc] 35)).heap.size := by simp
  have Hl1 := hide hg.own.len
  have Hbox := hide (box_new w OA NA on oc nn nc 35)
  obtain ⟨i0, hi0, hq0, hq1, hq2⟩ := info_parts info3
  have Hi0 := hide hi0; have Hq0 := hide hq0; have Hq1 := hide hq1; have Hq2 := hide hq2
  clear hg hr hi0 hq0 hq1 hq2
  go_enter Tryz.func26, Tryz.ntmps26
  go_wp2_with fail
  generalize w.alloc (.cells #[.slice OA on oc, .slice NA nn nc] 35) = w1 at *
  refine (may_any B OA NA on oc nn nc g w1 (by omega) Hg.out).mono ?_
  rintro e w2 ⟨rfl, hb2⟩
  have hz2 := hb2.size
  have hbw2 := hbx.trans (hb2.mono (by omega))
  have Hg2 := hide (Hg.out.below (hb2.mono (by omega)))
  have Hr2 := hide (Hr.out.below (hb2.mono (by omega)))
  obtain ⟨c0, c1⟩ := Hbox.out.below hb2 (by omega)
  simp only [SL.v] at c0 c1
  clear hb2 Hg Hr Hbox
  by_cases hm : mayG g = 0
  · have hm' : (mayG g != 0) = false := by simp [hm]
    obtain ⟨m1, m2, m3⟩ := may_facts hm
    have hl1 := Hg2.out.own.len
    have hl2 := Hg2.out.nxt.len
    simp only at hl1 hl2
    obtain rfl : nn = on := by omega
    have hon : nn ≤ 3000 := by omega
    have Hm := hide hm
    have HL1 : Hid (g.own.length = nn) := hide hl1
    have Hd : Hid (reachL g l = (List.range nn).map (reachAt g fun v => l.getD v false)) := hide (by unfold reachL; rw [if_pos hm, Hl1.out])
    clear hm m1 m2 m3 hl1 hl2
    have hmk := make_bools nn (by omega)
    have hb23 : Below w2.heap.size w2 (w2.alloc (.cells (madeCells #[.bool false] nn) 4)) := (Below.refl _ _).alloc (Nat.le_refl _) _
    have Hb23 := hide hb23
    have Hr3 := hide (Hr2.out.below (hb23.mono (by omega)))
    have hrn : n ≤ 2 ^ 63 - 1 := Nat.le_trans Hr2.out.2.1 Hr2.out.2.2.1
    have hnew : (w2.alloc (.cells (madeCells #[.bool false] nn) 4)).heap[w2.heap.size]? = some (.cells (madeCells #[.bool false] nn).toList.toArray 4 (0, 0)) := by rw [Array.toArray_toList]; exact heap_alloc_new w2 _
    have Hnew := hide hnew
    have hz4 : (w2.alloc (.cells (madeCells #[.bool false] nn) 4)).heap.size = w2.heap.size + 1 := by simp
    have Hz4 := hide hz4
    obtain ⟨cs, hcs⟩ : ∃ cs, cs = (l.take nn).map fun x => Value.bool x := ⟨_, rfl⟩
    have Hcs := hide hcs
    have Hcl : Hid (cs.length = Nat.min n nn) := hide (by rw [hcs]; have := Hr2.out.len; simp only at this; show _ = min n nn; rw [List.length_map, List.length_take, this]; omega)
    have Hpos : Hid (0 < cs.length → ∃ ad, A = some ad ∧ ∀ j v, cs[j]? = some v → (w2.alloc (.cells (madeCells #[.bool false] nn) 4)).cell? (ad.add j) = some v) := hide (fun h0 => by
      have h1 := Hcl.out
      obtain ⟨b, off, e, hbB, hcell⟩ := Hr3.out.2.2.2.1 (min_pos h0 h1)
      simp only at e
      refine ⟨_, e, fun j v hv => ?_⟩
      rw [Hcs.out, List.getElem?_map] at hv
      obtain ⟨x, hx, rfl⟩ := Option.map_eq_some_iff.1 hv
      rw [List.getElem?_take] at hx
      split at hx
      · rw [add_zero_at]
        exact hcell j x hx
      · cases hx)
    have Hfit : Hid (0 + cs.length ≤ (madeCells #[Value.bool false] nn).toList.length) := hide (by rw [Nat.zero_add, Hcl.out, Array.length_toList, made_size]; exact Nat.min_le_right _ _)
    have H1c : Hid (∀ v ∈ cs, v.oneCell' = true) := hide (by rw [hcs]; exact bools_one l nn)
    clear hnew hcs hb23 hz4
    go_wp2_with (refine wpList_copy_splice rfl (.tmp 17) (.tmp 18) 47 47 rfl 4 Tryz.underlying47 (by kernel_rfl) (some ⟨w2.heap.size, 0, none⟩) A nn nn n c (by rfl) (by rfl) w2.heap.size 0 (madeCells #[.bool false] nn).toList 4 Hnew.out cs Hcl.out (fun h0 => ⟨rfl, Hpos.out h0⟩) Hfit.out H1c.out w2.heap.size w2 Hb23.out (Nat.le_refl _) ?_; intro w4 hg4 hb4)
    have hrow4 := copied_row (by rw [← Hcs.out]; exact hg4.out)
    have Hfrow := hide hrow4
    have hz5 := hrow4.lt
    have Hb4 := hide hb4
    have Hinv0 := hide (inv_start g.nxt l nn)
    have Hlin0 := hide (linv_start (fun i => decide (i < nn) && l.getD i false) nn Hinv0.out.lt)
    have Hrb := hide (rb_of (l := (List.range nn).map fun i => decide (i < nn) && l.getD i false) hrow4 (by simp) (by unfold maxLen; omega) (fun i x hx => by
      rw [List.getElem?_map] at hx
      obtain ⟨j, hj, rfl⟩ := Option.map_eq_some_iff.1 hx
      obtain ⟨hl, e⟩ := List.getElem?_eq_some_iff.1 hj
      have : j = i := by rw [← e]; simp
      subst this; rfl))
    have Hpk : Hid (pickTo (fun i => ((List.range nn).map fun i => decide (i < nn) && l.getD i false).getD i false) nn = pickTo (fun i => decide (i < nn) && l.getD i false) nn) := hide (pick_congr nn (fun i hi => by simp [List.getD, hi]))
    clear hrow4 hmk hb4 hg4 Hnew Hcs Hcl Hpos
    go_wp2_with fail
    refine (listed_any w4.heap.size (some ⟨w2.heap.size, 0, none⟩) nn nn _ w4 (Nat.le_refl _) (by omega) Hrb.out).mono ?_
    rintro e w5 ⟨v5, rfl, hown5, hb5⟩
    rw [Hpk.out] at hown5
    obtain ⟨O5, c5, rfl⟩ := own_sl hown5
    have hz6 := hb5.size
    have hb45 := Hb4.out.trans (hb5.mono (by omega))
    have hrow5 := Hfrow.out.of_block (hb5.block _ hz5)
    have hbig : w2.heap.size + 1 ≤ w4.heap.size := hz5
    have Hown5 := hide hown5
    have Hrow5 := hide hrow5
    have Hb45 := hide hb45
    clear hown5 hrow5 hb45 Hb4 hb5 Hfrow Hrb Hpk
    generalize hF0 : (fun i => decide (i < nn) && l.getD i false) = F0 at *
    generalize hL0 : pickTo F0 nn = L0 at *
    clear hF0 hL0
    generalize hk0 : L0.length = k0 at *
    clear hk0
    go_wp2_with fail
    go_loopw [6, 7] (fun found ii wr => ∃ (F : Nat → Bool) (L : List Int) (m cc i : Nat) (O : Option Addr), found = .slice O m cc ∧ ii = .int .i64 i ∧ i ≤ m ∧ m ≤ nn ∧ Hid (RInv g.nxt (fun v => l.getD v false) nn F) ∧ Hid (LInv nn F L m) ∧ Hid (Dn g.nxt F L i) ∧ wr.rowIs w2.heap.size 4 nn (boolV F) ∧ wr.ownsRow w4.heap.size 3 1 (.slice O m cc) m (ints L) ∧ Below w2.heap.size w2 wr ∧ w4.heap.size ≤ wr.heap.size) (fun _ ii _ => nn - (intOf ii).toNat)
    case atStart => exact ⟨F0, L0, k0, c5, 0, O5, rfl, rfl, Nat.zero_le _, Hlin0.out.le, Hinv0, Hlin0, hide (fun j u r hj => by omega), Hrow5.out, Hown5.out, Hb45.out, hz6⟩
    case round =>
      obtain ⟨F, L, m, cc, i, O, rfl, rfl, him, hmn, Hinv, Hlin, Hdn, hrow, hown, hb, hz7⟩ := hrel
      have hzr := hb.size
      have Hrow := hide hrow
      have Hown := hide hown
      by_cases hlt : i < m
      · have hlt' : (i : Int) < (m : Int) := by omega
        have hi0' : (0 : Int) ≤ (i : Int) := by omega
        obtain ⟨bO, offO, u0, eO, hbO, hxO, hcO⟩ := (own_ri hown).at_ hlt
        subst eO
        obtain ⟨u, rfl, hFu⟩ := Hlin.out.mem u0 (List.mem_of_getElem? hxO)
        have hun := Hinv.out.lt u hFu
        have hun' : (u : Int) < (nn : Int) := by omega
        have hu0' : (0 : Int) ≤ (u : Int) := by omega
        obtain ⟨b2, off2, r, A2, n2, k2, rfl, hbB2, hrr, hc2w, hri⟩ := Hg2.out.nxt.at_ hun
        have hc2 := (hb.cell (p := ⟨b2, off2 + u, none⟩) (by show b2 < _; omega)).trans hc2w
        have e1 : wr.cell? ⟨w.heap.size, 1, none⟩ = some (.slice (some ⟨b2, off2, none⟩) nn nc) := (hb.cell (p := ⟨w.heap.size, 1, none⟩) (by show w.heap.size < _; omega)).trans c1
        have Hmr := hide (may_row Hm.out hrr)
        have hn2 : n2 ≤ 3000 := by have h1 := Hmr.out.2.1; have h2 := hri.len; simp only at h2; omega
        have Hri := hide hri
        have Hrr := hide hrr
        have HFu := hide hFu
        have HxO := hide hxO
        have hn2b : (n2 : Int) ≤ 3000 := by omega
        clear hri hrr hc2w hFu hxO hrow hown
        go_wp2_with fail
        go_quiet (fail)
        obtain ⟨wq, hwq⟩ : ∃ wq, wq = wr.drewN nq := ⟨_, rfl⟩
        have Hrowq : Hid (wq.rowIs w2.heap.size 4 nn (boolV F)) := hide (by rw [hwq]; exact Hrow.out)
        have Hownq : Hid (wq.ownsRow w4.heap.size 3 1 (.slice (some ⟨bO, offO, none⟩) m cc) m (ints L)) := hide (by rw [hwq]; exact Hown.out)
        have Hbq : Hid (Below w2.heap.size w2 wq) := hide (by rw [hwq]; exact ⟨hb.os, hb.tape, hb.output, hb.size, hb.block⟩)
        have hz8 : w4.heap.size ≤ wq.heap.size := by rw [hwq]; exact hz7
        rw [← hwq]
        clear hwq hc2 hcO e1 hb Hrow Hown
        go_wp2_with fail
        go_loopw [6, 37] (fun found jj wr => ∃ (F : Nat → Bool) (L : List Int) (m cc j : Nat) (O : Option Addr), found = .slice O m cc ∧ jj = .int .i64 j ∧ i < m ∧ m ≤ nn ∧ j ≤ n2 ∧ Hid (L[i]? = some (u : Int)) ∧ Hid (F u = true) ∧ Hid (∀ v : Nat, (v : Int) ∈ r.take j → F v = true) ∧ Hid (RInv g.nxt (fun v => l.getD v false) nn F) ∧ Hid (LInv nn F L m) ∧ Hid (Dn g.nxt F L i) ∧ wr.rowIs w2.heap.size 4 nn (boolV F) ∧ wr.ownsRow w4.heap.size 3 1 (.slice O m cc) m (ints L) ∧ Below w2.heap.size w2 wr ∧ w4.heap.size ≤ wr.heap.size) (fun _ jj _ => n2 - (intOf jj).toNat)
        case atStart => exact ⟨F, L, m, cc, 0, _, rfl, rfl, hlt, hmn, Nat.zero_le _, HxO, HFu, hide (fun v hv => by simp at hv), Hinv, Hlin, Hdn, Hrowq.out, Hownq.out, Hbq.out, hz8⟩
        case round =>
          clear Hrowq Hownq Hbq hz8 Hinv Hlin Hdn HFu HxO hlt hlt' hmn him
          obtain ⟨F, L, m, cc, j, O, rfl, rfl, hlt, hmn, hj, HxO, HFu, Htk, Hinv, Hlin, Hdn, hrow, hown, hb, hz7⟩ := hrel
          have hzr := hb.size
          have Hrow := hide hrow
          have Hown := hide hown
          by_cases hlt2 : j < n2
          · have hlt2' : (j : Int) < (n2 : Int) := by omega
            obtain ⟨b3, off3, x, rfl, hbB3, hx, hc3w⟩ := Hri.out.at_ hlt2
            have hc3 := (hb.cell (p := ⟨b3, off3 + j, none⟩) (by show b3 < _; omega)).trans hc3w
            have hxm := List.mem_of_getElem? hx
            obtain ⟨hx0, hx1⟩ := Hmr.out.2.2 x hxm
            obtain ⟨q, rfl⟩ := Int.eq_ofNat_of_zero_le hx0
            have hqn : q < nn := by have := HL1.out; omega
            have hqn' : (q : Int) < (nn : Int) := by omega
            have hq0' : (0 : Int) ≤ (q : Int) := by omega
            have Hxm := hide hxm
            have Htk2 : Hid (∀ F2 : Nat → Bool, (∀ v, F v = true → F2 v = true) → F2 q = true → ∀ v : Nat, (v : Int) ∈ r.take (j + 1) → F2 v = true) := hide (fun F2 h1 h2 v hv => by
              obtain ⟨hkl, e⟩ := List.getElem?_eq_some_iff.1 hx
              rw [List.take_succ_eq_append_getElem hkl, e, List.mem_append] at hv
              rcases hv with hv | hv
              · exact h1 v (Htk.out v hv)
              · have : v = q := by simp at hv; omega
                subst this; exact h2)
            have hcq : wr.cell? ⟨w2.heap.size, q, none⟩ = some (.bool (F q)) := hrow.cell hqn
            have hfz := hrow.frozen q
            clear hx hx0 hx1 hxm hc3w hrow hown
            cases hFq : F q
            · have Hput := hide (Hinv.out.put hqn HFu.out Hrr.out Hxm.out)
              have Hlp := hide (Hlin.out.put hqn hFq)
              have Hdp := hide (Hdn.out.put (q := q) (by rw [Hlin.out.len]; omega))
              have Hxp : Hid ((L ++ [(q : Int)])[i]? = some (u : Int)) := hide (by rw [List.getElem?_append_left (by rw [Hlin.out.len]; exact hlt)]; exact HxO.out)
              have Hfp : Hid (upd F q u = true) := hide (upd_of HFu.out)
              have Htp := hide (Htk2.out (upd F q) (fun v hv => upd_of hv) (upd_same F q))
              have Hmp : Hid (m + 1 ≤ nn) := hide Hlp.out.le
              have hm1 : m + 1 ≤ nn := Hmp.out
              rw [hFq] at hcq
              have Hrp := hide ((bool_upd Hrow.out (q := q)).alloc (.cells #[.int .i64 (q : Int)] 3))
              have Hbp := hide ((hb.setCell (p := ⟨w2.heap.size, q, none⟩) (Nat.le_refl _) (.bool true)).alloc (by simp [World.setCell]; omega) (.cells #[.int .i64 (q : Int)] 3))
              have Hop := hide ((ownsRow_setCell_below Hown.out (a := ⟨w2.heap.size, q, none⟩) (by show w2.heap.size < w4.heap.size; omega) (.bool true)).alloc (.cells #[.int .i64 (q : Int)] 3))
              have Hold := hide (ownsRow_setCell_below Hown.out (a := ⟨w2.heap.size, q, none⟩) (by show w2.heap.size < w4.heap.size; omega) (.bool true))
              have hs9 : (wr.setCell ⟨w2.heap.size, q, none⟩ (.bool true)).heap.size = wr.heap.size := by simp [World.setCell]
              have Hs9 := hide hs9
              have Hnw : Hid (((wr.setCell ⟨w2.heap.size, q, none⟩ (.bool true)).alloc (.cells #[.int .i64 (q : Int)] 3)).heap[wr.heap.size]? = some (.cells #[.int .i64 (q : Int)] 3 (0, 0))) := hide (by have := heap_alloc_new (wr.setCell ⟨w2.heap.size, q, none⟩ (.bool true)) (.cells #[.int .i64 (q : Int)] 3); rwa [hs9] at this)
              clear hFq hs9
              go_wp2_with (at_builtin; refine wpList_append_lies _ rfl _ _ _ rfl w4.heap.size 3 i0 _ 1 8 Tryz.underlying32 Hi0.out Hq0.out Hq1.out Hq2.out rfl (by omega) (.slice O m cc) m (ints L) rfl Hop.out ⟨wr.heap.size, 0, none⟩ 1 1 [.int .i64 (q : Int)] (by rfl) rfl (World.news_of_block (cs := #[.int .i64 (q : Int)]) (t := 3) (fr := (0, 0)) Hnw.out) (by simp [Value.oneCell']) (by omega) (by unfold maxLen; omega) (by omega) (by simp [World.setCell]; omega) _ rfl ?_; intro gg cap w7 hown7 hgrow hat hlt7)
              have Hrow7 := hide (Hrp.out.of_block (hgrow.block w2.heap.size Hrp.out.lt (fun e => by have := (Hold.out.lt _ e.symm).1; omega)))
              have Hb7 := hide (Hbp.out.grown hgrow (by have := Hs9.out; simp; omega) (fun z hz => by have := (Hold.out.lt z hz).1; omega))
              have Hown7 : Hid (w7.ownsRow w4.heap.size 3 1 (.slice (some ⟨gg, 0, none⟩) (m + 1) cap) (m + 1) (ints (L ++ [(q : Int)]))) := hide (by rw [ints, List.map_append]; exact hown7)
              have hz9 : w4.heap.size ≤ w7.heap.size := by have h1 := hgrow.size; have h2 := Hs9.out; simp at h1; omega
              clear hown7 hgrow hat hlt7 hcq hfz
              go_wp2_with fail
              go_roundw
              case rel => exact ⟨upd F q, L ++ [(q : Int)], m + 1, cap, j + 1, some ⟨gg, 0, none⟩, rfl, by go_num, by omega, Hmp.out, by omega, Hxp, Hfp, Htp, Hput, Hlp, Hdp, Hrow7.out, Hown7.out, Hb7.out, hz9⟩
              case measure => simp [intOf]; omega
            · have Htp := hide (Htk2.out F (fun v hv => hv) hFq)
              rw [hFq] at hcq
              clear hFq
              go_wp2_with fail
              go_roundw
              case rel => exact ⟨F, L, m, cc, j + 1, O, rfl, by go_num, hlt, hmn, by omega, HxO, HFu, Htp, Hinv, Hlin, Hdn, Hrow.out, Hown.out, hb, hz7⟩
              case measure => simp [intOf]; omega
          · have hlt2' : ¬ (j : Int) < (n2 : Int) := by omega
            have Hdn2 : Hid (Dn g.nxt F L (i + 1)) := hide (Hdn.out.next HxO.out Hrr.out (fun v hv => Htk.out v (by rw [List.take_of_length_le (by have h := Hri.out.len; simp only at h; omega)]; exact hv)))
            clear hrow hown
            go_wp2_with fail
            go_roundw
            case rel => exact ⟨F, L, m, cc, i + 1, O, rfl, by go_num, by omega, hmn, Hinv, Hlin, Hdn2, Hrow.out, Hown.out, hb, hz7⟩
            case measure => simp [intOf]; omega
      · have hlt' : ¬ (i : Int) < (m : Int) := by omega
        obtain rfl : i = m := by omega
        have Hres : Hid (wr.rowIs w2.heap.size 4 nn (boolV (reachAt g fun v => l.getD v false))) := hide (hrow.congr (fun v hv => by
          unfold boolV
          rw [reach_eq (F := F) (by rw [HL1.out]; exact Hinv.out.fr) (Hdn.out.closed Hlin.out) (by rw [HL1.out]; exact Hinv.out.rch)]))
        clear hrow hown
        go_wp2_with fail
        go_ret
        exact ⟨⟨_, _, _⟩, rfl, by
          rw [Hd.out]
          exact rb_of Hres.out (by simp) (by unfold maxLen; omega) (fun i x hx => by
            rw [List.getElem?_map] at hx
            obtain ⟨j, hj, rfl⟩ := Option.map_eq_some_iff.1 hx
            obtain ⟨hl, e⟩ := List.getElem?_eq_some_iff.1 hj
            have : j = i := by rw [← e]; simp
            subst this; rfl), hbw2.trans (hb.mono (by omega))⟩
  · have hm' : (mayG g != 0) = true := by simp [hm]
    have Hd : Hid (reachL g l = []) := hide (by unfold reachL; rw [if_neg hm])
    clear hm
    go_wp2_with fail
    go_ret
    rw [Hd.out]
    exact row_nil hbw2
end Go.Proofs.YtbppdalfcldodaaGreat.Gr
