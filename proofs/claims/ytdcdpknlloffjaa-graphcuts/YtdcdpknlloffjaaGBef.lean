/- The walks of Before, on both sides. -/
import Derived.Test.YtdcdpknlloffjaaGNest
namespace Go.Proofs.Ytdcdpknlloffjaa.Gr
open Go.RowKit
set_option linter.unusedSimpArgs false
set_option linter.unusedVariables false

set_option maxRecDepth 20000 in
set_option maxHeartbeats 1000000 in
theorem dbef_any (B : Nat) (OA NA : Option Addr) (on oc nn nc : Nat) (g : GT) (w : World) (hB : B ≤ w.heap.size) (hg : RG w B ⟨OA, on, oc⟩ ⟨NA, nn, nc⟩ g) :
    Calls Try.prog 15 #[.agg #[.slice OA on oc, .slice NA nn nc]] w (RowsPost w (befL g)) := by
  have hbx : Below w.heap.size w (w.alloc (.cells #[.slice OA on oc, .slice NA nn nc] 25)) := (Below.refl _ _).alloc (Nat.le_refl _) _
  have Hg := hide (hg.below (hbx.mono hB))
  have hz0 : w.heap.size + 1 ≤ (w.alloc (.cells #[.slice OA on oc, .slice NA nn nc] 25)).heap.size := by simp
  have Hl1 := hide hg.own.len
  have Hbox := hide (box_new w OA NA on oc nn nc 25)
  obtain ⟨i0, hi0, hq0, hq1, hq2⟩ := info_parts info3
  have Hi0 := hide hi0; have Hq0 := hide hq0; have Hq1 := hide hq1; have Hq2 := hide hq2
  clear hg hi0 hq0 hq1 hq2
  go_enter Try.func15, Try.ntmps15
  go_wp2_with fail
  generalize w.alloc (.cells #[.slice OA on oc, .slice NA nn nc] 25) = w1 at *
  refine (may_any B OA NA on oc nn nc g w1 (by omega) Hg.out).mono ?_
  rintro e w2 ⟨rfl, hb2⟩
  have hz2 := hb2.size
  have hbw2 := hbx.trans (hb2.mono (by omega))
  have Hg2 := hide (Hg.out.below (hb2.mono (by omega)))
  obtain ⟨c0, c1⟩ := Hbox.out.below hb2 (by omega)
  simp only [SL.v] at c0 c1
  clear hb2 Hg Hbox
  by_cases hm : mayG g = 0
  · have hm' : (mayG g != 0) = false := by simp [hm]
    obtain ⟨m1, m2, m3⟩ := may_facts hm
    have hl1 := Hg2.out.own.len
    have hl2 := Hg2.out.nxt.len
    simp only at hl1 hl2
    obtain rfl : nn = on := by omega
    have hon : nn ≤ 3000 := by omega
    have Hm := hide hm
    have Hl2 := hide hl2
    have HL1 : Hid (g.own.length = nn) := hide hl1
    have Hd : Hid (befL g = befGo 0 (List.replicate nn []) g.nxt) := hide (by unfold befL; rw [if_pos hm, Hl1.out])
    clear hm m1 m2 m3 hl1 hl2
    have hmk := make_rows nn (by omega)
    have Hnest := hide (Nest.made w2 nn (Nat.le_refl w2.heap.size))
    have hb23 : Below w2.heap.size w2 (w2.alloc (.cells (madeCells #[.slice none 0 0] nn) 22)) := (Below.refl _ _).alloc (Nat.le_refl _) _
    have c1' := (hb23.cell (p := ⟨w.heap.size, 1, none⟩) (by show w.heap.size < _; omega)).trans c1
    go_wp2_with fail
    clear hmk c1'
    go_loopw [18] (fun i wr => ∃ (k : Nat) (f : Nat → Value) (ls : List (List Int)), k ≤ nn ∧ i = .int .i64 k ∧ Nest wr w2.heap.size w2.heap.size nn f ls ∧ Hid (befGo k ls (g.nxt.drop k) = befL g) ∧ Hid (∀ l ∈ ls, l.length ≤ k * 3000) ∧ Below w2.heap.size w2 wr) (fun i _ => nn - (intOf i).toNat)
    case atStart => exact ⟨0, _, _, Nat.zero_le _, rfl, Hnest.out, hide (by rw [Hd.out]; rfl), hide (fun l hl => by rw [List.eq_of_mem_replicate hl]; simp), hb23⟩
    case round =>
      obtain ⟨k, f, ls, hk, rfl, hne, HT, HL, hb⟩ := hrel
      have hzr := hb.size
      have Hne := hide hne
      by_cases hlt : k < nn
      · have hlt' : (k : Int) < (nn : Int) := by omega
        obtain ⟨b2, off2, r, A2, n2, k2, rfl, hbB2, hr, hc2w, hri⟩ := Hg2.out.nxt.at_ hlt
        have hc2 := (hb.cell (p := ⟨b2, off2 + k, none⟩) (by show b2 < _; omega)).trans hc2w
        have Hrow := hide (may_row Hm.out hr)
        have Hrl := hide hri.len
        have hn2 : n2 ≤ 3000 := by have h1 := Hrow.out.2.1; have h2 := hri.len; simp only at h2; omega
        have HT2 : Hid (befGo (k + 1) (befRow k ls r) (g.nxt.drop (k + 1)) = befL g) := hide (by rw [← HT.out, drop_at hr, befGo])
        have e1 : wr.cell? ⟨w.heap.size, 1, none⟩ = some (.slice (some ⟨b2, off2, none⟩) nn nc) := (hb.cell (p := ⟨w.heap.size, 1, none⟩) (by show w.heap.size < _; omega)).trans c1
        have Hri := hide hri
        clear hr hri hc2w hne
        go_wp2_with fail
        go_loopw [25] (fun j wr => ∃ (i : Nat) (f2 : Nat → Value) (l2 : List (List Int)), i ≤ n2 ∧ j = .int .i64 i ∧ Nest wr w2.heap.size w2.heap.size nn f2 l2 ∧ Hid (befRow k l2 (r.drop i) = befRow k ls r) ∧ Hid (∀ l ∈ l2, l.length ≤ k * 3000 + i) ∧ Below w2.heap.size w2 wr) (fun j _ => n2 - (intOf j).toNat)
        case atStart => exact ⟨0, f, ls, Nat.zero_le _, rfl, Hne.out, hide rfl, HL, hb⟩
        case round =>
          obtain ⟨i, f2, l2, hi, rfl, hne2, HS, HM, hb5⟩ := hrel
          have hzr5 := hb5.size
          have Hne2 := hide hne2
          by_cases hlt2 : i < n2
          · have hlt2' : (i : Int) < (n2 : Int) := by omega
            obtain ⟨b3, off3, x, rfl, hbB3, hx, hc3w⟩ := Hri.out.at_ hlt2
            have hc3 := (hb5.cell (p := ⟨b3, off3 + i, none⟩) (by show b3 < _; omega)).trans hc3w
            obtain ⟨hx0, hx1⟩ := Hrow.out.2.2 x (List.mem_of_getElem? hx)
            obtain ⟨q, rfl⟩ := Int.eq_ofNat_of_zero_le hx0
            have hqn : q < nn := by have := HL1.out; omega
            have hqn' : (q : Int) < (nn : Int) := by omega
            have hq0' : (0 : Int) ≤ (q : Int) := by omega
            obtain ⟨l, hl⟩ := hne2.get hqn
            have hown := hne2.own q l hl
            obtain ⟨O, cc, hv⟩ := own_sl hown
            have hcq : wr.cell? ⟨w2.heap.size, q, none⟩ = some (.slice O l.length cc) := by rw [hne2.row.cell hqn, hv]
            have hll : l.length ≤ k * 3000 + i := HM.out l (List.mem_of_getElem? hl)
            have hlb : l.length + 1 ≤ 20000000 := by
              have : k * 3000 ≤ 3000 * 3000 := Nat.mul_le_mul (by omega) (Nat.le_refl _)
              omega
            generalize hlm : l.length = m at *
            have Hlm := hide hlm
            have HS2 : Hid (befRow k (l2.set q (l ++ [(k : Int)])) (r.drop (i + 1)) = befRow k ls r) := hide (by rw [← HS.out, drop_at hx, befRow]; simp only [Int.toNat_natCast, pushAt]; rw [getD_at hl])
            have HM2 : Hid (∀ l' ∈ l2.set q (l ++ [(k : Int)]), l'.length ≤ k * 3000 + (i + 1)) := hide (fun l' hl' => push_len (i := q) (x := (k : Int)) HM.out l' (by unfold pushAt; rw [getD_at hl]; exact hl'))
            rw [hv] at hown
            have Hown := hide hown
            have Hv := hide hv
            have Hl := hide hl
            clear hx hx0 hx1 hown hv hl hlm hll hne2 HM HS hc3w
            go_wp2_with (at_builtin; refine wpList_append_lies _ rfl _ _ _ rfl w2.heap.size 3 i0 _ 1 8 Try.underlying22 Hi0.out Hq0.out Hq1.out Hq2.out rfl (by omega) (.slice O m cc) m (ints l) rfl (Hown.out.alloc _) ⟨wr.heap.size, 0, none⟩ 1 1 [.int .i64 (k : Int)] rfl rfl (World.news_of_block (cs := #[.int .i64 (k : Int)]) (t := 3) (fr := (0, 0)) (heap_alloc_new wr _)) (by simp [Value.oneCell']) (by omega) (by unfold maxLen; omega) (by omega) (by simp; omega) _ rfl ?_; intro gg cap w5 hown5 hgrow hat hlt5; have z6 := ((Hne2.out.alloc (.cells #[.int .i64 (k : Int)] 3)).row.of_block (hgrow.block w2.heap.size (Hne2.out.alloc (.cells #[.int .i64 (k : Int)] 3)).row.lt (by rw [← Hv.out]; exact fun e => Hne2.out.far q hqn e.symm))).frozen q; obtain ⟨u6, c6⟩ : ∃ u, w5.cell? ⟨w2.heap.size, q, none⟩ = some u := ⟨_, ((Hne2.out.alloc (.cells #[.int .i64 (k : Int)] 3)).row.of_block (hgrow.block w2.heap.size (Hne2.out.alloc (.cells #[.int .i64 (k : Int)] 3)).row.lt (by rw [← Hv.out]; exact fun e => Hne2.out.far q hqn e.symm))).cell hqn⟩)
            have Hput := hide ((Hne2.out.alloc (.cells #[.int .i64 (k : Int)] 3)).put (v' := .slice (some ⟨gg, 0, none⟩) (m + 1) cap) hqn Hl.out (by rw [Hlm.out]; exact hown5) (by rw [Hv.out]; exact hgrow) rfl (by rw [Hv.out]; exact hat) rfl)
            have Hb7 := hide (((hb5.alloc (o := .cells #[.int .i64 (k : Int)] 3) hzr5).grown hgrow (by simp; omega) (fun z hz => (Hown.out.lt z hz).1)).setCell (p := ⟨w2.heap.size, q, none⟩) (Nat.le_refl _) (.slice (some ⟨gg, 0, none⟩) (m + 1) cap))
            clear z6 c6 hown5 hgrow hat hlt5
            go_wp2_with fail
            go_roundw
            case rel => exact ⟨i + 1, _, _, by omega, by go_num, Hput.out, HS2, HM2, Hb7.out⟩
            case measure => simp [intOf]; omega
          · have hlt2' : ¬ (i : Int) < (n2 : Int) := by omega
            have Hf : Hid (l2 = befRow k ls r) := hide (by rw [← HS.out, List.drop_of_length_le (by rw [Hrl.out]; exact Nat.le_of_not_lt hlt2), befRow])
            clear hne2
            go_wp2_with fail
            go_roundw
            case rel => exact ⟨k + 1, f2, l2, by omega, by go_num, Hne2.out, by rw [Hf.out]; exact HT2, hide (fun l hl => by have := HM.out l hl; omega), hb5⟩
            case measure => simp [intOf]; omega
      · have hlt' : ¬ (k : Int) < (nn : Int) := by omega
        have Hf : Hid (ls = befL g) := hide (by rw [← HT.out, List.drop_of_length_le (by rw [Hl2.out]; omega), befGo])
        clear hne
        go_wp2_with fail
        go_ret
        exact ⟨⟨_, _, _⟩, rfl, by rw [← Hf.out]; exact Hne.out.newR (by omega) (by omega) (by unfold maxLen; omega), hbw2.trans (hb.mono (by omega))⟩
  · have hm' : (mayG g != 0) = true := by simp [hm]
    have Hd : Hid (befL g = []) := hide (by unfold befL; rw [if_neg hm])
    clear hm
    go_wp2_with fail
    go_ret
    rw [Hd.out]
    exact ⟨⟨none, 0, 0⟩, rfl, newR_nil _ _, hbw2⟩

set_option maxRecDepth 20000 in
set_option maxHeartbeats 1000000 in
theorem rbef_any (B : Nat) (OA NA : Option Addr) (on oc nn nc : Nat) (g : GT) (w : World) (hB : B ≤ w.heap.size) (hg : RG w B ⟨OA, on, oc⟩ ⟨NA, nn, nc⟩ g) :
    Calls Try.prog 16 #[.agg #[.slice OA on oc, .slice NA nn nc]] w (RowsPost w (befL g)) := by
  have hbx : Below w.heap.size w (w.alloc (.cells #[.slice OA on oc, .slice NA nn nc] 25)) := (Below.refl _ _).alloc (Nat.le_refl _) _
  have Hg := hide (hg.below (hbx.mono hB))
  have hz0 : w.heap.size + 1 ≤ (w.alloc (.cells #[.slice OA on oc, .slice NA nn nc] 25)).heap.size := by simp
  have Hl1 := hide hg.own.len
  have Hbox := hide (box_new w OA NA on oc nn nc 25)
  obtain ⟨i0, hi0, hq0, hq1, hq2⟩ := info_parts info3
  have Hi0 := hide hi0; have Hq0 := hide hq0; have Hq1 := hide hq1; have Hq2 := hide hq2
  clear hg hi0 hq0 hq1 hq2
  go_enter Try.func16, Try.ntmps16
  go_wp2_with fail
  generalize w.alloc (.cells #[.slice OA on oc, .slice NA nn nc] 25) = w1 at *
  refine (rmay_any B OA NA on oc nn nc g w1 (by omega) Hg.out).mono ?_
  rintro e w2 ⟨rfl, hb2⟩
  have hz2 := hb2.size
  have hbw2 := hbx.trans (hb2.mono (by omega))
  have Hg2 := hide (Hg.out.below (hb2.mono (by omega)))
  obtain ⟨c0, c1⟩ := Hbox.out.below hb2 (by omega)
  simp only [SL.v] at c0 c1
  clear hb2 Hg Hbox
  by_cases hm : mayG g = 0
  · have hm' : (mayG g != 0) = false := by simp [hm]
    obtain ⟨m1, m2, m3⟩ := may_facts hm
    have hl1 := Hg2.out.own.len
    have hl2 := Hg2.out.nxt.len
    simp only at hl1 hl2
    obtain rfl : nn = on := by omega
    have hon : nn ≤ 3000 := by omega
    have Hm := hide hm
    have Hl2 := hide hl2
    have HL1 : Hid (g.own.length = nn) := hide hl1
    have Hd : Hid (befL g = befGo 0 (List.replicate nn []) g.nxt) := hide (by unfold befL; rw [if_pos hm, Hl1.out])
    clear hm m1 m2 m3 hl1 hl2
    have hmk := make_rows nn (by omega)
    have Hnest := hide (Nest.made w2 nn (Nat.le_refl w2.heap.size))
    have hb23 : Below w2.heap.size w2 (w2.alloc (.cells (madeCells #[.slice none 0 0] nn) 22)) := (Below.refl _ _).alloc (Nat.le_refl _) _
    have c1' := (hb23.cell (p := ⟨w.heap.size, 1, none⟩) (by show w.heap.size < _; omega)).trans c1
    go_wp2_with fail
    clear hmk c1'
    go_loopw [18] (fun i wr => ∃ (k : Nat) (f : Nat → Value) (ls : List (List Int)), k ≤ nn ∧ i = .int .i64 k ∧ Nest wr w2.heap.size w2.heap.size nn f ls ∧ Hid (befGo k ls (g.nxt.drop k) = befL g) ∧ Hid (∀ l ∈ ls, l.length ≤ k * 3000) ∧ Below w2.heap.size w2 wr) (fun i _ => nn - (intOf i).toNat)
    case atStart => exact ⟨0, _, _, Nat.zero_le _, rfl, Hnest.out, hide (by rw [Hd.out]; rfl), hide (fun l hl => by rw [List.eq_of_mem_replicate hl]; simp), hb23⟩
    case round =>
      obtain ⟨k, f, ls, hk, rfl, hne, HT, HL, hb⟩ := hrel
      have hzr := hb.size
      have Hne := hide hne
      by_cases hlt : k < nn
      · have hlt' : (k : Int) < (nn : Int) := by omega
        obtain ⟨b2, off2, r, A2, n2, k2, rfl, hbB2, hr, hc2w, hri⟩ := Hg2.out.nxt.at_ hlt
        have hc2 := (hb.cell (p := ⟨b2, off2 + k, none⟩) (by show b2 < _; omega)).trans hc2w
        have Hrow := hide (may_row Hm.out hr)
        have Hrl := hide hri.len
        have hn2 : n2 ≤ 3000 := by have h1 := Hrow.out.2.1; have h2 := hri.len; simp only at h2; omega
        have HT2 : Hid (befGo (k + 1) (befRow k ls r) (g.nxt.drop (k + 1)) = befL g) := hide (by rw [← HT.out, drop_at hr, befGo])
        have e1 : wr.cell? ⟨w.heap.size, 1, none⟩ = some (.slice (some ⟨b2, off2, none⟩) nn nc) := (hb.cell (p := ⟨w.heap.size, 1, none⟩) (by show w.heap.size < _; omega)).trans c1
        have Hri := hide hri
        clear hr hri hc2w hne
        go_wp2_with fail
        go_loopw [25] (fun j wr => ∃ (i : Nat) (f2 : Nat → Value) (l2 : List (List Int)), i ≤ n2 ∧ j = .int .i64 i ∧ Nest wr w2.heap.size w2.heap.size nn f2 l2 ∧ Hid (befRow k l2 (r.drop i) = befRow k ls r) ∧ Hid (∀ l ∈ l2, l.length ≤ k * 3000 + i) ∧ Below w2.heap.size w2 wr) (fun j _ => n2 - (intOf j).toNat)
        case atStart => exact ⟨0, f, ls, Nat.zero_le _, rfl, Hne.out, hide rfl, HL, hb⟩
        case round =>
          obtain ⟨i, f2, l2, hi, rfl, hne2, HS, HM, hb5⟩ := hrel
          have hzr5 := hb5.size
          have Hne2 := hide hne2
          by_cases hlt2 : i < n2
          · have hlt2' : (i : Int) < (n2 : Int) := by omega
            obtain ⟨b3, off3, x, rfl, hbB3, hx, hc3w⟩ := Hri.out.at_ hlt2
            have hc3 := (hb5.cell (p := ⟨b3, off3 + i, none⟩) (by show b3 < _; omega)).trans hc3w
            obtain ⟨hx0, hx1⟩ := Hrow.out.2.2 x (List.mem_of_getElem? hx)
            obtain ⟨q, rfl⟩ := Int.eq_ofNat_of_zero_le hx0
            have hqn : q < nn := by have := HL1.out; omega
            have hqn' : (q : Int) < (nn : Int) := by omega
            have hq0' : (0 : Int) ≤ (q : Int) := by omega
            obtain ⟨l, hl⟩ := hne2.get hqn
            have hown := hne2.own q l hl
            obtain ⟨O, cc, hv⟩ := own_sl hown
            have hcq : wr.cell? ⟨w2.heap.size, q, none⟩ = some (.slice O l.length cc) := by rw [hne2.row.cell hqn, hv]
            have hll : l.length ≤ k * 3000 + i := HM.out l (List.mem_of_getElem? hl)
            have hlb : l.length + 1 ≤ 20000000 := by
              have : k * 3000 ≤ 3000 * 3000 := Nat.mul_le_mul (by omega) (Nat.le_refl _)
              omega
            generalize hlm : l.length = m at *
            have Hlm := hide hlm
            have HS2 : Hid (befRow k (l2.set q (l ++ [(k : Int)])) (r.drop (i + 1)) = befRow k ls r) := hide (by rw [← HS.out, drop_at hx, befRow]; simp only [Int.toNat_natCast, pushAt]; rw [getD_at hl])
            have HM2 : Hid (∀ l' ∈ l2.set q (l ++ [(k : Int)]), l'.length ≤ k * 3000 + (i + 1)) := hide (fun l' hl' => push_len (i := q) (x := (k : Int)) HM.out l' (by unfold pushAt; rw [getD_at hl]; exact hl'))
            rw [hv] at hown
            have Hown := hide hown
            have Hv := hide hv
            have Hl := hide hl
            clear hx hx0 hx1 hown hv hl hlm hll hne2 HM HS hc3w
            go_wp2_with (at_builtin; refine wpList_append_lies _ rfl _ _ _ rfl w2.heap.size 3 i0 _ 1 8 Try.underlying22 Hi0.out Hq0.out Hq1.out Hq2.out rfl (by omega) (.slice O m cc) m (ints l) rfl (Hown.out.alloc _) ⟨wr.heap.size, 0, none⟩ 1 1 [.int .i64 (k : Int)] rfl rfl (World.news_of_block (cs := #[.int .i64 (k : Int)]) (t := 3) (fr := (0, 0)) (heap_alloc_new wr _)) (by simp [Value.oneCell']) (by omega) (by unfold maxLen; omega) (by omega) (by simp; omega) _ rfl ?_; intro gg cap w5 hown5 hgrow hat hlt5; have z6 := ((Hne2.out.alloc (.cells #[.int .i64 (k : Int)] 3)).row.of_block (hgrow.block w2.heap.size (Hne2.out.alloc (.cells #[.int .i64 (k : Int)] 3)).row.lt (by rw [← Hv.out]; exact fun e => Hne2.out.far q hqn e.symm))).frozen q; obtain ⟨u6, c6⟩ : ∃ u, w5.cell? ⟨w2.heap.size, q, none⟩ = some u := ⟨_, ((Hne2.out.alloc (.cells #[.int .i64 (k : Int)] 3)).row.of_block (hgrow.block w2.heap.size (Hne2.out.alloc (.cells #[.int .i64 (k : Int)] 3)).row.lt (by rw [← Hv.out]; exact fun e => Hne2.out.far q hqn e.symm))).cell hqn⟩)
            have Hput := hide ((Hne2.out.alloc (.cells #[.int .i64 (k : Int)] 3)).put (v' := .slice (some ⟨gg, 0, none⟩) (m + 1) cap) hqn Hl.out (by rw [Hlm.out]; exact hown5) (by rw [Hv.out]; exact hgrow) rfl (by rw [Hv.out]; exact hat) rfl)
            have Hb7 := hide (((hb5.alloc (o := .cells #[.int .i64 (k : Int)] 3) hzr5).grown hgrow (by simp; omega) (fun z hz => (Hown.out.lt z hz).1)).setCell (p := ⟨w2.heap.size, q, none⟩) (Nat.le_refl _) (.slice (some ⟨gg, 0, none⟩) (m + 1) cap))
            clear z6 c6 hown5 hgrow hat hlt5
            go_wp2_with fail
            go_roundw
            case rel => exact ⟨i + 1, _, _, by omega, by go_num, Hput.out, HS2, HM2, Hb7.out⟩
            case measure => simp [intOf]; omega
          · have hlt2' : ¬ (i : Int) < (n2 : Int) := by omega
            have Hf : Hid (l2 = befRow k ls r) := hide (by rw [← HS.out, List.drop_of_length_le (by rw [Hrl.out]; exact Nat.le_of_not_lt hlt2), befRow])
            clear hne2
            go_wp2_with fail
            go_roundw
            case rel => exact ⟨k + 1, f2, l2, by omega, by go_num, Hne2.out, by rw [Hf.out]; exact HT2, hide (fun l hl => by have := HM.out l hl; omega), hb5⟩
            case measure => simp [intOf]; omega
      · have hlt' : ¬ (k : Int) < (nn : Int) := by omega
        have Hf : Hid (ls = befL g) := hide (by rw [← HT.out, List.drop_of_length_le (by rw [Hl2.out]; omega), befGo])
        clear hne
        go_wp2_with fail
        go_ret
        exact ⟨⟨_, _, _⟩, rfl, by rw [← Hf.out]; exact Hne.out.newR (by omega) (by omega) (by unfold maxLen; omega), hbw2.trans (hb.mono (by omega))⟩
  · have hm' : (mayG g != 0) = true := by simp [hm]
    have Hd : Hid (befL g = []) := hide (by unfold befL; rw [if_neg hm])
    clear hm
    go_wp2_with fail
    go_ret
    rw [Hd.out]
    exact ⟨⟨none, 0, 0⟩, rfl, newR_nil _ _, hbw2⟩
end Go.Proofs.Ytdcdpknlloffjaa.Gr
