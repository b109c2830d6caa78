/- The walk of arena.Build. -/
import Derived.Test.YtbppdalfcldodaaGreatGAm
import Derived.Test.YtbppdalfcldodaaGreatGDev
import Derived.Deep.Cut
import Derived.Deep.CutRange
set_option maxRecDepth 100000
namespace Go.Proofs.YtbppdalfcldodaaGreat
open Go.RowKit Ex Go.WideMaps Go.Maps
set_option linter.unusedSimpArgs false
set_option linter.unusedVariables false

def arAt (m : MT) : List Vx := if modE m = 0 then atL m else []
def arOwn (m : MT) : List Int := (arAt m).map ownV
def arNxt (m : MT) : List (List Int) := if modE m = 0 then nextL m else []
def ArenaPost (w : World) (m : MT) (e : Ending) (w' : World) : Prop :=
  ∃ (O N : Gr.SL) (A : SL), e = .returned (.tuple #[.agg #[O.v, N.v, A.v], .int .i64 (modE m)]) ∧ Gr.RG w' w'.heap.size O N ⟨arOwn m, arNxt m⟩ ∧ RVx w' w'.heap.size A (arAt m) ∧ Below w.heap.size w w'
theorem owner_pure (x : Vx) (w : World) : Calls Tryz.prog 42 #[.int .i64 x.1] w fun e w' => e = .returned (.int .i64 (ownV x)) ∧ w' = w := by
  have Ho : Hid (ownV x = if x.1 = 2 ∨ x.1 = 4 then 1 else 0) := hide rfl
  obtain ⟨a, b, c⟩ := x
  simp only at Ho ⊢
  by_cases h2 : a = 2
  · subst h2
    go_enter Tryz.func42, Tryz.ntmps42
    go_wp2_with fail
    go_ret
    exact ⟨by rw [Ho.out]; rfl, rfl⟩
  · by_cases h4 : a = 4
    · subst h4
      go_enter Tryz.func42, Tryz.ntmps42
      go_wp2_with fail
      go_ret
      exact ⟨by rw [Ho.out]; rfl, rfl⟩
    · have h2b : (a == 2) = false := by simp [h2]
      have h4b : (a == 4) = false := by simp [h4]
      have Ho2 : Hid (ownV (a, b, c) = 0) := hide (by rw [Ho.out, if_neg (by simp [h2, h4])])
      clear h2 h4 Ho
      go_enter Tryz.func42, Tryz.ntmps42
      go_wp2_with fail
      go_ret
      exact ⟨by rw [Ho2.out]; rfl, rfl⟩
theorem box3_cells {w1 : World} {g : Nat} {a b c : Value} {ty : TypeId} (h : w1.heap[g]? = some (.cells #[a, b, c] ty (0, 0))) : w1.cell? ⟨g, 0, none⟩ = some a ∧ w1.cell? ⟨g, 1, none⟩ = some b ∧ w1.cell? ⟨g, 2, none⟩ = some c ∧
    w1.frozen? ⟨g, 0, none⟩ = false ∧ w1.frozen? ⟨g, 1, none⟩ = false ∧ w1.frozen? ⟨g, 2, none⟩ = false :=
  ⟨by rw [Lib.cell_of_heap h]; rfl, by rw [Lib.cell_of_heap h]; rfl, by rw [Lib.cell_of_heap h]; rfl, frozen_of_row w1 g 0 _ ty h, frozen_of_row w1 g 1 _ ty h, frozen_of_row w1 g 2 _ ty h⟩
theorem box3_at {w1 : World} {g : Nat} {a b c : Value} {ty : TypeId} (h : w1.heap[g]? = some (.cells #[a, b, c] ty (0, 0))) (x y z : Value) : (((w1.setCell ⟨g, 0, none⟩ x).setCell ⟨g, 1, none⟩ y).setCell ⟨g, 2, none⟩ z).heap[g]? = some (.cells #[x, y, z] ty (0, 0)) := by
  have h1 := heap_setCell_same w1 g 0 _ ty x h
  have h2 := heap_setCell_same _ g 1 _ ty y h1
  exact heap_setCell_same _ g 2 _ ty z h2
theorem set3_below {B g : Nat} {u w : World} (h : Below B u w) (hg : B ≤ g) (x y z : Value) : Below B u (((w.setCell ⟨g, 0, none⟩ x).setCell ⟨g, 1, none⟩ y).setCell ⟨g, 2, none⟩ z) :=
  h.trans ⟨rfl, rfl, rfl, by simp [World.setCell], fun k hk => by
    rw [Below.heap_setCell _ _ _ _ (by show k ≠ g; omega), Below.heap_setCell _ _ _ _ (by show k ≠ g; omega), Below.heap_setCell _ _ _ _ (by show k ≠ g; omega)]⟩
theorem rg_nil (w : World) (B : Nat) : Gr.RG w B ⟨none, 0, 0⟩ ⟨none, 0, 0⟩ ⟨[], []⟩ := ⟨Gr.rows_nil _ _ _, Gr.rows_nil _ _ _⟩
theorem rvx_nil (w : World) (B : Nat) : RVx w B ⟨none, 0, 0⟩ [] := nil_rows _ _ _ _
theorem fs_start (w : World) : FS ((w.alloc (.map #[] 0)).alloc (.cells #[.slice none 0 0, .map (some w.heap.size)] 78)) w.heap.size (w.heap.size + 1) w.heap.size ⟨none, 0, 0⟩ [] :=
  ⟨by
    have := heap_alloc_new (w.alloc (.map #[] 0)) (.cells #[.slice none 0 0, .map (some w.heap.size)] 78)
    rw [World.size_alloc] at this; exact this, ⟨0, .map [], Nat.le_refl _, (World.ownsMap_made (H := Unit) w Tryz.prog 57 (plainElem Tryz.prog 3)).alloc _, NumIs.start⟩, World.ownsRow_nil _ _ _ _, rfl, by omega, fun k hk => by simp [SL.own] at hk⟩
theorem info32A : ∃ i, Tryz.prog.info? 32 = some i ∧ i.zero = some (.slice none 0 0) ∧ i.size = 1 ∧ i.bytes = 24 := by
  have h : (Tryz.prog.info? 32).map (fun i => (i.zero, i.size, i.bytes)) = some (some (.slice none 0 0), 1, 24) := by kernel_rfl
  cases hi : Tryz.prog.info? 32 with
  | none => rw [hi] at h; cases h
  | some i =>
    rw [hi] at h
    simp only [Option.map_some, Option.some.injEq, Prod.mk.injEq] at h
    exact ⟨i, rfl, h.1, h.2.1, h.2.2⟩
theorem of_drew {u w : World} (h : Below u.drew.heap.size u.drew w) : Below u.heap.size u w := ⟨h.os, h.tape, h.output, h.size, h.block⟩
theorem found_step {w w2 w6 w7 : World} {lo F M G n : Nat} {s s7 ow nx : SL} {l l7 : List Vx} {os r : List Int} {ls : List (List Int)} {v : Value} (h : BS w lo F M G s ow nx l os ls) (hlo : lo ≤ w.heap.size) (hp4 : Below w.heap.size w w6) (hf7 : FS w7 lo F M s7 l7) (hr : Fr (fsH F M s) (fsH F M s7) w6 w7)
    (hv : ∃ O c, v = .slice O n c) (hrow : w7.ownsRow w6.heap.size 3 1 v n (ints r)) (hn : ∀ z, v.ownBlock = some z → z ∉ fsH F M s7) (hbl : Below lo w2 w) :
    (∃ O n c, v = .slice O n c ∧ w7.ownsRow lo 3 1 v n (ints r) ∧ ∀ z, v.ownBlock = some z → z ∉ bsH F M G s7 ow nx) ∧ BS w7 lo F M G s7 ow nx l7 os ls ∧ Below lo w2 w7 := by
  have hz6 := hp4.size
  have h6 := h.found (h.fs.below hp4) (Fr.of_below hp4) hlo
  have h7 := h6.found hf7 hr (by omega)
  obtain ⟨O, c, hv⟩ := hv
  refine ⟨⟨O, n, c, hv, owns_base hrow (by omega), fun z hz hm => ?_⟩, h7, (hbl.trans (hp4.mono hlo)).trans (hr.low (B := lo) (fun z hz => (h6.low z (bs_mem.2 (.inl hz))).1) (by omega))⟩
  rcases bs_mem.1 hm with h1 | h1
  · exact hn z hz h1
  · have h2 := (hrow.lt z hz).1
    have := (h6.low z (bs_mem.2 (.inr h1))).2
    omega
theorem succ_len (m : MT) (x : Vx) : (succV m x).length ≤ 512 := by
  unfold succV
  split
  · simp only [List.length_map]; exact initE_len m
  · split
    · simp only [List.length_map]; exact initS_len m _
    · split
      · simp only [List.length_map]; exact env_len m _
      · split
        · simp only [List.length_map]; exact sys_len m _ _
        · simp
set_option maxHeartbeats 8000000 in
theorem dbuild_any (B : Nat) (x : M8) (m : MT) (w : World) (hB : B ≤ w.heap.size) (hrm : RM w B x m) (hT : modE m = 0 → totN m ≤ 24) :
    Calls Tryz.prog 11 #[.agg x.cells] w (ArenaPost w m) := by
  have hbx : Below w.heap.size w ((w.alloc (.cells x.cells 28)).alloc (.cells #[.slice none 0 0, .slice none 0 0, .slice none 0 0] 38)) := ((Below.refl w.heap.size w).alloc (Nat.le_refl _) (.cells x.cells 28)).alloc (by simp) (.cells #[.slice none 0 0, .slice none 0 0, .slice none 0 0] 38)
  have Hrm := hide (hrm.below (hbx.mono hB))
  have Hbo := hide ((boxM_new w x).below ((Below.refl _ _).alloc (Nat.le_refl _) (.cells #[.slice none 0 0, .slice none 0 0, .slice none 0 0] 38)) (by simp))
  have hrb : ((w.alloc (.cells x.cells 28)).alloc (.cells #[.slice none 0 0, .slice none 0 0, .slice none 0 0] 38)).heap[w.heap.size + 1]? = some (.cells #[.slice none 0 0, .slice none 0 0, .slice none 0 0] 38 (0, 0)) := by
    have := heap_alloc_new (w.alloc (.cells x.cells 28)) (.cells #[.slice none 0 0, .slice none 0 0, .slice none 0 0] 38)
    rw [World.size_alloc] at this; exact this
  have Hrb := hide hrb
  have Hb0 := hide hbx
  have hz2 : ((w.alloc (.cells x.cells 28)).alloc (.cells #[.slice none 0 0, .slice none 0 0, .slice none 0 0] 38)).heap.size = w.heap.size + 2 := by simp
  clear hrm hbx hrb
  obtain ⟨⟨vA, vn, vc⟩, ⟨io, im, iA, il, ic⟩, ⟨jo, jm, jA, jl, jc⟩, ⟨eA, en, ec⟩, ⟨sA, sn, sc⟩, ⟨aA, an, ac⟩, ⟨nA, nn, nc⟩, ⟨pA, pn, pc⟩⟩ := x
  simp only [M8.cells, SL.v] at *
  obtain ⟨q0, q1, q2, q3, q4, q5, q6, q7, q8, q9, q10, q11⟩ := row12 Hbo.out
  simp only at q0 q1 q2 q3 q4 q5 q6 q7 q8 q9 q10 q11
  go_enter Tryz.func11, Tryz.ntmps11
  go_wp2_with fail
  clear q0 q1 q2 q3 q4 q5 q6 q7 q8 q9 q10 q11
  generalize (w.alloc (.cells #[.slice vA vn vc, .int .i64 io, .int .i64 im, .slice iA il ic, .int .i64 jo, .int .i64 jm, .slice jA jl jc, .slice eA en ec, .slice sA sn sc, .slice aA an ac, .slice nA nn nc, .slice pA pn pc] 28)).alloc (.cells #[.slice none 0 0, .slice none 0 0, .slice none 0 0] 38) = w0 at *
  refine (dmod_any B ⟨⟨vA, vn, vc⟩, ⟨io, im, iA, il, ic⟩, ⟨jo, jm, jA, jl, jc⟩, ⟨eA, en, ec⟩, ⟨sA, sn, sc⟩, ⟨aA, an, ac⟩, ⟨nA, nn, nc⟩, ⟨pA, pn, pc⟩⟩ m w0 (by omega) Hrm.out).mono ?_
  rintro e w2 ⟨rfl, hb2⟩
  have hz3 := hb2.size
  have Hb2 := hide (Hb0.out.trans (hb2.mono (by omega)))
  have Hrm2 := hide (Hrm.out.below (hb2.mono (by omega)))
  have Hbo2 := hide (Hbo.out.below hb2 (by omega))
  have hrb2 : w2.heap[w.heap.size + 1]? = some (.cells #[.slice none 0 0, .slice none 0 0, .slice none 0 0] 38 (0, 0)) := (hb2.block _ (by omega)).trans Hrb.out
  have Hrb2 := hide hrb2
  clear hb2 Hb0 Hrm Hbo Hrb
  by_cases hc : modE m = 0
  case neg =>
    have hcb : (modE m != 0) = true := by simp [hc]
    have Hag : Hid (arOwn m = [] ∧ arNxt m = [] ∧ arAt m = []) := hide ⟨by unfold arOwn arAt; rw [if_neg hc]; rfl, by unfold arNxt; rw [if_neg hc], by unfold arAt; rw [if_neg hc]⟩
    obtain ⟨c0, c1, c2, f0, f1, f2⟩ := box3_cells hrb2
    clear hrb2 hc
    go_wp2_with fail
    obtain ⟨s0, s1, s2, _⟩ := box3_cells (box3_at Hrb2.out (.slice none 0 0) (.slice none 0 0) (.slice none 0 0))
    refine bodyPost_ret (v := .tuple #[.agg #[.slice none 0 0, .slice none 0 0, .slice none 0 0], .int .i64 (modE m)]) (by simp [results, Tryz.results11, go_sem, s0, s1, s2]) rfl ?_
    obtain ⟨e1, e2, e3⟩ := Hag.out
    refine ⟨⟨none, 0, 0⟩, ⟨none, 0, 0⟩, ⟨none, 0, 0⟩, rfl, by rw [e1, e2]; exact rg_nil _ _, by rw [e3]; exact rvx_nil _ _, set3_below Hb2.out (by omega) _ _ _⟩
  case pos =>
    have hcb : (modE m != 0) = false := by simp [hc]
    have hT := hT hc
    have Hag : Hid (arOwn m = (atL m).map ownV ∧ arNxt m = nextL m ∧ arAt m = atL m) := hide ⟨by unfold arOwn arAt; rw [if_pos hc], by unfold arNxt; rw [if_pos hc], by unfold arAt; rw [if_pos hc]⟩
    have He : Hid (modE m = 0) := hide hc
    have hmm := @run_makeMap Tryz.prog
    have hbm : Below w2.heap.size w2 ((w2.alloc (.map #[] 0)).alloc (.cells #[.slice none 0 0, .map (some w2.heap.size)] 78)) := ((Below.refl w2.heap.size w2).alloc (Nat.le_refl _) (.map #[] 0)).alloc (by simp) _
    have Hb3 := hide hbm
    have hz4 : ((w2.alloc (.map #[] 0)).alloc (.cells #[.slice none 0 0, .map (some w2.heap.size)] 78)).heap.size = w2.heap.size + 2 := by simp
    have Hfs := hide (fs_start w2)
    clear hbm hrb2 hc
    go_wp2_with fail
    clear hmm
    generalize (w2.alloc (.map #[] 0)).alloc (.cells #[.slice none 0 0, .map (some w2.heap.size)] 78) = w3 at *
    generalize hlo : w2.heap.size = lo at *
    refine (number_any lo (lo + 1) lo ⟨none, 0, 0⟩ [] rootV w3 Hfs.out ⟨⟨by decide, by decide⟩, ⟨by decide, by decide⟩, ⟨by decide, by decide⟩⟩ (by simp) (by omega)).mono ?_
    rintro e w4 ⟨rfl, s4, hf4, hr4⟩
    have hf4 : FS w4 lo (lo + 1) lo s4 [rootV] := hf4
    have hz5 := hr4.size
    have hlow4 : ∀ k ∈ fsH (lo + 1) lo s4, lo ≤ k := fun k hk => by
      rcases hr4.new k hk with h1 | h1
      · simp [fsH, SL.own] at h1; omega
      · omega
    have Hb4 := hide (Hb3.out.trans (hr4.low (B := lo) (fun k hk => by simp [fsH, SL.own] at hk; omega) (by omega)))
    have hbs := BS.start hf4 (by omega) hlow4
    have Hbs := hide hbs
    have Hb5 := hide (Hb4.out.alloc (by omega) (.cells #[.slice none 0 0, .slice none 0 0] 35))
    have hz6 : (w4.alloc (.cells #[.slice none 0 0, .slice none 0 0] 35)).heap.size = w4.heap.size + 1 := by simp
    clear hf4 hr4 hlow4 hbs Hb3 Hfs Hb4
    go_wp2_with fail
    generalize w4.alloc (.cells #[.slice none 0 0, .slice none 0 0] 35) = w5 at *
    generalize hG : w4.heap.size = G at *
    go_loopw [7] (fun i wr => ∃ (k : Nat) (s ow nx : SL), i = .int .i64 k ∧ k ≤ (goV m k).1.length ∧ ow.n = k ∧ nx.n = k ∧ BS wr lo (lo + 1) lo G s ow nx (goV m k).1 (((goV m k).1.take k).map ownV) (goV m k).2 ∧ Below lo w2 wr) (fun i _ => 700 - (intOf i).toNat)
    case atStart => exact ⟨0, s4, ⟨none, 0, 0⟩, ⟨none, 0, 0⟩, rfl, Nat.zero_le _, rfl, rfl, Hbs.out, Hb5.out⟩
    case round =>
      obtain ⟨k, s, ow, nx, rfl, hk, hon, hnn, hbs, hbl⟩ := hrel
      have Hbs2 := hide hbs
      have Hbl := hide hbl
      have hzr := hbl.size
      have hlen := go_len hT k
      have Hk := hide hk
      have Hln := hide hbs.fs.len
      obtain ⟨sA2, n, sc2⟩ := s
      have Hnl : Hid (n = (goV m k).1.length) := hide hbs.fs.len
      have hkn : k ≤ n := by rw [Hnl.out]; exact hk
      have hn625 : n ≤ 625 := by rw [Hnl.out]; exact hlen
      have Hvx := hide (vx_rows hbs.fs.row)
      obtain ⟨f0, f1, f2⟩ := hbs.fs.cells
      have Hrmr := hide ((Hrm2.out.below (hbl.mono (by omega))).below (below_drew (Below.refl B wr)))
      have Hbor := hide (Hbo2.out.below hbl (by omega))
      simp only [SL.v] at f0
      clear hbs hbl hk hlen
      by_cases hlt : k < n
      · have hlt' : ((k : Int) < (n : Int)) := by omega
        obtain ⟨pb, po, p, q, r, ePs, hpb, hpk, cp, cq, cr⟩ := RVx.at_ Hvx.out hlt
        subst ePs
        obtain ⟨q0, q1, q2, q3, q4, q5, q6, q7, q8, q9, q10, q11⟩ := row12 Hbor.out
        simp only at q0 q1 q2 q3 q4 q5 q6 q7 q8 q9 q10 q11
        have Hok := hide ((go_ok m k).ok _ (List.mem_of_getElem? hpk))
        have Hpk := hide hpk
        have Hgo : Hid (goV m (k + 1) = (addL (goV m k).1 (succV m (p, q, r)), (goV m k).2 ++ [sortI ((succV m (p, q, r)).map (numI (addL (goV m k).1 (succV m (p, q, r)))))])) := hide (by simp only [goV, hpk])
        have hsl : (succV m (p, q, r)).length ≤ 512 := succ_len m _
        have Hcall : Hid (Calls Tryz.prog 41 #[.agg #[.slice vA vn vc, .int .i64 io, .int .i64 im, .slice iA il ic, .int .i64 jo, .int .i64 jm, .slice jA jl jc, .slice eA en ec, .slice sA sn sc, .slice aA an ac, .slice nA nn nc, .slice pA pn pc], .agg #[.int .i64 p, .int .i64 q, .int .i64 r]] wr.drew (VxPost wr.drew (succV m (p, q, r)))) := hide (after_any B ⟨⟨vA, vn, vc⟩, ⟨io, im, iA, il, ic⟩, ⟨jo, jm, jA, jl, jc⟩, ⟨eA, en, ec⟩, ⟨sA, sn, sc⟩, ⟨aA, an, ac⟩, ⟨nA, nn, nc⟩, ⟨pA, pn, pc⟩⟩ m (p, q, r) (totN m) wr.drew (by show B ≤ wr.heap.size; omega) Hrmr.out Hok.out)
        have hzlo : lo ≤ wr.heap.size := by omega
        clear hpk
        go_upto_region 10 with fail
        go_cut [8] from 26 to 33 (fun s8 wx => ∃ (O7 : Option Addr) (n7 c7 : Nat) (s7 : SL), s8 = .slice O7 n7 c7 ∧ Hid (∃ O n c, Value.slice O7 n7 c7 = .slice O n c ∧ wx.ownsRow lo 3 1 (.slice O7 n7 c7) n (ints (sortI ((succV m (p, q, r)).map (numI (addL (goV m k).1 (succV m (p, q, r))))))) ∧ ∀ z, (Value.slice O7 n7 c7).ownBlock = some z → z ∉ bsH (lo + 1) lo G s7 ow nx) ∧ Hid (BS wx lo (lo + 1) lo G s7 ow nx (addL (goV m k).1 (succV m (p, q, r))) (((goV m k).1.take k).map ownV) (goV m k).2) ∧ Hid (Below lo w2 wx))
        case first =>
          go_region_with (first
            | (go_at_call 41; refine Hcall.out.mono ?_; rintro e w6 ⟨O6, n6, c6, rfl, p2, p3, p4⟩; have Hp2 := hide p2; have Hp4 := hide (of_drew p4); clear p2 p3 p4)
            | (go_at_call 40; refine (row_any lo (lo + 1) lo wr.heap.size n6 c6 O6 ⟨some ⟨pb, po, none⟩, n, sc2⟩ (goV m k).1 (succV m (p, q, r)) w6 (Hbs2.out.fs.below Hp4.out) (fun y hy => okV_sm (by omega) (succ_ok Hok.out hy)) (by rw [← Hnl.out]; omega) (by have := Hp4.out.size; omega) Hp2.out (fun z hz => Hbs2.out.fs.lt z hz)).mono ?_; intro e w7 hp; obtain ⟨O7, n7, c7, s7, rfl, r2, r3, r4, r5, r6⟩ := hp; have Hr2 := hide r2; have Hr4 := hide r4; have Hr5 := hide r5; have Hr6 := hide r6; clear r2 r3 r4 r5 r6))
          all_goals (go_wp2_with fail)
          all_goals go_meet
          all_goals
            obtain ⟨t1, t2, t3⟩ := found_step Hbs2.out hzlo Hp4.out Hr4.out Hr5.out ⟨O7, c7, rfl⟩ Hr2.out Hr6.out Hbl.out
            exact ⟨O7, n7, c7, s7, rfl, hide t1, hide t2, hide t3⟩
        obtain ⟨w7, rfl⟩ : ∃ w7, w7 = wc := ⟨_, rfl⟩
        obtain ⟨O7, n7, c7, s7, rfl, Hnew, Hbs7, Hbl7⟩ := hcut
        clear q0 q1 q2 q3 q4 q5 q6 q7 q8 q9 q10 q11 cp cq cr f0 f1 f2
        have hz7 := Hbl7.out.size
        have hlen7 := go_len hT (k + 1)
        rw [Hgo.out] at hlen7
        simp only at hlen7
        obtain ⟨A8, n8, c8⟩ := s7
        have Hn8 : Hid (n8 = (addL (goV m k).1 (succV m (p, q, r))).length) := hide Hbs7.out.fs.len
        have hn8 : n8 ≤ 625 := by rw [Hn8.out]; exact hlen7
        have hk8 : k < n8 := by
          rw [Hn8.out]
          obtain ⟨rr, er⟩ := addL_pre (succV m (p, q, r)) (goV m k).1
          rw [er, List.length_append, ← Hnl.out]; omega
        have Hvx7 := hide (vx_rows Hbs7.out.fs.row)
        obtain ⟨pb2, po2, p2, q2, r2, eP2, hpb2, hpk2, cp2, cq2, cr2⟩ := RVx.at_ Hvx7.out hk8
        have epq : (p2, q2, r2) = (p, q, r) := by
          obtain ⟨rr, er⟩ := addL_pre (succV m (p, q, r)) (goV m k).1
          rw [er, List.getElem?_append_left (by rw [← Hnl.out]; exact hlt), Hpk.out] at hpk2
          exact (Option.some.inj hpk2).symm
        simp only [Prod.mk.injEq] at epq
        obtain ⟨rfl, rfl, rfl⟩ := epq
        subst eP2
        clear hpk2 hlen7 cq2 cr2
        obtain ⟨f0, f1, f2⟩ := Hbs7.out.fs.cells
        obtain ⟨oA, on, oc⟩ := ow
        obtain ⟨xA, xn, xc⟩ := nx
        simp only at hon hnn
        subst hon
        obtain rfl : xn = on := by omega
        obtain ⟨g0, g1, g2, g3⟩ := Hbs7.out.cells
        simp only [SL.v] at f0 g0 g1
        have hgt : ¬ ((3000 : Int) < (n8 : Int)) := by omega
        have hGl : G < w7.heap.size := (Hbs7.out.low G (bs_mem.2 (.inr (.inl rfl)))).2
        have k3 : ∀ o : Obj, (w7.alloc o).cell? ⟨G, 0, none⟩ = some (.slice oA xn oc) := fun o => (World.cell?_alloc_lt _ _ _ (show G < w7.heap.size by omega)).trans g0
        obtain ⟨i0, hi0, hy0, hy1, hy2⟩ := info3A
        have Hi0 := hide hi0; have Hy0 := hide hy0; have Hy1 := hide hy1; have Hy2 := hide hy2
        clear hi0 hy0 hy1 hy2
        have Hob : Hid (∀ j, (Value.slice oA xn oc).ownBlock = some j → lo ≤ j ∧ j < w7.heap.size ∧ j ≠ G) := hide (fun j hj => ⟨(Hbs7.out.low j (bs_mem.2 (.inr (.inr (.inl (own_mem.2 hj)))))).1, (Hbs7.out.low j (bs_mem.2 (.inr (.inr (.inl (own_mem.2 hj)))))).2, fun e => (bs_g Hbs7.out).1 (e ▸ own_mem.2 hj)⟩)
        have HrA : Hid ((w7.alloc (.cells #[.int .i64 (ownV (p2, q2, r2))] 3)).ownsRow lo 3 1 (.slice oA xn oc) xn (ints (((goV m xn).1.take xn).map ownV))) := hide (kept_new Hbs7.out.orow _)
        have HrB : Hid ((w7.alloc (.cells #[.int .i64 (ownV (p2, q2, r2))] 3)).drew.ownsRow lo 3 1 (.slice oA xn oc) xn (ints (((goV m xn).1.take xn).map ownV))) := hide HrA.out
        generalize hqv : ownV (p2, q2, r2) = qv at *
        have Hqv := hide hqv
        clear hqv
        have Hcall2 : Hid (∀ w, Calls Tryz.prog 42 #[.int .i64 p2] w fun e w' => e = .returned (.int .i64 qv) ∧ w' = w) := hide fun w => by rw [← Hqv.out]; exact owner_pure (p2, q2, r2) w
        have hzlo7 : lo ≤ w7.heap.size := by omega
        go_upto_region 13 with fail
        go_cut [49] from 39 to 50 (fun s49 wx => ∃ (O9 : Option Addr) (c9 : Nat), Hid (∃ O n c, Value.slice O7 n7 c7 = .slice O n c ∧ wx.ownsRow lo 3 1 (.slice O7 n7 c7) n (ints (sortI ((succV m (p2, q2, r2)).map (numI (addL (goV m xn).1 (succV m (p2, q2, r2))))))) ∧ ∀ z, (Value.slice O7 n7 c7).ownBlock = some z → z ∉ bsH (lo + 1) lo G ⟨some ⟨pb2, po2, none⟩, n8, c8⟩ ⟨O9, xn + 1, c9⟩ ⟨xA, xn, xc⟩) ∧ Hid (BS wx lo (lo + 1) lo G ⟨some ⟨pb2, po2, none⟩, n8, c8⟩ ⟨O9, xn + 1, c9⟩ ⟨xA, xn, xc⟩ (addL (goV m xn).1 (succV m (p2, q2, r2))) (((goV m xn).1.take xn).map ownV ++ [qv]) (goV m xn).2) ∧ Hid (Below lo w2 wx))
        case first =>
          go_region_law (first
            | (go_simp; go_at_call 42; refine (Hcall2.out _).mono ?_; rintro e w8 ⟨rfl, rfl⟩)
            | (refine step_append_lies _ (by rfl) _ _ _ (by rfl) lo 3 i0 _ 1 8 Tryz.underlying32 Hi0.out Hy0.out Hy1.out Hy2.out rfl (by omega) (.slice oA xn oc) xn (ints (((goV m xn).1.take xn).map ownV)) (by rfl) (by first | exact HrB.out | exact HrA.out)
                ⟨w7.heap.size, 0, none⟩ 1 1 [.int .i64 qv] (by rfl) (by rfl) (World.news_of_block (cs := #[.int .i64 qv]) (t := 3) (fr := (0, 0)) (heap_alloc_new w7 _)) (by simp [Value.oneCell'])
                (by omega) (by unfold maxLen; omega) (by omega) (by simp; omega) (w7.heap.size + 1) (by simp) ?_; intro gg cap w9 hown9 hgrow hat hlt9; have c9 : w9.cell? ⟨G, 0, none⟩ = some (.slice oA xn oc) := (World.grownBy.cell_far hgrow ⟨G, 0, none⟩ (by simp; omega) (fun e => (Hob.out G e.symm).2.2 rfl)).trans ((World.cell?_alloc_lt _ _ _ (show G < w7.heap.size by omega)).trans g0); have z9 : w9.frozen? ⟨G, 0, none⟩ = false := (World.grownBy.frozen_far hgrow ⟨G, 0, none⟩ (by simp; omega) (fun e => (Hob.out G e.symm).2.2 rfl)).trans ((World.frozen?_of_block (a := ⟨G, 0, none⟩) (Below.heap_alloc w7 _ _ (show G < w7.heap.size by omega))).trans g2); have Hgrow := hide hgrow; have Hat := hide hat; have Hown9 := hide hown9; clear hgrow hat hown9))
          all_goals (go_wp2_with fail)
          all_goals go_meet
          all_goals
            obtain ⟨t1, t2, t3⟩ := owner_step Hbs7.out Hgrow.out Hat.out hzlo7 (by rw [← ints_snoc]; exact Hown9.out) Hnew.out Hbl7.out
            exact ⟨some ⟨gg, 0, none⟩, cap, hide t1, hide t2, hide t3⟩
        obtain ⟨w9, rfl⟩ : ∃ w9, w9 = wc := ⟨_, rfl⟩
        obtain ⟨O9, c9, Hnew9, Hbs9, Hbl9⟩ := hcut
        clear cp2 f0 f1 f2 g0 g1 g2 g3 k3 HrA HrB Hob Hnew Hbs7 Hbl7
        have hz9 := Hbl9.out.size
        obtain ⟨g0, g1, g2, g3⟩ := Hbs9.out.cells
        obtain ⟨vs, hv1, hv2⟩ := Hbs9.out.nrow
        have Hv1 := hide hv1; have Hv2 := hide hv2
        simp only [SL.v] at g0 g1
        obtain ⟨i1, hi0, hy0, hy1, hy2⟩ := info32A
        have Hj0 := hide hi0; have Hk0 := hide hy0; have Hk1 := hide hy1; have Hk2 := hide hy2
        have hGl9 : G < w9.heap.size := (Hbs9.out.low G (bs_mem.2 (.inr (.inl rfl)))).2
        have Hob : Hid (∀ j, (Value.slice xA xn xc).ownBlock = some j → j ≠ G) := hide (fun j hj e => (bs_g Hbs9.out).2.1 (e ▸ own_mem.2 hj))
        clear hi0 hy0 hy1 hy2 hv1 hv2
        go_wp2_with (at_builtin; refine wpList_append_lies _ rfl _ _ _ rfl lo 32 i1 _ 1 24 Tryz.underlying33 Hj0.out Hk0.out Hk1.out Hk2.out rfl (by omega) (.slice xA xn xc) xn vs rfl (kept_new Hv1.out _) ⟨w9.heap.size, 0, none⟩ 1 1 [.slice O7 n7 c7] (by rfl) rfl (World.news_of_block (cs := #[.slice O7 n7 c7]) (t := 32) (fr := (0, 0)) (heap_alloc_new w9 _)) (by simp [Value.oneCell']) (by omega) (by unfold maxLen; omega) (by omega) (by simp; omega) _ rfl ?_; intro gg cap w10 hown10 hgrow hat hlt10; have c10 : w10.cell? ⟨G, 1, none⟩ = some (.slice xA xn xc) := (World.grownBy.cell_far hgrow ⟨G, 1, none⟩ (by simp; omega) (fun e => Hob.out G e.symm rfl)).trans ((World.cell?_alloc_lt _ _ _ (show G < w9.heap.size by omega)).trans g1); have z10 : w10.frozen? ⟨G, 1, none⟩ = false := (World.grownBy.frozen_far hgrow ⟨G, 1, none⟩ (by simp; omega) (fun e => Hob.out G e.symm rfl)).trans ((World.frozen?_of_block (a := ⟨G, 1, none⟩) (Below.heap_alloc w9 _ _ (show G < w9.heap.size by omega))).trans g3))
        have hat2 : (Value.slice xA xn xc).ownBlock = some gg ∨ gg = w9.heap.size + 1 := by simpa using hat
        obtain ⟨t1, t2⟩ := next_step Hbs9.out Hv1.out Hv2.out Hnew9.out hgrow hat2 (by omega) hown10 Hbl9.out
        have Ht1 := hide t1; have Ht2 := hide t2
        have Hlast : Hid (xn + 1 ≤ (goV m (xn + 1)).1.length ∧ (goV m (xn + 1)).1 = addL (goV m xn).1 (succV m (p2, q2, r2)) ∧ ((goV m (xn + 1)).1.take (xn + 1)).map ownV = ((goV m xn).1.take xn).map ownV ++ [qv] ∧ (goV m (xn + 1)).2 = (goV m xn).2 ++ [sortI ((succV m (p2, q2, r2)).map (numI (addL (goV m xn).1 (succV m (p2, q2, r2)))))]) := hide (by
          obtain ⟨rr, er⟩ := addL_pre (succV m (p2, q2, r2)) (goV m xn).1
          rw [Hgo.out]
          refine ⟨by simp only; rw [← Hn8.out]; omega, rfl, ?_, rfl⟩
          simp only
          have hll : xn < (goV m xn).1.length := by rw [← Hnl.out]; exact hlt
          rw [er, List.take_append_of_le_length (by omega), List.take_add_one, Hpk.out]
          simp [Hqv.out])
        clear t1 t2 hgrow hat hat2 hown10 hlt10 g0 g1 g2 g3
        go_wp2_with fail
        go_roundw
        case rel =>
          obtain ⟨l1, l2, l3, l4⟩ := Hlast.out
          exact ⟨xn + 1, ⟨some ⟨pb2, po2, none⟩, n8, c8⟩, ⟨O9, xn + 1, c9⟩, ⟨some ⟨gg, 0, none⟩, xn + 1, cap⟩, by go_num, l1, rfl, rfl, by rw [l3, l2, l4]; exact Ht1.out, Ht2.out⟩
        case measure => simp [intOf]; omega
      · have hlt' : ¬ ((k : Int) < (n : Int)) := by omega
        obtain rfl : k = n := by omega
        have Hall := hide (go_all hT Hnl.out.symm)
        obtain ⟨oA, on, oc⟩ := ow
        obtain ⟨xA, xn, xc⟩ := nx
        simp only at hon hnn
        subst hon
        obtain rfl : xn = on := by omega
        obtain ⟨g0, g1, g2, g3⟩ := Hbs2.out.cells
        simp only [SL.v] at g0 g1
        have hrbr : wr.heap[w.heap.size + 1]? = some (.cells #[.slice none 0 0, .slice none 0 0, .slice none 0 0] 38 (0, 0)) := (Hbl.out.block _ (by omega)).trans Hrb2.out
        have Hrbr := hide hrbr
        obtain ⟨c0, c1, c2, e0, e1, e2⟩ := box3_cells hrbr
        clear hrbr
        go_wp2_with fail
        obtain ⟨s0, s1, s2, _⟩ := box3_cells (box3_at Hrbr.out (.slice oA xn oc) (.slice xA xn xc) (.slice sA2 xn sc2))
        refine bodyPost_ret (v := .tuple #[.agg #[.slice oA xn oc, .slice xA xn xc, .slice sA2 xn sc2], .int .i64 0]) (by simp [results, Tryz.results11, go_sem, s0, s1, s2]) rfl ?_
        obtain ⟨e3, e4, e5⟩ := Hag.out
        have hwb := set3_below (g := w.heap.size + 1) ((Hb2.out.trans (Hbl.out.mono (by omega)))) (by omega) (.slice oA xn oc) (.slice xA xn xc) (.slice sA2 xn sc2)
        have keep : ∀ z, lo ≤ z → (((wr.setCell ⟨w.heap.size + 1, 0, none⟩ (.slice oA xn oc)).setCell ⟨w.heap.size + 1, 1, none⟩ (.slice xA xn xc)).setCell ⟨w.heap.size + 1, 2, none⟩ (.slice sA2 xn sc2)).heap[z]? = wr.heap[z]? := fun z hz => by
          rw [Below.heap_setCell _ _ _ _ (by show z ≠ w.heap.size + 1; omega), Below.heap_setCell _ _ _ _ (by show z ≠ w.heap.size + 1; omega), Below.heap_setCell _ _ _ _ (by show z ≠ w.heap.size + 1; omega)]
        obtain ⟨vs, hv1, hv2⟩ := Hbs2.out.nrow
        have ha1 : (goV m xn).1 = atL m := by rw [Hall.out]
        have ha2 : (goV m xn).2 = nextL m := by rw [Hall.out]
        have ho : ((goV m xn).1.take xn).map ownV = (atL m).map ownV := by rw [ha1, List.take_of_length_le (by rw [← ha1, ← Hnl.out]; exact Nat.le_refl _)]
        have hb := Hbs2.out
        rw [ho, ha1, ha2] at hb
        obtain ⟨vs, hv1, hv2⟩ := hb.nrow
        refine ⟨⟨oA, xn, oc⟩, ⟨xA, xn, xc⟩, ⟨sA2, xn, sc2⟩, by rw [He.out]; rfl, ⟨?_, ?_⟩, ?_, hwb⟩
        · show Gr.RI _ _ _ (arOwn m)
          rw [e3]
          exact Gr.own_ri (own_keep hb.orow (fun z hz => keep z (hb.orow.lt z hz).1))
        · show Gr.RR _ _ _ (arNxt m)
          rw [e4]
          exact rr_of (own_keep hv1 (fun z hz => keep z (hv1.lt z hz).1)) (hv2.keep fun z hz1 hz2 hz3 => ⟨keep z hz1, hz3⟩)
        · rw [e5]
          exact vx_rows (own_keep hb.fs.row (fun z hz => keep z (hb.fs.row.lt z hz).1))
end Go.Proofs.YtbppdalfcldodaaGreat
