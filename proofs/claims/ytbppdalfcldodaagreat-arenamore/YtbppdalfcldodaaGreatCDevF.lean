/- The program's choice: leads. -/
import Derived.Test.YtbppdalfcldodaaGreatCDevE
set_option maxRecDepth 100000
namespace Go.Proofs.YtbppdalfcldodaaGreat
open Go.RowKit Ex
open Go.Sort (grow)
set_option linter.unusedSimpArgs false
set_option linter.unusedVariables false

theorem cross_snoc {ds : List Int} {j : Nat} {d : Int} (h : ds[j]? = some d) (xs : List Int) : crossL (ds.take (j + 1)) xs = crossL (ds.take j) xs ++ xs.map (fun x => x + d) := by
  unfold crossL
  rw [List.take_add_one, h]
  simp
theorem map_snoc {xs : List Int} {i : Nat} {x : Int} (h : xs[i]? = some x) (f : Int → Int) : (xs.take (i + 1)).map f = (xs.take i).map f ++ [f x] := by
  rw [List.take_add_one, h]
  simp
theorem cross_mem {ds xs : List Int} {d x : Int} (hd : d ∈ ds) (hx : x ∈ xs) : x + d ∈ crossL ds xs := by
  unfold crossL
  exact List.mem_flatMap.2 ⟨d, hd, List.mem_map.2 ⟨x, hx, rfl⟩⟩
theorem ints_app (xs ys : List Int) : ints xs ++ ints ys = ints (xs ++ ys) := by simp [ints]

set_option maxHeartbeats 2000000 in
theorem leads_any (B : Nat) (Av : Option Addr) (nv cv : Nat) (lv : List Dom.V) (now nx b : Int) (sA : Option Addr) (sn sc : Nat) (ss : List ST) (w : World) (ho : OkVars ⟨Av, nv, cv⟩ lv) (hB : B ≤ w.heap.size)
    (hrv : Dom.RV w B Av nv lv) (hrs : Rows SetAt 5 w B ⟨sA, sn, sc⟩ ss) (hM : Dom.mayL lv = 0) (h0 : 0 ≤ b) (h1 : b < Dom.totL lv) (ha : Apart lv ss) (hsn : sn ≤ 6) :
    Calls Tryz.prog 57 #[.agg #[.slice Av nv cv, .int .i64 now, .int .i64 nx, .int .i64 b], .slice sA sn sc] w (IntsPost w (leadsL (stepsL lv now nx b) ss b)) := by
  have hbx : Below w.heap.size w (w.alloc (.cells #[.slice Av nv cv, .int .i64 now, .int .i64 nx, .int .i64 b] 93)) := (Below.refl _ _).alloc (Nat.le_refl _) _
  have Hbox := hide (boxT_new w Av nv cv now nx b 93)
  have hz0 : (w.alloc (.cells #[.slice Av nv cv, .int .i64 now, .int .i64 nx, .int .i64 b] 93)).heap.size = w.heap.size + 1 := by simp
  have Hrv := hide (hrv.below (hbx.mono hB))
  have Hrs := hide (hrs.keep (w' := w.alloc (.cells #[.slice Av nv cv, .int .i64 now, .int .i64 nx, .int .i64 b] 93)) (fun b o y h1 hy => SetAt.keep h1 hy (fun p hp => (hbx.mono hB).cell hp)))
  have Hbx := hide hbx
  have Ho := hide ho
  have HM := hide hM
  have Ha := hide ha
  have Hsl := hide hrs.1
  have ht512 := (Dom.totL_bd lv).2
  have H512 : Hid (∀ k, (leadsL (stepsL lv now nx b) (ss.take k) b).length ≤ 512) := hide (fun k => leads_512 hM (ha.take k))
  have Hmem : Hid (∀ k x, k ≤ ss.length → x ∈ leadsL (stepsL lv now nx b) (ss.take k) b → 0 ≤ x ∧ x < Dom.totL lv) := hide (fun k x hk hx => ((leads_mem hM h0 h1 ha k hk x).1 hx).1)
  clear hbx hrv hrs ho hM ha
  obtain ⟨i0, hi0, hi1, hi2, hi3⟩ := info_parts Dom.info3
  have Hi0 := hide hi0; have Hi1 := hide hi1; have Hi2 := hide hi2; have Hi3 := hide hi3
  clear hi0 hi1 hi2 hi3
  obtain ⟨q0, q1, q2, q3⟩ := Hbox.out
  go_enter Tryz.func57, Tryz.ntmps57
  go_wp2_with fail
  clear q0 q1 q2 q3
  generalize w.alloc (.cells #[.slice Av nv cv, .int .i64 now, .int .i64 nx, .int .i64 b] 93) = W at *
  have HbS := hide ((Below.refl W.heap.size W).alloc (Nat.le_refl _) (.cells #[.int .i64 b] 3))
  have HoS := hide (World.ownsRow_lit (base := W.heap.size) (e := 3) (size := 1) W #[.int .i64 b] 1 (Nat.le_refl _) (by unfold maxLen; omega) rfl)
  have hzW : w.heap.size + 1 ≤ W.heap.size := by omega
  go_loopw [5, 18] (fun ov i wr => ∃ (k n c : Nat) (O : Option Addr), k ≤ sn ∧ i = .int .i64 k ∧ ov = .slice O n c ∧ wr.ownsRow W.heap.size 3 1 (.slice O n c) n (ints (leadsL (stepsL lv now nx b) (ss.take k) b)) ∧ Below W.heap.size W wr) (fun _ i _ => sn - (intOf i).toNat)
  case atStart => exact ⟨0, 1, 1, some ⟨w.heap.size + 1, 0, none⟩, by omega, rfl, rfl, by rw [← hz0]; exact HoS.out, HbS.out⟩
  case round =>
    obtain ⟨k, n, c, O, hk, rfl, rfl, how, hb⟩ := hrel
    have How := hide how
    have Hb := hide hb
    have hzr := hb.size
    clear how hb HbS HoS
    by_cases hlt : k < sn
    · have hlt' : ((k : Int) < (sn : Int)) := by omega
      have hbV := Hb.out.mono (show B ≤ W.heap.size by omega)
      obtain ⟨sb, so, s, eA, hsb, hku, ⟨c0, c1, ⟨eo, en, eA2, el, ec⟩, ⟨c2, c3, c4⟩, ⟨dd, hes⟩⟩⟩ := (Hrs.out.keep (w' := wr) (fun b o y h1 hy => SetAt.keep h1 hy (fun p hp => hbV.cell hp))).at_ (k := k) hlt
      simp only at eA c2 c3 c4 hes
      subst eA
      obtain ⟨a0, a1, _⟩ := Ha.out k s hku
      have Htk : Hid (ss.take (k + 1) = ss.take k ++ [s]) := hide (by rw [List.take_add_one, hku]; rfl)
      obtain ⟨z, p, te⟩ := s
      simp only at c0 c1 hes a0 a1
      obtain ⟨zk, rfl⟩ := Int.eq_ofNat_of_zero_le a0
      have hbA := (Below.refl wr.heap.size wr).alloc (Nat.le_refl _) (.cells #[.int .i64 (zk : Int), .bool p, .int .i64 eo, .int .i64 en, .slice eA2 el ec] 111)
      have Hset := hide (boxS_new wr (zk : Int) p eo en eA2 el ec 111)
      have hzA : (wr.alloc (.cells #[.int .i64 (zk : Int), .bool p, .int .i64 eo, .int .i64 en, .slice eA2 el ec] 111)).heap.size = wr.heap.size + 1 := by simp
      have Hes := hide (hes.below (hbA.mono (by omega)))
      have Hrv1 := hide ((Hrv.out.below hbV).below (hbA.mono (by omega)))
      have Hbox1 := hide ((Hbox.out.below Hb.out (by omega)).below hbA (by omega))
      have Hb1 := hide (Hb.out.trans (hbA.mono hzr))
      have How1 := hide (own_below How.out hbA)
      clear hes hbV hbA
      obtain ⟨s0, s1, s2, s3, s4⟩ := Hset.out
      obtain ⟨q0, q1, q2, q3⟩ := Hbox1.out
      go_wp2_with fail
      clear s0 s1 s2 s3 s4 q0 q1 q2 q3 c0 c1 c2 c3 c4
      generalize wr.alloc (.cells #[.int .i64 (zk : Int), .bool p, .int .i64 eo, .int .i64 en, .slice eA2 el ec] 111) = w1 at *
      refine (steps_any B (Av) nv cv lv now nx b zk p te dd eo en eA2 el ec w1 Ho.out (by omega) Hrv1.out Hes.out HM.out h0 h1 (by omega)).mono ?_
      intro e w2 hp
      obtain ⟨O4, n4, c4, rfl, p2, p3, p4⟩ := hp
      have hz4 := p4.size
      have Hb2 := hide (Hb1.out.trans (p4.mono (by omega)))
      have How2 := hide (own_below How1.out p4)
      have Hds := hide (Dom.own_ri p2)
      have Hxs := hide (Dom.own_ri How2.out)
      have Hcr : Hid (leadsL (stepsL lv now nx b) (ss.take (k + 1)) b = crossL (stepsL lv now nx b ⟨(zk : Int), p, te⟩) (leadsL (stepsL lv now nx b) (ss.take k) b)) := hide (by rw [Htk.out, leads_snoc])
      have Hl1 := hide (H512.out (k + 1))
      have Hm1 : Hid (∀ x ∈ leadsL (stepsL lv now nx b) (ss.take (k + 1)) b, 0 ≤ x ∧ x < Dom.totL lv) := hide (fun x hx => Hmem.out (k + 1) x (by rw [Hsl.out]; exact hlt) hx)
      rw [Hcr.out] at Hl1 Hm1
      have hxn : (leadsL (stepsL lv now nx b) (ss.take k) b).length = n := by have := How2.out.1; simpa [ints] using this
      have hn4 : n4 ≤ 512 := by rw [← p3]; exact steps_len HM.out
      clear p2 p4 Hb1 How1 How Hrv1 Hes Hset Htk
      generalize stepsL lv now nx b ⟨(zk : Int), p, te⟩ = ds at *
      generalize hxs : leadsL (stepsL lv now nx b) (ss.take k) b = xs at *
      rw [cross_len, p3, hxn] at Hl1
      have hw2z : W.heap.size ≤ w2.heap.size := by omega
      go_wp2_with fail
      go_loopw [8, 26] (fun ov i wr => ∃ (j c : Nat) (O : Option Addr), j ≤ n4 ∧ i = .int .i64 j ∧ ov = .slice O (j * n) c ∧ wr.ownsRow w2.heap.size 3 1 (.slice O (j * n) c) (j * n) (ints (crossL (ds.take j) xs)) ∧ Below w2.heap.size w2 wr) (fun _ i _ => n4 - (intOf i).toNat)
      case atStart => exact ⟨0, 0, none, by omega, rfl, by rw [Nat.zero_mul], by rw [Nat.zero_mul]; exact ⟨rfl, .inl ⟨rfl, rfl⟩⟩, Below.refl _ _⟩
      case round =>
        obtain ⟨j, c5, O5, hj, rfl, rfl, how5, hb5⟩ := hrel
        have How5 := hide how5
        have Hb5 := hide hb5
        have hz5 := hb5.size
        clear how5 hb5
        by_cases hlt2 : j < n4
        · have hlt2' : ((j : Int) < (n4 : Int)) := by omega
          obtain ⟨db, dof, d, eD, hdb, hdj, cd⟩ := (Hds.out.below Hb5.out).at_ hlt2
          subst eD
          have Hcs := hide (cross_snoc hdj xs)
          have hdm : d ∈ ds := List.mem_of_getElem? hdj
          have hjn : j * n + n ≤ 512 := by
            have := Nat.mul_le_mul_right n (show j + 1 ≤ n4 by omega)
            rw [Nat.add_mul, Nat.one_mul] at this
            have := Hl1.out
            omega
          go_wp2_with fail
          go_loopw [8, 32] (fun ov i wr => ∃ (q c : Nat) (O : Option Addr), q ≤ n ∧ i = .int .i64 q ∧ ov = .slice O (j * n + q) c ∧ wr.ownsRow w2.heap.size 3 1 (.slice O (j * n + q) c) (j * n + q) (ints (crossL (ds.take j) xs ++ (xs.take q).map (fun x => x + d))) ∧ Below w2.heap.size w2 wr) (fun _ i _ => n - (intOf i).toNat)
          case atStart => exact ⟨0, c5, O5, by omega, rfl, rfl, by simpa using How5.out, Hb5.out⟩
          case round =>
            obtain ⟨q, c6, O6, hq, rfl, rfl, how6, hb6⟩ := hrel
            have How6 := hide how6
            have Hb6 := hide hb6
            have hz6 := hb6.size
            clear how6 hb6
            by_cases hlt3 : q < n
            · have hlt3' : ((q : Int) < (n : Int)) := by omega
              obtain ⟨xb, xo, x, eX, hxb, hxq, cx⟩ := (Hxs.out.below Hb6.out).at_ hlt3
              subst eX
              have Hms := hide (map_snoc hxq (fun x => x + d))
              obtain ⟨r0, r1⟩ := Hm1.out (x + d) (cross_mem hdm (List.mem_of_getElem? hxq))
              have hw1 : wrap64 (x + d) = x + d := Dom.wrap64_mid _ (by omega) (by omega)
              go_wp2_with (at_builtin; (try simp only [hw1]); refine wpList_append_lies _ rfl _ _ _ rfl w2.heap.size 3 i0 _ 1 8 Tryz.underlying32 Hi0.out Hi1.out Hi2.out Hi3.out rfl (by omega) (.slice O6 (j * n + q) c6) (j * n + q) (ints (crossL (ds.take j) xs ++ (xs.take q).map (fun x => x + d))) rfl (How6.out.alloc _) ⟨wr.heap.size, 0, none⟩ 1 1 [.int .i64 (x + d)] rfl rfl (World.news_of_block (cs := #[.int .i64 (x + d)]) (t := 3) (fr := (0, 0)) (heap_alloc_new wr _)) (by simp [Value.oneCell']) (by omega) (by unfold maxLen; omega) (by omega) (by simp; omega) _ rfl ?_; intro g7 cap7 w7 hown7 hgrow7 hat7 hlt7)
              have hb7 : Below w2.heap.size w2 w7 := (Hb6.out.alloc (by omega) _).grown hgrow7 (by simp; omega) (fun j hj => by have := (How6.out.lt j hj).1; omega)
              have Ho7 := hide hown7
              rw [ints_snoc, List.append_assoc, ← Hms.out] at Ho7
              clear hown7 hgrow7 hat7 cx
              go_roundw
              case rel => exact ⟨q + 1, cap7, some ⟨g7, 0, none⟩, by omega, by go_num, rfl, Ho7.out, hb7⟩
              case measure => simp [intOf]; omega
            · have hlt3' : ¬ ((q : Int) < (n : Int)) := by omega
              obtain rfl : q = n := by omega
              have Ho8 := How6
              rw [show xs.take q = xs from by rw [← hxn, List.take_length], ← Hcs.out, show j * q + q = (j + 1) * q by rw [Nat.add_mul, Nat.one_mul]] at Ho8
              go_wp2_with fail
              go_roundw
              case rel => exact ⟨j + 1, c6, O6, by omega, by go_num, by rw [Nat.add_mul, Nat.one_mul], Ho8.out, Hb6.out⟩
              case measure => simp [intOf]; omega
        · have hlt2' : ¬ ((j : Int) < (n4 : Int)) := by omega
          obtain rfl : j = n4 := by omega
          have Ho8 := How5
          rw [show ds.take j = ds from by rw [← p3, List.take_length]] at Ho8
          go_wp2_with fail
          go_roundw
          case rel => exact ⟨k + 1, j * n, c5, O5, by omega, by go_num, rfl, by rw [Hcr.out]; exact own_base0 Ho8.out hw2z, Hb2.out.trans (Hb5.out.mono hw2z)⟩
          case measure => simp [intOf]; omega
    · have hlt' : ¬ ((k : Int) < (sn : Int)) := by omega
      obtain rfl : k = sn := by omega
      go_wp2_with fail
      go_ret
      have how := How.out
      have e : ss.take k = ss := by have := Hsl.out; rw [← this, List.take_length]
      rw [e] at how
      exact ⟨O, n, c, rfl, own_base0 how (by omega), by have := how.1; simpa [ints] using this, Hbx.out.trans (Hb.out.mono (by omega))⟩
end Go.Proofs.YtbppdalfcldodaaGreat
