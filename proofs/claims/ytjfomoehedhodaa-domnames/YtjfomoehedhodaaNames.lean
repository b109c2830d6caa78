/- The walk of the statement DomNames. -/
import Derived.Test.YtjfomoehedhodaaNamesMath
namespace Go.Proofs.Ytjfomoehedhodaa
open Go.RowKit Go.WideMaps Go.Maps
set_option linter.unusedSimpArgs false
set_option linter.unusedVariables false

theorem block_add (a : Addr) (j : Nat) : (a.add j).block = a.block := by unfold Addr.add; split <;> rfl
theorem heap_second (w : World) (A O : Obj) : ((w.alloc A).alloc O).heap[w.heap.size + 1]? = some O := by have := heap_alloc_new (w.alloc A) O; rw [World.size_alloc] at this; exact this
theorem mod_bd2 (s : Int) (n : Nat) (h1 : 1 ≤ n) (h2 : n ≤ 10) : ∃ j : Nat, j < n ∧ wrap64 ((IntKind.u64.wrap s).tmod (n : Int)) = (j : Int) := by
  obtain ⟨a, b⟩ := mod_bd s n (by omega) (by omega)
  exact ⟨(wrap64 ((IntKind.u64.wrap s).tmod (n : Int))).toNat, by omega, by omega⟩

set_option maxRecDepth 100000 in
set_option maxHeartbeats 2000000 in
theorem names_ok_any (A : Option Addr) (n c B : Nat) (l : List V) (s : Int) (w : World) (hm : n ≤ maxLen) (hnc : n ≤ c) (hc : c ≤ maxLen) (hB : B ≤ w.heap.size) (hv : RV w B A n l) (hnm : ∀ v ∈ l, v.nm.size ≤ maxLen) (hh : heavyGo 0 l = 0) (hn0 : 0 < n) (hM : mayL l = 0) :
    Calls Try.prog 6 #[.slice A n c, .int .i64 s] w fun e w' => e = .returned (.bool true) ∧ Below w.heap.size w w' := by
  have Hm := hide hm
  have Hc := hide hc
  have ht := (mayL_zero hM).2
  have H0 := hide (mayL_zero hM).1
  have hn6 : n ≤ 6 := by have := totL_len ht; rw [hv.1] at this; exact this
  have hn0b : ((n : Int) == 0) = false := by rw [beq_eq_false_iff_ne]; omega
  have hn0c : (n == 0) = false := by rw [beq_eq_false_iff_ne]; omega
  have Hn := hide hv.1
  have Hv := hide hv; clear hv
  have Hnm := hide hnm; clear hnm
  have Hh := hide hh; clear hh
  have HM := hide hM
  clear hm hc hM ht
  go_enter Try.func6, Try.ntmps6
  go_wp2_with fail
  refine (heavy_any A n c B l _ Hm.out hB Hv.out Hnm.out).mono ?_
  rintro e w1 ⟨rfl, hb1⟩
  rw [Hh.out]
  have Hb1 := hide hb1
  have hz1 := hb1.size
  clear hb1
  go_wp2_with fail
  refine (may_any A n c B l _ Hm.out (by omega) (Hv.out.below (Hb1.out.mono hB)) Hnm.out).mono ?_
  rintro e w2 ⟨rfl, hb2⟩
  rw [HM.out]
  have hz2 := hb2.size
  have Hb2 := hide (Hb1.out.trans (hb2.mono hz1))
  clear hb2
  go_wp2_with fail
  have hb2 := Hb2.out
  go_loopw [24] (fun i wr => ∃ (k : Nat), k ≤ n ∧ i = .int .i64 k ∧ Below w.heap.size w wr) (fun i _ => n - (intOf i).toNat)
  case atStart => exact ⟨0, Nat.zero_le _, rfl, hb2⟩
  case round =>
    obtain ⟨k, hk, rfl, hb⟩ := hrel
    have hsz := hb.size
    by_cases hlt : k < n
    · have hlt' : ((k : Int) < (n : Int)) := by omega
      obtain ⟨b, off, v, rfl, hbB, hlk, c0, c1, c2, c3, c4⟩ := (Hv.out.below (hb.mono hB)).at_ hlt
      have Hf := hide (find_own H0.out hlk)
      clear hlk
      have Hv2 := hide (Hv.out.below ((hb.alloc hsz (.cells #[.string v.nm, .bool v.env, .int .i64 v.srt, .int .i64 v.lo, .int .i64 v.hi] 36)).mono hB))
      go_wp2_with fail
      refine (find_any _ n c B l v.nm _ Hm.out (by simp; omega) Hv2.out).mono ?_
      rintro e w4 ⟨rfl, hb4⟩
      rw [Hf.out]
      have hbw4 := below_box hb (Nat.le_refl _) hb4
      clear c0 c1 c2 c3 c4 hb4
      go_wp2_with fail
      go_roundw
      case rel => exact ⟨k + 1, by omega, by go_num, hbw4⟩
      case measure => simp [intOf]; omega
    · have hlt' : ¬ ((k : Int) < (n : Int)) := by omega
      have Hb := hide hb
      clear hb
      obtain ⟨b, off, _, hA, _, _, _⟩ := (Hv.out.below (Hb.out.mono hB)).at_ hn0
      subst hA
      obtain ⟨j, hj, hje⟩ := mod_bd2 s n (by omega) (by omega)
      obtain ⟨_, _, u, hA, hbB, hlu, c0, c1, c2, c3, c4⟩ := (Hv.out.below (Hb.out.mono hB)).at_ hj
      injection hA with hA
      injection hA with e1 e2
      subst e1; subst e2
      obtain ⟨i0, hi0, hz0, hz1', hz2'⟩ := info_parts info36
      have Hi0 := hide hi0; have Hz0 := hide hz0; have Hz1 := hide hz1'; have Hz2 := hide hz2'
      have Hlu := hide hlu
      have Hnews := hide ((Hv.out.below (Hb.out.mono hB)).news hn0)
      have hj0 : (0 : Int) ≤ (j : Int) := by omega
      have hj1 : (j : Int) < (n : Int) := by omega
      have hnz : ¬ (n : Int) = 0 := by omega
      have hblt : b < wr.heap.size := by omega
      have hbw : b < w.heap.size := by omega
      have hje2 : IntKind.i64.wrap ((IntKind.u64.wrap s).tmod (n : Int)) = (j : Int) := by rw [IntWalk.i64_left]; exact hje
      have hwn : IntKind.u64.wrap (n : Int) = (n : Int) := by rw [IntKind.wrap_u64]; omega
      have hnz2 : ¬ n = 0 := by omega
      clear hi0 hz0 hz1' hz2' hlu
      go_wp2_with fail
      go_region_held3 (fun w' => w'.cell? ⟨b, off + j * 5, none⟩ = some (.string u.nm) ∧ w'.cell? ⟨b, off + j * 5 + 1, none⟩ = some (.bool u.env) ∧ w'.cell? ⟨b, off + j * 5 + 2, none⟩ = some (.int .i64 u.srt) ∧ w'.cell? ⟨b, off + j * 5 + 3, none⟩ = some (.int .i64 u.lo) ∧ w'.cell? ⟨b, off + j * 5 + 4, none⟩ = some (.int .i64 u.hi))
        (first | go_keep | exact ⟨(hbw6.cell (by exact hbw)).trans ((Hb.out.cell (by exact hbw)).symm.trans c0), (hbw6.cell (by exact hbw)).trans ((Hb.out.cell (by exact hbw)).symm.trans c1), (hbw6.cell (by exact hbw)).trans ((Hb.out.cell (by exact hbw)).symm.trans c2), (hbw6.cell (by exact hbw)).trans ((Hb.out.cell (by exact hbw)).symm.trans c3), (hbw6.cell (by exact hbw)).trans ((Hb.out.cell (by exact hbw)).symm.trans c4)⟩ | exact ⟨(hbw5.cell (by exact hbw)).trans ((Hb.out.cell (by exact hbw)).symm.trans c0), (hbw5.cell (by exact hbw)).trans ((Hb.out.cell (by exact hbw)).symm.trans c1), (hbw5.cell (by exact hbw)).trans ((Hb.out.cell (by exact hbw)).symm.trans c2), (hbw5.cell (by exact hbw)).trans ((Hb.out.cell (by exact hbw)).symm.trans c3), (hbw5.cell (by exact hbw)).trans ((Hb.out.cell (by exact hbw)).symm.trans c4)⟩)
        (first
          | (refine step_append_lies _ (by rfl) _ _ _ (by rfl) w.heap.size 36 i0 _ 5 48 Try.underlying22 Hi0.out Hz0.out Hz1.out Hz2.out rfl (by omega) (.slice (some ⟨wr.heap.size, 0, none⟩) 0 0) 0 [] (by rfl) (own_none hsz (heap_alloc_new wr _))
              ⟨b, off, none⟩ n c (cellsL l) (by rfl) (by rw [cellsL_length, Hn.out]) (fun j u hu => ?_) (cellsL_one l) hn0 (by unfold maxLen; omega) (by omega) (by simp; omega) _ rfl ?_
             · (first | exact (World.cell?_alloc_lt _ _ _ (by rw [block_add]; exact hblt)).trans (Hnews.out j u hu) | exact (World.cell?_alloc_lt _ _ _ (by rw [block_add]; simp; omega)).trans ((World.cell?_alloc_lt _ _ _ (by rw [block_add]; exact hblt)).trans (Hnews.out j u hu)))
             intro gg cap w5 hown5 hgrow hat hlt5
             have hbw5 : Below w.heap.size w w5 := ((Hb.out.alloc hsz _).drew).grown hgrow (by simp; omega) (fun q hq => by simp [Value.ownBlock] at hq; omega)
             have hown5b : w5.ownsRow w.heap.size 36 5 (.slice (some ⟨gg, 0, none⟩) n cap) n (cellsL l) := by simpa only [Nat.zero_add, List.nil_append] using hown5
             clear hown5
             rw [Nat.zero_add])
          | (refine step_append_lies _ (by rfl) _ _ _ (by rfl) w.heap.size 36 i0 _ 5 48 Try.underlying22 Hi0.out Hz0.out Hz1.out Hz2.out rfl (by omega) (.slice (some ⟨wr.heap.size, 0, none⟩) 0 0) 0 [] (by rfl) (own_none hsz ((Below.heap_alloc _ _ _ (by simp)).trans (heap_alloc_new wr _)))
              ⟨b, off, none⟩ n c (cellsL l) (by rfl) (by rw [cellsL_length, Hn.out]) (fun j u hu => ?_) (cellsL_one l) hn0 (by unfold maxLen; omega) (by omega) (by simp; omega) _ rfl ?_
             · (first | exact (World.cell?_alloc_lt _ _ _ (by rw [block_add]; exact hblt)).trans (Hnews.out j u hu) | exact (World.cell?_alloc_lt _ _ _ (by rw [block_add]; simp; omega)).trans ((World.cell?_alloc_lt _ _ _ (by rw [block_add]; exact hblt)).trans (Hnews.out j u hu)))
             intro gg cap w5 hown5 hgrow hat hlt5
             have hbw5 : Below w.heap.size w w5 := (((Hb.out.alloc hsz _).alloc (by simp; omega) _).drew).grown hgrow (by simp; omega) (fun q hq => by simp [Value.ownBlock] at hq; omega)
             have hown5b : w5.ownsRow w.heap.size 36 5 (.slice (some ⟨gg, 0, none⟩) n cap) n (cellsL l) := by simpa only [Nat.zero_add, List.nil_append] using hown5
             clear hown5
             rw [Nat.zero_add])
          | (refine step_append_lies _ (by rfl) _ _ _ (by rfl) w.heap.size 36 i0 _ 5 48 Try.underlying22 Hi0.out Hz0.out Hz1.out Hz2.out rfl (by omega) (.slice (some ⟨wr.heap.size + 1, 0, none⟩) 0 0) 0 [] (by rfl) (own_none (by omega) (heap_second wr (.cells #[.string u.nm, .bool u.env, .int .i64 u.srt, .int .i64 u.lo, .int .i64 u.hi] 36) (.cells #[] 36)))
              ⟨b, off, none⟩ n c (cellsL l) (by rfl) (by rw [cellsL_length, Hn.out]) (fun j u hu => ?_) (cellsL_one l) hn0 (by unfold maxLen; omega) (by omega) (by simp; omega) _ rfl ?_
             · (first | exact (World.cell?_alloc_lt _ _ _ (by rw [block_add]; exact hblt)).trans (Hnews.out j u hu) | exact (World.cell?_alloc_lt _ _ _ (by rw [block_add]; simp; omega)).trans ((World.cell?_alloc_lt _ _ _ (by rw [block_add]; exact hblt)).trans (Hnews.out j u hu)))
             intro gg cap w5 hown5 hgrow hat hlt5
             have hbw5 : Below w.heap.size w w5 := (((Hb.out.alloc hsz _).alloc (by simp; omega) _).drew).grown hgrow (by simp; omega) (fun q hq => by simp [Value.ownBlock] at hq; omega)
             have hown5b : w5.ownsRow w.heap.size 36 5 (.slice (some ⟨gg, 0, none⟩) n cap) n (cellsL l) := by simpa only [Nat.zero_add, List.nil_append] using hown5
             clear hown5
             rw [Nat.zero_add])
          | (refine step_append_lies _ (by rfl) _ _ _ (by rfl) w.heap.size 36 i0 _ 5 48 Try.underlying22 Hi0.out Hz0.out Hz1.out Hz2.out rfl (by omega) (.slice (some ⟨gg, 0, none⟩) n cap) n (cellsL l) (by rfl) (hown5b.alloc _)
              ⟨w5.heap.size, 0, none⟩ 1 1 [.string u.nm, .bool u.env, .int .i64 u.srt, .int .i64 u.lo, .int .i64 u.hi] (by rfl) (by rfl) (World.news_of_block (cs := #[.string u.nm, .bool u.env, .int .i64 u.srt, .int .i64 u.lo, .int .i64 u.hi]) (t := 36) (fr := (0, 0)) (heap_alloc_new w5 _)) (by simp [Value.oneCell'])
              (by omega) (by unfold maxLen; omega) (by omega) (by have := hbw5.size; simp; omega) _ rfl ?_
             intro g6 cap6 w6 hown6 hgrow6 hat6 hlt6
             have hbw6 : Below w.heap.size w w6 := (hbw5.alloc hbw5.size _).grown hgrow6 (by have := hbw5.size; simp; omega) (fun q hq => by simp [Value.ownBlock] at hq; rcases hat with h | h <;> simp [Value.ownBlock] at h <;> omega))
          | (refine step_append_lies _ (by rfl) _ _ _ (by rfl) w.heap.size 36 i0 _ 5 48 Try.underlying22 Hi0.out Hz0.out Hz1.out Hz2.out rfl (by omega) (.slice (some ⟨gg, 0, none⟩) n cap) n (cellsL l) (by rfl) (hown5b)
              ⟨wr.heap.size + 1, 0, none⟩ 1 1 [.string u.nm, .bool u.env, .int .i64 u.srt, .int .i64 u.lo, .int .i64 u.hi] (by rfl) (by rfl) (World.news_of_block (cs := #[.string u.nm, .bool u.env, .int .i64 u.srt, .int .i64 u.lo, .int .i64 u.hi]) (t := 36) (fr := (0, 0)) ((hgrow.block (wr.heap.size + 1) (by simp) (by simp [Value.ownBlock])).trans (heap_second wr (.cells #[] 36) (.cells #[.string u.nm, .bool u.env, .int .i64 u.srt, .int .i64 u.lo, .int .i64 u.hi] 36)))) (by simp [Value.oneCell'])
              (by omega) (by unfold maxLen; omega) (by omega) (by have := hbw5.size; simp; omega) _ rfl ?_
             intro g6 cap6 w6 hown6 hgrow6 hat6 hlt6
             have hbw6 : Below w.heap.size w w6 := hbw5.grown hgrow6 hbw5.size (fun q hq => by simp [Value.ownBlock] at hq; rcases hat with h | h <;> simp [Value.ownBlock] at h <;> omega))
          | (refine step_append_lies _ (by rfl) _ _ _ (by rfl) w.heap.size 36 i0 _ 5 48 Try.underlying22 Hi0.out Hz0.out Hz1.out Hz2.out rfl (by omega) (.slice (some ⟨gg, 0, none⟩) n cap) n (cellsL l) (by rfl) (hown5b)
              ⟨wr.heap.size, 0, none⟩ 1 1 [.string u.nm, .bool u.env, .int .i64 u.srt, .int .i64 u.lo, .int .i64 u.hi] (by rfl) (by rfl) (World.news_of_block (cs := #[.string u.nm, .bool u.env, .int .i64 u.srt, .int .i64 u.lo, .int .i64 u.hi]) (t := 36) (fr := (0, 0)) ((hgrow.block wr.heap.size (by simp; omega) (by simp [Value.ownBlock])).trans ((Below.heap_alloc _ _ _ (by simp)).trans (heap_alloc_new wr _)))) (by simp [Value.oneCell'])
              (by omega) (by unfold maxLen; omega) (by omega) (by have := hbw5.size; simp; omega) _ rfl ?_
             intro g6 cap6 w6 hown6 hgrow6 hat6 hlt6
             have hbw6 : Below w.heap.size w w6 := hbw5.grown hgrow6 hbw5.size (fun q hq => by simp [Value.ownBlock] at hq; rcases hat with h | h <;> simp [Value.ownBlock] at h <;> omega)))
      all_goals
        rw [← cellsL_append] at hown6
        have Hrv6 := hide (own_rv hown6 (by rw [List.length_append, Hn.out]; rfl))
        have Hmem := hide (List.mem_of_getElem? Hlu.out)
        have Hm6 := hide (may_twice HM.out Hmem.out)
        have Hnm6 : Hid (∀ v ∈ l ++ [u], v.nm.size ≤ maxLen) := hide (fun v hv => by
          rcases List.mem_append.1 hv with h | h
          · exact Hnm.out v h
          · simp at h; subst h; exact Hnm.out _ Hmem.out)
        have Hb6 := hide hbw6
        have hz6 := hbw6.size
        obtain ⟨tb0, tb1⟩ := totL_bd (l ++ [u])
        have tb1b : decide (totL (l ++ [u]) ≤ 512) = true := by simp [tb1]
        have Hm1 : Hid (n + 1 ≤ maxLen) := hide (by unfold maxLen; omega)
        clear hown6 hgrow hat hlt5 hbw5 hown5b hgrow6 hat6 hlt6 hbw6 c0 c1 c2 c3 c4 hje hje2 hwn hnz hnz2
        go_wp2_with fail
        refine (may_any _ (n + 1) cap6 w6.heap.size (l ++ [u]) _ Hm1.out (Nat.le_refl _) Hrv6.out Hnm6.out).mono ?_
        rintro e w7 ⟨rfl, hb7⟩
        rw [Hm6.out]
        have hz7 := hb7.size
        have Hb7 := hide (Hb6.out.trans (hb7.mono (by omega)))
        have Hrv7 := hide (Hrv6.out.below hb7)
        clear hb7 Hrv6
        go_wp2_with fail
        refine (find_any _ n c B l ⟨#[110, 111, 32, 115, 117, 99, 104, 32, 110, 97, 109, 101, 32, 111, 102, 32, 97, 110, 121]⟩ _ Hm.out (by omega) (Hv.out.below (Hb7.out.mono hB))).mono ?_
        rintro e w8 ⟨rfl, hb8⟩
        rw [show findGo (ByteArray.toList ⟨#[110, 111, 32, 115, 117, 99, 104, 32, 110, 97, 109, 101, 32, 111, 102, 32, 97, 110, 121]⟩) 0 l = -1 from find_no H0.out]
        have hz8 := hb8.size
        have Hb8 := hide (Hb7.out.trans (hb8.mono (by omega)))
        have Hrv8 := hide (Hrv7.out.below (hb8.mono (by omega)))
        clear hb8 Hrv7
        go_wp2_with fail
        refine (total_any _ (n + 1) cap6 w6.heap.size (l ++ [u]) _ Hm1.out (by omega) Hrv8.out).mono ?_
        rintro e w9 ⟨rfl, hb9⟩
        have hz9 := hb9.size
        have Hb9 := hide (Hb8.out.trans (hb9.mono (by omega)))
        clear hb9 Hrv8
        go_wp2_with fail
        refine (awake_any _).mono ?_
        rintro e w10 ⟨rfl, hb10⟩
        have Hb10 := hide (Hb9.out.trans (hb10.mono (by omega)))
        clear hb10
        go_wp2_with fail
        go_ret
        exact ⟨rfl, Hb10.out⟩

set_option maxRecDepth 100000 in
set_option maxHeartbeats 1000000 in
theorem names_any (A : Option Addr) (n c B : Nat) (l : List V) (s : Int) (w : World) (hm : n ≤ maxLen) (hnc : n ≤ c) (hc : c ≤ maxLen) (hB : B ≤ w.heap.size) (hv : RV w B A n l) (hnm : ∀ v ∈ l, v.nm.size ≤ maxLen) :
    Calls Try.prog 6 #[.slice A n c, .int .i64 s] w fun e w' => e = .returned (.bool true) ∧ Below w.heap.size w w' := by
  have Hm := hide hm
  have Hv := hide hv
  have Hnm := hide hnm
  by_cases hh : heavyGo 0 l = 0
  · have Hh := hide hh
    by_cases hn0 : n = 0
    · subst hn0
      clear hm hc hv hnm hh
      go_enter Try.func6, Try.ntmps6
      go_wp2_with fail
      refine (heavy_any A 0 c B l _ Hm.out hB Hv.out Hnm.out).mono ?_
      rintro e w1 ⟨rfl, hb1⟩
      rw [Hh.out]
      have Hb1 := hide hb1
      have hz1 := hb1.size
      clear hb1
      go_wp2_with fail
      refine (awake_any _).mono ?_
      rintro e w4 ⟨rfl, hb4⟩
      have Hb4 := hide (Hb1.out.trans (hb4.mono (by omega)))
      clear hb4
      go_wp2_with fail
      go_ret
      exact ⟨rfl, Hb4.out⟩
    · by_cases hM : mayL l = 0
      · exact names_ok_any A n c B l s w hm hnc hc hB hv hnm hh (by omega) hM
      · have hn0b : ((n : Int) == 0) = false := by rw [beq_eq_false_iff_ne]; omega
        have hn0c : (n == 0) = false := by rw [beq_eq_false_iff_ne]; omega
        have hMb : (mayL l != 0) = true := by simp [hM]
        obtain ⟨hl10, _⟩ := heavy_none l 0 hh
        have hn10 : n ≤ 10 := by rw [hv.1] at hl10; omega
        clear hm hc hv hnm hM hh hl10
        go_enter Try.func6, Try.ntmps6
        go_wp2_with fail
        refine (heavy_any A n c B l _ Hm.out hB Hv.out Hnm.out).mono ?_
        rintro e w1 ⟨rfl, hb1⟩
        rw [Hh.out]
        have Hb1 := hide hb1
        have hz1 := hb1.size
        clear hb1
        go_wp2_with fail
        refine (may_any A n c B l _ Hm.out (by omega) (Hv.out.below (Hb1.out.mono hB)) Hnm.out).mono ?_
        rintro e w2 ⟨rfl, hb2⟩
        have hz2 := hb2.size
        have Hb2 := hide (Hb1.out.trans (hb2.mono hz1))
        clear hb2
        go_wp2_with fail
        refine (awake_any _).mono ?_
        rintro e w4 ⟨rfl, hb4⟩
        have Hb4 := hide (Hb2.out.trans (hb4.mono (by omega)))
        clear hb4
        go_wp2_with fail
        go_ret
        exact ⟨rfl, Hb4.out⟩
  · have hh2 : 0 < heavyGo 0 l := by have := heavy_nonneg l 0; omega
    have hhb : decide (0 < heavyGo 0 l) = true := by simp [hh2]
    clear hm hc hv hnm hh
    go_enter Try.func6, Try.ntmps6
    go_wp2_with fail
    refine (heavy_any A n c B l _ Hm.out hB Hv.out Hnm.out).mono ?_
    rintro e w1 ⟨rfl, hb1⟩
    have Hb1 := hide hb1
    have hz1 := hb1.size
    clear hb1
    go_wp2_with fail
    refine (awake_any _).mono ?_
    rintro e w4 ⟨rfl, hb4⟩
    have Hb4 := hide (Hb1.out.trans (hb4.mono (by omega)))
    clear hb4
    go_wp2_with fail
    go_ret
    exact ⟨rfl, Hb4.out⟩
end Go.Proofs.Ytjfomoehedhodaa
