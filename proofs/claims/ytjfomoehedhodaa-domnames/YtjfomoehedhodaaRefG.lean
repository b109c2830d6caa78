/- The walks of the reference's With and Part. -/
import Derived.Test.YtjfomoehedhodaaRefF
namespace Go.Proofs.Ytjfomoehedhodaa
open Go.RowKit Go.WideMaps Go.Maps
set_option linter.unusedSimpArgs false
set_option linter.unusedVariables false

theorem has_set_eq : ∀ (l : List V) (xs : List Int) (k : Nat) (v : V) (x : Int), hasAll l xs = true → xs.length = l.length → l[k]? = some v → hasAll l (xs.set k x) = hasB v.srt v.lo v.hi x
  | [], _, k, v, x, _, _, h => by simp at h
  | _ :: _, [], k, v, x, _, h, _ => by simp at h
  | u :: r, y :: ys, 0, v, x, ha, hl, h1 => by
    simp at h1; subst h1
    rw [hasAll, Bool.and_eq_true] at ha
    simp [hasAll, ha.2]
  | u :: r, y :: ys, k + 1, v, x, ha, hl, h1 => by
    rw [hasAll, Bool.and_eq_true] at ha
    simp only [List.set_cons_succ, hasAll, ha.1, Bool.true_and]
    exact has_set_eq r ys k v x ha.2 (by simpa using hl) (by simpa using h1)
theorem with_state {l : List V} {s x : Int} {k : Nat} {v : V} (hg : goodS l s = true) (hl : l[k]? = some v) :
    stateOk l ((valsL l s).set k x) = withOk l s k x ∧ stateV l ((valsL l s).set k x) = withV l s k x := by
  obtain ⟨hM, _, _⟩ := goodS_true hg
  have h1 : stateOk l ((valsL l s).set k x) = hasB v.srt v.lo v.hi x := by
    have := has_set_eq l (valsL l s) k v x (has_vals l s (mayL_all hM)) (valsL_length l s) hl
    simp [stateOk, hM, valsL_length, this]
  have h2 : withOk l s k x = hasB v.srt v.lo v.hi x := by simp [withOk, hasAt, hg, hl, show ¬ (k : Int) < 0 by omega]
  refine ⟨h1.trans h2.symm, ?_⟩
  unfold stateV withV
  rw [h1, h2, Int.toNat_natCast]
theorem own_ri {w : World} {base n c : Nat} {A : Option Addr} {xs : List Int} (h : w.ownsRow base 3 1 (.slice A n c) n (ints xs)) : RI w w.heap.size A n xs := by
  have hl : xs.length = n := by have := h.1; simpa [ints] using this
  refine ⟨hl, fun hn => ?_⟩
  obtain ⟨g, cap, hv, hb, hlt⟩ := h.form hn
  have hA : A = some ⟨g, 0, none⟩ := by injection hv
  subst hA
  refine ⟨g, 0, rfl, hlt, fun k x hx => ?_⟩
  have := h.cells (g := g) rfl k (.int .i64 x) (by simp [ints, hx])
  rw [Nat.zero_add]
  by_cases hk : k = 0
  · subst hk; simpa [Addr.add] using this
  · simpa [Addr.add, hk] using this
theorem ints_set (xs : List Int) (k : Nat) (x : Int) : ints (xs.set k x) = (ints xs).set k (.int .i64 x) := by simp [ints, List.map_set]

set_option maxHeartbeats 1000000 in
theorem rwith_any (A : Option Addr) (n c B : Nat) (l : List V) (s i x : Int) (w : World) (hm : n ≤ maxLen) (hnc : n ≤ c) (hc : c ≤ maxLen) (hB : B ≤ w.heap.size) (hv : RV w B A n l) (hnm : ∀ v ∈ l, v.nm.size ≤ maxLen) :
    Calls Try.prog 16 #[.slice A n c, .int .i64 s, .int .i64 i, .int .i64 x] w fun e w' => e = .returned (.tuple #[.int .i64 (withV l s i x), .bool (withOk l s i x)]) ∧ Below w.heap.size w w' := by
  have Hm := hide hm
  have Hc := hide hc
  have Hn := hide hv.1
  have Hv := hide hv; clear hv
  have Hnm := hide hnm; clear hnm
  clear hc
  have Hno : Hid (withOk l s i x = false → Value.tuple #[.int .i64 (withV l s i x), .bool (withOk l s i x)] = Value.tuple #[.int .i64 0, .bool false]) := hide (fun h => by unfold withV; rw [h]; rfl)
  cases hg : goodS l s
  · have Hr : Hid (withOk l s i x = false) := hide (by unfold withOk; rw [hg]; rfl)
    have Hg := hide (goodS_false hg)
    clear hg hm
    go_enter Try.func16, Try.ntmps16
    go_wp2_with fail
    refine (rvals_bad A n c B l s _ Hm.out hnc Hc.out hB Hv.out Hnm.out Hg.out).mono ?_
    rintro e w1 ⟨rfl, hb1⟩
    go_wp2_with fail
    go_ret2
    exact ⟨by rw [Hno.out Hr.out]; rfl, hb1⟩
  · obtain ⟨hM, hs0, hs1⟩ := goodS_true hg
    have ht := (mayL_zero hM).2
    have hn6 : n ≤ 6 := by have := totL_len ht; rw [Hn.out] at this; exact this
    have HM := hide hM
    have Hg := hide hg
    clear hm ht hM hg
    by_cases hi0 : i < 0
    · have hi0b : decide (i < 0) = true := by simp [hi0]
      have Hr : Hid (withOk l s i x = false) := hide (by simp [withOk, hasAt, hi0])
      clear hi0
      go_enter Try.func16, Try.ntmps16
      go_wp2_with fail
      refine (rvals_good A n c B l s _ hnc Hc.out hB Hv.out Hnm.out HM.out hs0 hs1).mono ?_
      rintro e w1 ⟨D, cd, rfl, hown, hb1⟩
      go_wp2_with fail
      go_ret2
      exact ⟨by rw [Hno.out Hr.out]; rfl, hb1⟩
    · have hi0b : decide (i < 0) = false := by simp; omega
      by_cases hin : (n : Int) ≤ i
      · have hinb : decide ((n : Int) ≤ i) = true := by simp [hin]
        have Hr : Hid (withOk l s i x = false) := hide (by
          have : l[i.toNat]? = none := List.getElem?_eq_none (by rw [Hn.out]; omega)
          simp [withOk, hasAt, hi0, this])
        clear hi0
        go_enter Try.func16, Try.ntmps16
        go_wp2_with fail
        refine (rvals_good A n c B l s _ hnc Hc.out hB Hv.out Hnm.out HM.out hs0 hs1).mono ?_
        rintro e w1 ⟨D, cd, rfl, hown, hb1⟩
        go_wp2_with fail
        go_ret2
        exact ⟨by rw [Hno.out Hr.out]; rfl, hb1⟩
      · have hinb : decide ((n : Int) ≤ i) = false := by simp; omega
        obtain ⟨k, rfl⟩ := Int.eq_ofNat_of_zero_le (show 0 ≤ i by omega)
        have hk : k < n := by omega
        have hinb2 : decide (n ≤ k) = false := by simp; omega
        obtain ⟨v, hlk⟩ : ∃ v, l[k]? = some v := ⟨l[k]'(by rw [Hn.out]; exact hk), List.getElem?_eq_getElem _⟩
        obtain ⟨hw1, hw2⟩ := with_state (x := x) Hg.out hlk
        have Hw1 := hide hw1; have Hw2 := hide hw2
        clear hi0 hlk hw1 hw2
        have hk' : (k : Int) < (n : Int) := by omega
        go_enter Try.func16, Try.ntmps16
        go_wp2_with fail
        refine (rvals_good A n c B l s _ hnc Hc.out hB Hv.out Hnm.out HM.out hs0 hs1).mono ?_
        rintro e w1 ⟨D, cd, rfl, hown, hb1⟩
        obtain ⟨g, cap, hv, hgb, hglt⟩ := hown.form (by omega)
        injection hv with hD _ hcd
        subst hD; subst hcd
        have hz1 := hb1.size
        obtain ⟨u, hu⟩ : ∃ u, w1.cell? ⟨g, k, none⟩ = some u := by
          obtain ⟨b', o', x', e', _, _, hc'⟩ := (own_ri hown).at_ hk
          injection e' with e'
          injection e' with e1 e2
          subst e1; subst e2
          rw [Nat.zero_add] at hc'
          exact ⟨_, hc'⟩
        have hfz := hown.frozenAt k
        obtain ⟨hst, hgr⟩ := hown.stored k (.int .i64 x)
        rw [← ints_set] at hst
        have hri : RI (w1.setCell ⟨g, k, none⟩ (.int .i64 x)) w1.heap.size (some ⟨g, 0, none⟩) n ((valsL l s).set k x) := by have := own_ri hst; simpa [World.setCell] using this
        have Hri := hide hri
        have hbw3 : Below w.heap.size w (w1.setCell ⟨g, k, none⟩ (.int .i64 x)) := hb1.setCell (by exact hgb) _
        have hz3 : w1.heap.size ≤ (w1.setCell ⟨g, k, none⟩ (.int .i64 x)).heap.size := by simp [World.setCell]
        have Hv3 := hide (((Hv.out.below (hbw3.mono hB))).more (show B ≤ w1.heap.size by omega))
        clear hown hst hgr hri
        go_wp2_with fail
        refine (rstate_any A n c w1.heap.size l _ n cd _ _ Hm.out hnc Hc.out Hm.out hz3 Hv3.out Hri.out Hnm.out).mono ?_
        rintro e w4 ⟨rfl, hb4⟩
        rw [Hw1.out, Hw2.out]
        have hbw4 := hbw3.trans (hb4.mono (by omega))
        go_wp2_with fail
        go_ret2
        exact ⟨rfl, hbw4⟩

theorem part_state {l : List V} {s : Int} {env : Bool} (hg : goodS l s = true) : stateV l (pickL env l (valsL l s)) = partL l s env := by
  obtain ⟨hM, _, _⟩ := goodS_true hg
  have hall := mayL_all hM
  have h1 : stateOk l (pickL env l (valsL l s)) = true := by
    simp [stateOk, hM, pickL_length env l _ (valsL_length l s), has_pick env l _ hall (has_vals l s hall)]
  unfold stateV partL; rw [h1, hg]; rfl
theorem mix_list {ys xs : List Int} {k n : Nat} (h1 : ys.length = n) (h2 : xs.length = n) (hk : k < n) (y : Int) (hy : ys[k]? = some y) : (ys.take k ++ xs.drop k).set k y = ys.take (k + 1) ++ xs.drop (k + 1) := by
  obtain ⟨hky, rfl⟩ := List.getElem?_eq_some_iff.1 hy
  have hlen : (ys.take k).length = k := by simp; omega
  rw [List.set_append_right _ _ (by omega), hlen, Nat.sub_self, List.drop_eq_getElem_cons (by omega), List.set_cons_zero, List.take_succ_eq_append_getElem hky, List.append_assoc]
  rfl
theorem mix_list_same {ys xs : List Int} {k n : Nat} (h1 : ys.length = n) (h2 : xs.length = n) (hk : k < n) (y : Int) (hy : ys[k]? = some y) (hx : xs[k]? = some y) : ys.take k ++ xs.drop k = ys.take (k + 1) ++ xs.drop (k + 1) := by
  obtain ⟨hky, e1⟩ := List.getElem?_eq_some_iff.1 hy
  obtain ⟨hkx, e2⟩ := List.getElem?_eq_some_iff.1 hx
  rw [List.take_succ_eq_append_getElem hky, List.drop_eq_getElem_cons hkx, e1, e2]; simp

set_option maxHeartbeats 1000000 in
theorem rpart_any (A : Option Addr) (n c B : Nat) (l : List V) (s : Int) (env : Bool) (w : World) (hm : n ≤ maxLen) (hnc : n ≤ c) (hc : c ≤ maxLen) (hB : B ≤ w.heap.size) (hv : RV w B A n l) (hnm : ∀ v ∈ l, v.nm.size ≤ maxLen) :
    Calls Try.prog 25 #[.slice A n c, .int .i64 s, .bool env] w fun e w' => e = .returned (.int .i64 (partL l s env)) ∧ Below w.heap.size w w' := by
  have Hm := hide hm
  have Hc := hide hc
  have Hn := hide hv.1
  have Hv := hide hv; clear hv
  have Hnm := hide hnm; clear hnm
  clear hc
  cases hg : goodS l s
  · have Hr : Hid (partL l s env = -1) := hide (by unfold partL; rw [hg]; rfl)
    have Hg := hide (goodS_false hg)
    clear hg hm
    go_enter Try.func25, Try.ntmps25
    go_wp2_with fail
    refine (rvals_bad A n c B l s _ Hm.out hnc Hc.out hB Hv.out Hnm.out Hg.out).mono ?_
    rintro e w1 ⟨rfl, hb1⟩
    go_wp2_with fail
    go_ret
    exact ⟨ret_int Hr.out.symm, hb1⟩
  · obtain ⟨hM, hs0, hs1⟩ := goodS_true hg
    have ht := (mayL_zero hM).2
    have hn6 : n ≤ 6 := by have := totL_len ht; rw [Hn.out] at this; exact this
    have Hr := hide (part_state (env := env) hg)
    have HM := hide hM
    have Hl1 := hide ((valsL_length l s).trans Hn.out)
    have Hl2 := hide ((pickL_length env l _ (valsL_length l s)).trans Hn.out)
    clear hg hm ht hM
    go_enter Try.func25, Try.ntmps25
    go_wp2_with fail
    refine (rvals_good A n c B l s _ hnc Hc.out hB Hv.out Hnm.out HM.out hs0 hs1).mono ?_
    rintro e w1 ⟨D, cd, rfl, hown, hb1⟩
    have Hpk := hide (fun (k : Nat) (v : V) (x : Int) (h1 : l[k]? = some v) (h2 : (valsL l s)[k]? = some x) => pickL_at env l _ k v x h1 h2)
    generalize valsL l s = xs at *
    generalize hys : pickL env l xs = ys at *
    have Hys := hide hys; clear hys
    go_wp2_with fail
    go_loopw [23] (fun i wr => ∃ (k : Nat), k ≤ n ∧ i = .int .i64 k ∧ wr.ownsRow w.heap.size 3 1 (.slice D n cd) n (ints (ys.take k ++ xs.drop k)) ∧ Below w.heap.size w wr) (fun i _ => n - (intOf i).toNat)
    case atStart => exact ⟨0, Nat.zero_le _, rfl, by simpa using hown, hb1⟩
    case round =>
      obtain ⟨k, hk, rfl, hrw, hb⟩ := hrel
      by_cases hlt : k < n
      · have hlt' : ((k : Int) < (n : Int)) := by omega
        obtain ⟨b, off, v, rfl, hbB, hlk, c0, c1, c2, c3, c4⟩ := (Hv.out.below (hb.mono hB)).at_ hlt
        obtain ⟨x, hx⟩ : ∃ x, xs[k]? = some x := ⟨xs[k]'(by rw [Hl1.out]; exact hlt), List.getElem?_eq_getElem _⟩
        have hyk := Hpk.out k v x hlk hx
        have hsz := hb.size
        obtain ⟨g, cap, hv, hgb, hglt⟩ := hrw.form (by omega)
        injection hv with hD _ hcd
        subst hD; subst hcd
        by_cases he : v.env = env
        · rw [if_pos he] at hyk
          have heb : (!(v.env == env)) = false := by simp [he]
          have Hrw2 : Hid ((wr.alloc (.cells #[.string v.nm, .bool v.env, .int .i64 v.srt, .int .i64 v.lo, .int .i64 v.hi] 36)).ownsRow w.heap.size 3 1 (.slice (some ⟨g, 0, none⟩) n cd) n (ints (ys.take (k + 1) ++ xs.drop (k + 1)))) := hide (by
            rw [← mix_list_same Hl2.out Hl1.out hlt x hyk hx]; exact hrw.alloc _)
          have hbx : Below w.heap.size w (wr.alloc (.cells #[.string v.nm, .bool v.env, .int .i64 v.srt, .int .i64 v.lo, .int .i64 v.hi] 36)) := hb.alloc hsz _
          clear he hyk hlk hx hrw
          go_wp2_with fail
          go_roundw
          case rel => exact ⟨k + 1, by omega, by go_num, Hrw2.out, hbx⟩
          case measure => simp [intOf]; omega
        · rw [if_neg he] at hyk
          have heb : (!(v.env == env)) = true := by simp [he]
          have hrw1 := hrw.alloc (.cells #[.string v.nm, .bool v.env, .int .i64 v.srt, .int .i64 v.lo, .int .i64 v.hi] 36)
          obtain ⟨u, hu⟩ : ∃ u, (wr.alloc (.cells #[.string v.nm, .bool v.env, .int .i64 v.srt, .int .i64 v.lo, .int .i64 v.hi] 36)).cell? ⟨g, k, none⟩ = some u := by
            obtain ⟨b', o', x', e', _, _, hc'⟩ := (own_ri hrw1).at_ hlt
            injection e' with e'
            injection e' with e1 e2
            subst e1; subst e2
            rw [Nat.zero_add] at hc'
            exact ⟨_, hc'⟩
          have hfz := hrw1.frozenAt k
          have Hrw2 : Hid (((wr.setCell ⟨g, k, none⟩ (.int .i64 v.lo)).alloc (.cells #[.string v.nm, .bool v.env, .int .i64 v.srt, .int .i64 v.lo, .int .i64 v.hi] 36)).ownsRow w.heap.size 3 1 (.slice (some ⟨g, 0, none⟩) n cd) n (ints (ys.take (k + 1) ++ xs.drop (k + 1)))) := hide (by
            rw [← mix_list Hl2.out Hl1.out hlt v.lo hyk, ints_set]; exact (hrw.stored k (.int .i64 v.lo)).1.alloc _)
          have hbx : Below w.heap.size w ((wr.setCell ⟨g, k, none⟩ (.int .i64 v.lo)).alloc (.cells #[.string v.nm, .bool v.env, .int .i64 v.srt, .int .i64 v.lo, .int .i64 v.hi] 36)) := (hb.setCell (by show w.heap.size ≤ g; omega) _).alloc (by simp [World.setCell]; omega) _
          clear he hyk hlk hx hrw hrw1
          go_wp2_with fail
          go_roundw
          case rel => exact ⟨k + 1, by omega, by go_num, Hrw2.out, hbx⟩
          case measure => simp [intOf]; omega
      · have hlt' : ¬ ((k : Int) < (n : Int)) := by omega
        have hsz := hb.size
        have hri : RI wr wr.heap.size D n ys := own_ri (by
          obtain rfl : k = n := by omega
          rw [List.take_of_length_le (by rw [Hl2.out]; omega), List.drop_of_length_le (by rw [Hl1.out]; omega), List.append_nil] at hrw; exact hrw)
        have Hri := hide hri
        clear hri hrw
        go_wp2_with fail
        refine (rstate_any A n c wr.heap.size l _ n cd ys _ Hm.out hnc Hc.out Hm.out (Nat.le_refl _) ((Hv.out.below (hb.mono hB)).more (by omega)) Hri.out Hnm.out).mono ?_
        rintro e w3 ⟨rfl, hb3⟩
        rw [Hr.out]
        have hbw3 := hb.trans (hb3.mono hsz)
        go_wp2_with fail
        go_ret
        exact ⟨rfl, hbw3⟩
end Go.Proofs.Ytjfomoehedhodaa
