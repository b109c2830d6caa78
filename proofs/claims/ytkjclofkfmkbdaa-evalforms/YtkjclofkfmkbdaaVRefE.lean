/- The walk of the reference's Values. -/
import Derived.Test.YtkjclofkfmkbdaaVRefD
import Derived.Deep.AppendLies
import Derived.OwnWalk
namespace Go.Proofs.Ytkjclofkfmkbdaa.Dom
open Go.RowKit Go.WideMaps Go.Maps
set_option linter.unusedSimpArgs false
set_option linter.unusedVariables false

def ints (xs : List Int) : List Value := xs.map (Value.int .i64)
def RefVals (w : World) (n : Nat) (xs : List Int) (e : Ending) (w' : World) : Prop :=
  ∃ A c, e = .returned (.tuple #[.slice A n c, .bool true]) ∧ w'.ownsRow w.heap.size 3 1 (.slice A n c) n (ints xs) ∧ Below w.heap.size w w'

set_option maxHeartbeats 1000000 in
theorem rvals_bad (A : Option Addr) (n c B : Nat) (l : List V) (s : Int) (w : World) (hm : n ≤ maxLen) (hnc : n ≤ c) (hc : c ≤ maxLen) (hB : B ≤ w.heap.size) (hv : RV w B A n l) (hnm : ∀ v ∈ l, v.nm.size ≤ maxLen) (hbad : mayL l ≠ 0 ∨ s < 0 ∨ totL l ≤ s) :
    Calls Try.prog 34 #[.slice A n c, .int .i64 s] w fun e w' => e = .returned (.tuple #[.slice none 0 0, .bool false]) ∧ Below w.heap.size w w' := by
  have Hm := hide hm
  have Hc := hide hc
  have Hnm := hide hnm; clear hnm
  have Hv := hide hv; clear hv
  clear hc
  by_cases h1 : mayL l = 0
  · have h1b : (mayL l != 0) = false := by simp [h1]
    have H1 := hide h1; clear h1
    by_cases h2 : s < 0
    · have h2b : decide (s < 0) = true := by simp [h2]
      clear hbad hm
      go_enter Try.func34, Try.ntmps34
      go_wp2_with fail
      refine (rmay_any A n c B l _ Hm.out hnc Hc.out hB Hv.out Hnm.out).mono ?_
      rintro e w1 ⟨rfl, hb1⟩
      go_wp2_with fail
      go_ret2
      exact ⟨rfl, hb1⟩
    · have h2b : decide (s < 0) = false := by simp [h2]
      have h3 : totL l ≤ s := by rcases hbad with h | h | h <;> first | exact h | exact absurd h h2 | exact absurd H1.out h
      have h3b : decide (totL l ≤ s) = true := by simp [h3]
      clear hbad hm
      go_enter Try.func34, Try.ntmps34
      go_wp2_with fail
      refine (rmay_any A n c B l _ Hm.out hnc Hc.out hB Hv.out Hnm.out).mono ?_
      rintro e w1 ⟨rfl, hb1⟩
      go_wp2_with fail
      refine (rtotal_any A n c B l _ Hm.out hnc Hc.out (Nat.le_trans hB hb1.size) (Hv.out.below (hb1.mono hB)) Hnm.out).mono ?_
      rintro e w2 ⟨rfl, hb2⟩
      have hbw2 := hb1.trans (hb2.mono hb1.size)
      go_wp2_with fail
      go_ret2
      exact ⟨rfl, hbw2⟩
  · have h1b : (mayL l != 0) = true := by simp [h1]
    clear hbad hm h1
    go_enter Try.func34, Try.ntmps34
    go_wp2_with fail
    refine (rmay_any A n c B l _ Hm.out hnc Hc.out hB Hv.out Hnm.out).mono ?_
    rintro e w1 ⟨rfl, hb1⟩
    go_wp2_with fail
    go_ret2
    exact ⟨rfl, hb1⟩

set_option maxRecDepth 100000 in
set_option maxHeartbeats 1000000 in
theorem rvals_good (A : Option Addr) (n c B : Nat) (l : List V) (s : Int) (w : World) (hnc : n ≤ c) (hc : c ≤ maxLen) (hB : B ≤ w.heap.size) (hv : RV w B A n l) (hnm : ∀ v ∈ l, v.nm.size ≤ maxLen) (h1 : mayL l = 0) (h2 : 0 ≤ s) (h3 : s < totL l) :
    Calls Try.prog 34 #[.slice A n c, .int .i64 s] w (RefVals w n (valsL l s)) := by
  have hn6 : n ≤ 6 := by have := totL_len (mayL_zero h1).2; rw [hv.1] at this; exact this
  have hm : n ≤ maxLen := by unfold maxLen; omega
  have hs512 : s < 512 := by have := (totL_bd l).2; omega
  have Hm := hide hm
  have Hc := hide hc
  have Hn := hide hv.1
  have Hnm := hide hnm; clear hnm
  have Hv := hide hv; clear hv
  have h1b : (mayL l != 0) = false := by simp [h1]
  have Hall := hide (mayL_all h1)
  have H1 := hide h1; clear h1
  have h2b : decide (s < 0) = false := by simp; omega
  have h3b : decide (totL l ≤ s) = false := by simp; omega
  have Hl := hide (valsL_length l s)
  clear hm hc
  obtain ⟨i0, hi0, hz0, hz1, hz2⟩ := info_parts info3
  have Hi0 := hide hi0; have Hz0 := hide hz0; have Hz1 := hide hz1; have Hz2 := hide hz2
  clear hi0 hz0 hz1 hz2
  go_enter Try.func34, Try.ntmps34
  go_wp2_with fail
  refine (rmay_any A n c B l _ Hm.out hnc Hc.out hB Hv.out Hnm.out).mono ?_
  rintro e w1 ⟨rfl, hb1⟩
  go_wp2_with fail
  refine (rtotal_any A n c B l _ Hm.out hnc Hc.out (Nat.le_trans hB hb1.size) (Hv.out.below (hb1.mono hB)) Hnm.out).mono ?_
  rintro e w2 ⟨rfl, hb2⟩
  have hbw2 := hb1.trans (hb2.mono hb1.size)
  clear hb1 hb2
  go_wp2_with fail
  go_loopw [1, 6, 25] (fun t o i wr => ∃ (k cc : Nat) (st : Int) (O : Option Addr), k ≤ n ∧ i = .int .i64 k ∧ t = .int .i64 st ∧ o = .slice O k cc ∧ 0 ≤ st ∧ st < 512 ∧ Hid ((valsL l s).drop k = valsL (l.drop k) st) ∧ wr.ownsRow w.heap.size 3 1 (.slice O k cc) k (ints ((valsL l s).take k)) ∧ Below w.heap.size w wr) (fun _ _ i _ => n - (intOf i).toNat)
  case atStart => exact ⟨0, 0, s, none, Nat.zero_le _, rfl, rfl, rfl, h2, hs512, hide rfl, ⟨by simp [ints], .inl ⟨rfl, rfl⟩⟩, hbw2⟩
  case round =>
    obtain ⟨k, cc, st, O, hk, rfl, rfl, rfl, hst0, hst1, HT, hrw, hb⟩ := hrel
    by_cases hlt : k < n
    · have hlt' : ((k : Int) < (n : Int)) := by omega
      obtain ⟨b, off, v, rfl, hbB, hlk, c0, c1, c2, c3, c4⟩ := (Hv.out.below (hb.mono hB)).at_ hlt
      have hmay := Hall.out v (List.mem_of_getElem? hlk)
      have sz1 := size_pos hmay
      have sz2 := (size_bd v.srt v.lo v.hi).2
      obtain ⟨lo1, lo2⟩ := may_lo hmay
      have Hlk := hide hlk; clear hlk hmay
      have hsz := hb.size
      have Hrw := hide hrw; clear hrw
      go_wp2_with fail
      refine (rsize_any _ _ _ _ _ _).mono ?_
      rintro e w4 ⟨rfl, hb4⟩
      have hbw4 := below_box hb (Nat.le_refl _) hb4
      obtain ⟨d0, d1, d2, d3, d4⟩ := (box_new wr v 52).below hb4 (by simp)
      have hbx : wr.heap.size < w4.heap.size := by have := hb4.size; simp at this; omega
      have Hrw4 : Hid (w4.ownsRow w.heap.size 3 1 (.slice O k cc) k (ints ((valsL l s).take k))) := hide ((Hrw.out.alloc _).kept (row := none) ⟨hb4.os, hb4.tape, hb4.output, hb4.size, fun i hi _ => hb4.block i hi⟩ (by
        cases O
        · exact .inl rfl
        · exact .inr (by simp [Value.ownBlock])))
      have hog : ∀ q, (Value.slice O k cc).ownBlock = some q → q < wr.heap.size := fun q hq => (Hrw.out.lt q hq).2
      have Hog := hide hog
      clear c0 c1 c2 c3 c4 Hrw hog
      generalize hs : sizeOfV v.srt v.lo v.hi = z at *
      have Hs : Hid (v.size = z) := hide hs
      clear hs
      have hr1 : 0 ≤ st % z := Int.emod_nonneg _ (by omega)
      have hr2 : st % z < z := Int.emod_lt_of_pos st (by omega)
      have hq0 : 0 ≤ st / z := Int.ediv_nonneg hst0 (by omega)
      have hq1 : st / z ≤ st := Int.ediv_le_self _ hst0
      go_wp2_with fail
      have hwr : IntKind.i64.wrap (st % z + v.lo) = st % z + v.lo := IntWalk.i64_in _ (by omega)
      generalize wr.heap.size = bx at *
      have hz4 := hbw4.size
      have hzn : ¬ z = 0 := by omega
      have hzb : (z == 0) = false := by simp [hzn]
      have htm : st.tmod z = st % z := Int.tmod_eq_emod_of_nonneg hst0
      go_region_held3 (fun w' => w'.cell? ⟨bx, 3, none⟩ = some (.int .i64 v.lo))
        (first
          | go_keep
          | (rw [hgrow.cell_far _ (by simp; omega) (fun e => by have := Hog.out bx e.symm; omega)]; assumption))
        ((refine step_append_lies _ (by rfl) _ _ _ (by rfl) w.heap.size 3 i0 _ 1 8 Try.underlying45 Hi0.out Hz0.out Hz1.out Hz2.out rfl (by omega) (.slice O k cc) k (ints ((valsL l s).take k)) (by rfl) ((Hrw4.out.alloc _).drew)
            ⟨w4.heap.size, 0, none⟩ 1 1 [.int .i64 (st % z + v.lo)] (by rfl) (by rfl) (World.news_of_block (cs := #[.int .i64 (st % z + v.lo)]) (t := 3) (fr := (0, 0)) (heap_alloc_new w4 _)) (by simp [Value.oneCell'])
            (by omega) (by unfold maxLen; omega) (by omega) (by simp; omega) (w4.heap.size + 1) (by simp) ?_; intro gg cap w5 hown5 hgrow hat hlt5))
      have hbw5 : Below w.heap.size w w5 := (Below.grown ((hbw4.alloc hz4 _).drew) hgrow (by simp; omega) (fun q hq => (Hrw4.out.lt q hq).1))
      have Hstep := hide (vals_step Hlk.out HT.out)
      rw [Hs.out] at Hstep
      have Hown5 : Hid (w5.ownsRow w.heap.size 3 1 (.slice (some ⟨gg, 0, none⟩) (k + 1) cap) (k + 1) (ints ((valsL l s).take (k + 1)))) := hide (by
        have e : (valsL l s).take (k + 1) = (valsL l s).take k ++ [st % z + v.lo] := by
          rw [Int.add_comm]
          obtain ⟨hkl, e⟩ := List.getElem?_eq_some_iff.1 Hstep.out.1
          rw [List.take_succ_eq_append_getElem hkl, e]
        rw [e, ints, List.map_append]; exact hown5)
      clear hown5 hgrow hat hwr htm d0 d1 d2 d3 d4 hb4 hzb hzn
      go_wp2_with fail
      go_roundw
      case rel => exact ⟨k + 1, cap, st / z, some ⟨gg, 0, none⟩, by omega, by go_num, rfl, rfl, by omega, by omega, hide Hstep.out.2, Hown5.out, hbw5⟩
      case measure => simp [intOf]; omega
    · have hlt' : ¬ ((k : Int) < (n : Int)) := by omega
      obtain rfl : k = n := by omega
      go_wp2_with fail
      go_ret2
      exact ⟨O, cc, rfl, by rw [List.take_of_length_le (by rw [Hl.out, Hn.out]; omega)] at hrw; exact hrw, hb⟩
end Go.Proofs.Ytkjclofkfmkbdaa.Dom
