/- ShowLines: a module's text has a line for each variable, command and goal, and two more. -/
import Derived.Test.YtjpphjmehgflpaaDoorHLines
import Derived.Test.YtjpphjmehgflpaaDoorHAwake
import Derived.Test.YtjpphjmehgflpaaDoorMHeavy
namespace Go.Proofs.YtjpphjmehgflpaaDoor
open Go.RowKit Ex
set_option linter.unusedSimpArgs false
set_option linter.unusedVariables false

theorem cnt_take {l : List UInt8} {k : Nat} {c : UInt8} (h : l[k]? = some c) : (l.take (k + 1)).count 10 = (l.take k).count 10 + (if c = 10 then 1 else 0) := by
  obtain ⟨hk, rfl⟩ := List.getElem?_eq_some_iff.1 h
  rw [List.take_succ_eq_append_getElem hk, List.count_append]
  congr 1
  by_cases h : l[k] = 10
  · rw [if_pos h, h]; rfl
  · rw [if_neg h]; rw [List.count_eq_zero]; simp; exact fun e => h e.symm
theorem byte_at {S : ByteArray} {k : Nat} (h : k < S.size) : S.data.toList[k]? = some S[k] := by
  rw [List.getElem?_eq_getElem (by simpa using h)]; rfl

set_option maxRecDepth 100000 in
set_option maxHeartbeats 8000000 in
theorem lines_any (B : Nat) (x : M8) (m : MT) (w : World) (hB : B ≤ w.heap.size) (hrm : RM w B x m) (hT : TB w.heap.size w) :
    Calls Tryd.prog 5 #[.agg x.cells] w fun e w' => e = .returned (.bool true) ∧ Below w.heap.size w w' := by
  have Hlens : Hid (m.vars.length = x.vars.n ∧ m.env.length = x.env.n ∧ m.sys.length = x.sys.n ∧ m.asm.length = x.asm.n ∧ m.ens.length = x.ens.n ∧ m.prio.length = x.prio.n) := hide ⟨hrm.2.1.1, hrm.2.2.2.2.1.1, hrm.2.2.2.2.2.1.1, hrm.2.2.2.2.2.2.1.1, hrm.2.2.2.2.2.2.2.1.1, hrm.2.2.2.2.2.2.2.2.1⟩
  obtain ⟨⟨vA, vn, vc⟩, ⟨io, im, iA, il, ic⟩, ⟨jo, jm, jA, jl, jc⟩, ⟨eA, en, ec⟩, ⟨sA, sn, sc⟩, ⟨aA, an, ac⟩, ⟨nA, nn, nc⟩, ⟨pA, pn, pc⟩⟩ := x
  have hbx := (Below.refl w.heap.size w).alloc (Nat.le_refl _) (.cells (M8.cells ⟨⟨vA, vn, vc⟩, ⟨io, im, iA, il, ic⟩, ⟨jo, jm, jA, jl, jc⟩, ⟨eA, en, ec⟩, ⟨sA, sn, sc⟩, ⟨aA, an, ac⟩, ⟨nA, nn, nc⟩, ⟨pA, pn, pc⟩⟩) 28)
  have Hrm := hide (hrm.below (hbx.mono hB))
  have HT := hide (hT.up hbx)
  have Hbx := hide hbx
  have Hblk := hide (heap_alloc_new w (.cells (M8.cells ⟨⟨vA, vn, vc⟩, ⟨io, im, iA, il, ic⟩, ⟨jo, jm, jA, jl, jc⟩, ⟨eA, en, ec⟩, ⟨sA, sn, sc⟩, ⟨aA, an, ac⟩, ⟨nA, nn, nc⟩, ⟨pA, pn, pc⟩⟩) 28))
  have hzz : (w.alloc (.cells (M8.cells ⟨⟨vA, vn, vc⟩, ⟨io, im, iA, il, ic⟩, ⟨jo, jm, jA, jl, jc⟩, ⟨eA, en, ec⟩, ⟨sA, sn, sc⟩, ⟨aA, an, ac⟩, ⟨nA, nn, nc⟩, ⟨pA, pn, pc⟩⟩) 28)).heap.size = w.heap.size + 1 := by simp
  have HH := hide (hvx_any B _ m _ (by omega) Hrm.out)
  have hM : ∀ u, Below w.heap.size w u → w.heap.size + 1 ≤ u.heap.size → RM u B _ m → Calls Tryd.prog 14 #[.agg (M8.cells ⟨⟨vA, vn, vc⟩, ⟨io, im, iA, il, ic⟩, ⟨jo, jm, jA, jl, jc⟩, ⟨eA, en, ec⟩, ⟨sA, sn, sc⟩, ⟨aA, an, ac⟩, ⟨nA, nn, nc⟩, ⟨pA, pn, pc⟩⟩)] u _ := fun u _ hz hr => rmod_any B _ m u (by omega) hr
  have HM := hide hM
  have hS : ∀ u, Below w.heap.size w u → w.heap.size + 1 ≤ u.heap.size → RM u B _ m → TB u.heap.size u → Calls Tryd.prog 8 #[.agg (M8.cells ⟨⟨vA, vn, vc⟩, ⟨io, im, iA, il, ic⟩, ⟨jo, jm, jA, jl, jc⟩, ⟨eA, en, ec⟩, ⟨sA, sn, sc⟩, ⟨aA, an, ac⟩, ⟨nA, nn, nc⟩, ⟨pA, pn, pc⟩⟩)] u _ := fun u _ hz hr ht => showM_any B _ m u (by omega) hr ht
  have HS := hide hS
  clear hrm hT hbx hM hS
  simp only [M8.cells, SL.v] at *
  have cells : ∀ {u : World}, u.heap[w.heap.size]? = some (.cells #[.slice vA vn vc, .int .i64 io, .int .i64 im, .slice iA il ic, .int .i64 jo, .int .i64 jm, .slice jA jl jc, .slice eA en ec, .slice sA sn sc, .slice aA an ac, .slice nA nn nc, .slice pA pn pc] 28 (0, 0)) → ∀ (i : Nat) (v : Value), (#[.slice vA vn vc, .int .i64 io, .int .i64 im, .slice iA il ic, .int .i64 jo, .int .i64 jm, .slice jA jl jc, .slice eA en ec, .slice sA sn sc, .slice aA an ac, .slice nA nn nc, .slice pA pn pc] : Array Value)[i]? = some v → u.cell? ⟨w.heap.size, i, none⟩ = some v := fun h i v hv => by rw [Lib.cell_of_heap h]; exact hv
  have q0 := cells Hblk.out 0 _ rfl
  have q1 := cells Hblk.out 1 _ rfl
  have q2 := cells Hblk.out 2 _ rfl
  have q3 := cells Hblk.out 3 _ rfl
  have q4 := cells Hblk.out 4 _ rfl
  have q5 := cells Hblk.out 5 _ rfl
  have q6 := cells Hblk.out 6 _ rfl
  have q7 := cells Hblk.out 7 _ rfl
  have q8 := cells Hblk.out 8 _ rfl
  have q9 := cells Hblk.out 9 _ rfl
  have q10 := cells Hblk.out 10 _ rfl
  have q11 := cells Hblk.out 11 _ rfl
  go_enter Tryd.func5, Tryd.ntmps5
  go_wp2_with fail
  generalize w.alloc (.cells #[.slice vA vn vc, .int .i64 io, .int .i64 im, .slice iA il ic, .int .i64 jo, .int .i64 jm, .slice jA jl jc, .slice eA en ec, .slice sA sn sc, .slice aA an ac, .slice nA nn nc, .slice pA pn pc] 28) = w0 at *
  refine (HH.out).mono ?_
  rintro e w1 ⟨rfl, hb1⟩
  have Hb1 := hide (Hbx.out.trans (hb1.mono (by omega)))
  have Hrm1 := hide (Hrm.out.below (hb1.mono (by omega)))
  have Hblk1 := hide ((hb1.block w.heap.size (by omega)).trans Hblk.out)
  have HT1 := hide (HT.out.up hb1)
  have hz1 := hb1.size
  clear hb1 Hrm HT Hbx HH Hblk q0 q1 q2 q3 q4 q5 q6 q7 q8 q9 q10 q11
  by_cases hh : 0 < hvM m
  · have hhb : decide (0 < hvM m) = true := by simp [hh]
    clear hh
    go_wp2_with fail
    refine (awake_any _ HT1.out).mono ?_
    rintro e w2 ⟨rfl, hb2⟩
    have Hb2 := hide (Hb1.out.trans (hb2.mono (by omega)))
    clear hb2
    go_wp2_with fail
    go_ret
    exact ⟨rfl, Hb2.out⟩
  · have hhb : decide (0 < hvM m) = false := by simp; omega
    clear hh
    have q0 := cells Hblk1.out 0 _ rfl
    have q1 := cells Hblk1.out 1 _ rfl
    have q2 := cells Hblk1.out 2 _ rfl
    have q3 := cells Hblk1.out 3 _ rfl
    have q4 := cells Hblk1.out 4 _ rfl
    have q5 := cells Hblk1.out 5 _ rfl
    have q6 := cells Hblk1.out 6 _ rfl
    have q7 := cells Hblk1.out 7 _ rfl
    have q8 := cells Hblk1.out 8 _ rfl
    have q9 := cells Hblk1.out 9 _ rfl
    have q10 := cells Hblk1.out 10 _ rfl
    have q11 := cells Hblk1.out 11 _ rfl
    go_wp2_with fail
    refine (HM.out w1 Hb1.out (by omega) Hrm1.out).mono ?_
    rintro e w2 ⟨rfl, hb2⟩
    have Hb2 := hide (Hb1.out.trans (hb2.mono (by omega)))
    have Hrm2 := hide (Hrm1.out.below (hb2.mono (by omega)))
    have Hblk2 := hide ((hb2.block w.heap.size (by omega)).trans Hblk1.out)
    have HT2 := hide (HT1.out.up hb2)
    have hz2 := hb2.size
    clear hb2 Hrm1 HT1 Hb1 Hblk1 q0 q1 q2 q3 q4 q5 q6 q7 q8 q9 q10 q11 HM
    by_cases hs : modE m = 0
    · have hsb : (modE m != 0) = false := by simp [hs]
      have Hsh : Hid (showM m = modT m) := hide (if_pos hs)
      have Hok := hide (mod_ok hs)
      clear hs
      have q0 := cells Hblk2.out 0 _ rfl
      have q1 := cells Hblk2.out 1 _ rfl
      have q2 := cells Hblk2.out 2 _ rfl
      have q3 := cells Hblk2.out 3 _ rfl
      have q4 := cells Hblk2.out 4 _ rfl
      have q5 := cells Hblk2.out 5 _ rfl
      have q6 := cells Hblk2.out 6 _ rfl
      have q7 := cells Hblk2.out 7 _ rfl
      have q8 := cells Hblk2.out 8 _ rfl
      have q9 := cells Hblk2.out 9 _ rfl
      have q10 := cells Hblk2.out 10 _ rfl
      have q11 := cells Hblk2.out 11 _ rfl
      go_wp2_with fail
      refine (HS.out w2 Hb2.out (by omega) Hrm2.out HT2.out).mono ?_
      rintro e w3 ⟨rfl, hb3⟩
      have Hb3 := hide (Hb2.out.trans (hb3.mono (by omega)))
      have Hblk3 := hide ((hb3.block w.heap.size (by omega)).trans Hblk2.out)
      have HT3 := hide (HT2.out.up hb3)
      have hz3 := hb3.size
      clear hb3 Hrm2 HT2 Hb2 Hblk2 q0 q1 q2 q3 q4 q5 q6 q7 q8 q9 q10 q11 HS
      obtain ⟨S, hSe⟩ : ∃ S, S = bytesOf (showM m) := ⟨_, rfl⟩
      rw [← hSe]
      have hln := ln_mod Hok.out
      have hne := mod_ne m
      have hle := mod_len Hok.out
      have e1 : modT m = S.data.toList := by rw [hSe, Hsh.out]; rfl
      rw [e1] at hln hne hle
      have hs0 : 0 < S.size := by
        have : S.data.toList.length = S.size := by simp
        rcases Nat.eq_zero_or_pos S.size with h | h
        · rw [h] at this; exact absurd (List.length_eq_zero_iff.1 this) hne
        · exact h
      have hs1 : S.size ≤ 1000000 := by simpa using hle
      have Hcnt := hide hln.1
      have Hpre := hide hln.2.1
      have Hlast : Hid (S[S.size - 1] = 10) := hide (by
        have h2 := hln.2.2.resolve_left hne
        rw [List.getLast?_eq_getElem?, show S.data.toList.length = S.size by simp, byte_at (by omega)] at h2
        exact Option.some.inj h2)
      have hb6 := vars_six Hok.out.vars
      have hb7 := Hok.out.sz
      obtain ⟨l0, l1, l2, l3, l4, l5⟩ := Hlens.out
      rw [l0, l1, l2, l3, l4, l5] at Hcnt
      rw [l0] at hb6
      rw [l1, l2, l3, l4, l5] at hb7
      obtain ⟨b1, b2, b3, b4, b5⟩ := hb7
      clear l0 l1 l2 l3 l4 l5 hln hne hle e1 hSe Hsh Hok Hlens
      go_wp2_with fail
      go_loop [4, 19] (fun c i => ∃ (k n : Nat), k ≤ S.size ∧ n ≤ k ∧ i = .int .i64 k ∧ c = .int .i64 n ∧ Hid ((S.data.toList.take k).count 10 = n)) (fun _ i => S.size - (intOf i).toNat)
      case atStart => exact ⟨0, 0, Nat.zero_le _, Nat.le_refl _, rfl, rfl, hide rfl⟩
      case round =>
        obtain ⟨k, n, hk, hn, rfl, rfl, HC⟩ := hrel
        by_cases hlt : k < S.size
        · have hlt' : (k : Int) < (S.size : Int) := by omega
          by_cases h10 : S[k] = 10
          · have hB10 : ((S[k].toNat : Int) == 10) = true := by rw [h10]; rfl
            obtain ⟨p1, p2⟩ := Hpre.out k (by rw [byte_at hlt, h10])
            have hk1 : k - 1 < S.size := by omega
            have h59 : S[k - 1] = 59 := by rw [byte_at hk1] at p2; exact Option.some.inj p2
            have Hc2 : Hid ((S.data.toList.take (k + 1)).count 10 = n + 1) := hide (by rw [cnt_take (byte_at hlt), if_pos h10, HC.out])
            clear h10 p2
            obtain ⟨j, rfl⟩ : ∃ j, k = j + 1 := ⟨k - 1, by omega⟩
            have hj : j < S.size := by omega
            have h59' : S[j] = 59 := h59
            have hB59 : ((S[j].toNat : Int) != 59) = false := by rw [h59']; rfl
            clear h59 h59'
            go_wp2_with fail
            go_round
            case rel => exact ⟨j + 1 + 1, n + 1, by omega, by omega, by go_num, by go_num, Hc2⟩
            case measure => simp [intOf]; omega
          · have hB10 : ((S[k].toNat : Int) == 10) = false := by
              have : S[k].toNat ≠ 10 := fun e => h10 (UInt8.toNat_inj.1 e)
              simp; omega
            have Hc2 : Hid ((S.data.toList.take (k + 1)).count 10 = n) := hide (by rw [cnt_take (byte_at hlt), if_neg h10, HC.out, Nat.add_zero])
            clear h10
            go_wp2_with fail
            go_round
            case rel => exact ⟨k + 1, n, by omega, by omega, by go_num, rfl, Hc2⟩
            case measure => simp [intOf]; omega
        · have hlt' : ¬ (k : Int) < (S.size : Int) := by omega
          have hnI : (n : Int) = (vn : Int) + 2 + (en : Int) + (sn : Int) + (an : Int) + (nn : Int) + (pn : Int) := by
            have h1 := HC.out
            rw [List.take_of_length_le (by simp; omega)] at h1
            have h2 := Hcnt.out
            omega
          have htot : ((n : Int) == (vn : Int) + 2 + (en : Int) + (sn : Int) + (an : Int) + (nn : Int) + (pn : Int)) = true := by simp [hnI]
          have HnI := hide hnI
          clear hnI
          obtain ⟨z, hz⟩ : ∃ z, S.size = z + 1 := ⟨S.size - 1, by omega⟩
          have hzl : z < S.size := by omega
          have hB10 : ((S[z].toNat : Int) == 10) = true := by
            have h1 := Hlast.out
            have h2 : S[z] = 10 := by
              have e : S.size - 1 = z := by omega
              simp only [e] at h1
              exact h1
            rw [h2]; rfl
          have q0 := cells Hblk3.out 0 _ rfl
          have q7 := cells Hblk3.out 7 _ rfl
          have q8 := cells Hblk3.out 8 _ rfl
          have q9 := cells Hblk3.out 9 _ rfl
          have q10 := cells Hblk3.out 10 _ rfl
          have q11 := cells Hblk3.out 11 _ rfl
          have hg0 : decide (0 < (S.size : Int)) = true := by simp; omega
          go_wp2_with fail
          refine (awake_any _ HT3.out).mono ?_
          rintro e w4 ⟨rfl, hb4⟩
          have Hb4 := hide (Hb3.out.trans (hb4.mono (by omega)))
          clear hb4
          go_wp2_with fail
          go_ret
          exact ⟨rfl, Hb4.out⟩
    · have hsb : (modE m != 0) = true := by simp [hs]
      clear hs
      go_wp2_with fail
      refine (awake_any _ HT2.out).mono ?_
      rintro e w3 ⟨rfl, hb3⟩
      have Hb3 := hide (Hb2.out.trans (hb3.mono (by omega)))
      clear hb3
      go_wp2_with fail
      go_ret
      exact ⟨rfl, Hb3.out⟩
end Go.Proofs.YtjpphjmehgflpaaDoor
