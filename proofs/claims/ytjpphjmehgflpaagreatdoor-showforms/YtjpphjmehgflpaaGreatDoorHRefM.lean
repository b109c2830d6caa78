/- The reference's text of a module. -/
import Derived.Test.YtjpphjmehgflpaaGreatDoorGRefT
namespace Go.Proofs.YtjpphjmehgflpaaGreatDoor
open Go.RowKit Ex
open Go.Sort (grow)
set_option linter.unusedSimpArgs false
set_option linter.unusedVariables false

theorem var_parts (v : Dom.V) (P : List UInt8) (S : ByteArray) (h : S = bytesOf P) (hd : ByteArray) (hh : hd = bytesOf (sideT v.env ++ [32])) (R : ByteArray) (hr : R = bytesOf (rangeT v ++ [59, 10])) : S ++ hd ++ (v.nm ++ bytesOf [32, 58, 32]) ++ R = bytesOf (P ++ varT v) := by
  subst h hh hr
  conv => lhs; rw [← bytes_nm v.nm]
  simp only [bytes_app, varT, Dom.V.key, List.append_assoc]
def mP2 (m : MT) : List UInt8 := linesT varT m.vars ++ (ruleT wIE m.vars m.ie ++ ruleT wIS m.vars m.is)
def mP3 (m : MT) : List UInt8 := mP2 m ++ linesT (cmdLn m.vars true) m.env
def mP4 (m : MT) : List UInt8 := mP3 m ++ linesT (cmdLn m.vars false) m.sys
def mP5 (m : MT) : List UInt8 := mP4 m ++ linesT (ruleT wAs m.vars) m.asm
def mP6 (m : MT) : List UInt8 := mP5 m ++ linesT (ruleT wEn m.vars) m.ens
theorem mP7 (m : MT) : mP6 m ++ linesT (ruleT wPr m.vars) m.prio = modT m := by
  unfold mP6 mP5 mP4 mP3 mP2 modT
  simp only [List.append_assoc]
theorem bytes_line (P X : List UInt8) (S : ByteArray) (h : S = bytesOf P) : S ++ (bytesOf X ++ bytesOf [10]) = bytesOf (P ++ (X ++ [10])) := by
  subst h; simp only [bytes_app, List.append_assoc]
theorem bytes_rule (P wd X : List UInt8) (S : ByteArray) (h : S = bytesOf P) : S ++ (bytesOf (wd ++ [32]) ++ bytesOf X ++ bytesOf [59, 10]) = bytesOf (P ++ (wd ++ ([32] ++ (X ++ [59, 10])))) := by
  subst h; simp only [bytes_app, List.append_assoc]
theorem bytes_inits (P X Y : List UInt8) (S : ByteArray) (h : S = bytesOf P) : S ++ (bytesOf (wIE ++ [32]) ++ bytesOf X ++ bytesOf ([59, 10] ++ (wIS ++ [32])) ++ bytesOf Y ++ bytesOf [59, 10]) = bytesOf (P ++ ((wIE ++ ([32] ++ (X ++ [59, 10]))) ++ (wIS ++ ([32] ++ (Y ++ [59, 10]))))) := by
  subst h; simp only [bytes_app, List.append_assoc]
theorem q_itoa {W : World} {n : Int} {dd : Nat} {os : Array Obj} (h0 : -1000 ≤ n) (h1 : n ≤ 1000) (HT : Hid (TB W.heap.size W)) : Calls Tryz.prog 29 #[.int .i64 n] (grow (redrawn W dd) os) fun e w'' => e = .returned (.string (bytesOf (Lib.itoa n))) ∧ ∃ p : Regrown, w'' = grow (redrawn W p.d) p.os :=
  Calls.regrown_of (itoa_any _ n _ h0 h1 (HT.out.up (below_regrown W dd os)))

set_option maxRecDepth 100000 in
set_option maxHeartbeats 16000000 in
theorem rmodT_any (B : Nat) (x : M8) (m : MT) (w : World) (hB : B ≤ w.heap.size) (hrm : RM w B x m) (hT : TB w.heap.size w) :
    Calls Tryz.prog 11 #[.agg x.cells] w fun e w' => e = .returned (.string (bytesOf (showM m))) ∧ Below w.heap.size w w' := by
  obtain ⟨⟨vA, vn, vc⟩, ⟨io, im, iA, il, ic⟩, ⟨jo, jm, jA, jl, jc⟩, ⟨eA, en, ec⟩, ⟨sA, sn, sc⟩, ⟨aA, an, ac⟩, ⟨nA, nn, nc⟩, ⟨pA, pn, pc⟩⟩ := x
  have hbx := (Below.refl w.heap.size w).alloc (Nat.le_refl _) (.cells (M8.cells ⟨⟨vA, vn, vc⟩, ⟨io, im, iA, il, ic⟩, ⟨jo, jm, jA, jl, jc⟩, ⟨eA, en, ec⟩, ⟨sA, sn, sc⟩, ⟨aA, an, ac⟩, ⟨nA, nn, nc⟩, ⟨pA, pn, pc⟩⟩) 28)
  have Hrm := hide (hrm.below (hbx.mono hB))
  have HT := hide (hT.up hbx)
  have Hbx := hide hbx
  have Hblk := hide (heap_alloc_new w (.cells (M8.cells ⟨⟨vA, vn, vc⟩, ⟨io, im, iA, il, ic⟩, ⟨jo, jm, jA, jl, jc⟩, ⟨eA, en, ec⟩, ⟨sA, sn, sc⟩, ⟨aA, an, ac⟩, ⟨nA, nn, nc⟩, ⟨pA, pn, pc⟩⟩) 28))
  have hzz : (w.alloc (.cells (M8.cells ⟨⟨vA, vn, vc⟩, ⟨io, im, iA, il, ic⟩, ⟨jo, jm, jA, jl, jc⟩, ⟨eA, en, ec⟩, ⟨sA, sn, sc⟩, ⟨aA, an, ac⟩, ⟨nA, nn, nc⟩, ⟨pA, pn, pc⟩⟩) 28)).heap.size = w.heap.size + 1 := by simp
  have HD := hide (rmod_any B _ m _ (by omega) Hrm.out)
  clear hrm hT hbx
  simp only [M8.cells, SL.v] at *
  have cells : ∀ {u : World}, u.heap[w.heap.size]? = some (.cells #[.slice vA vn vc, .int .i64 io, .int .i64 im, .slice iA il ic, .int .i64 jo, .int .i64 jm, .slice jA jl jc, .slice eA en ec, .slice sA sn sc, .slice aA an ac, .slice nA nn nc, .slice pA pn pc] 28 (0, 0)) → ∀ (i : Nat) (v : Value), (#[.slice vA vn vc, .int .i64 io, .int .i64 im, .slice iA il ic, .int .i64 jo, .int .i64 jm, .slice jA jl jc, .slice eA en ec, .slice sA sn sc, .slice aA an ac, .slice nA nn nc, .slice pA pn pc] : Array Value)[i]? = some v → u.cell? ⟨w.heap.size, i, none⟩ = some v := fun h i v hv => by rw [Lib.cell_of_heap h]; exact hv
  have q0 := cells Hblk.out 0 _ rfl
  have q1 := cells Hblk.out 1 _ rfl
  have q2 := cells Hblk.out 2 _ rfl
  have q3 := cells Hblk.out 3 _ rfl
  have q4 := cells Hblk.out 4 _ rfl
  have q5 := cells Hblk.out 5 _ rfl
  have q6 := cells Hblk.out 6 _ rfl
  have q7 := cells Hblk.out 7 _ rfl
  have q8 := cells Hblk.out 8 _ rfl
  have q9 := cells Hblk.out 9 _ rfl
  have q10 := cells Hblk.out 10 _ rfl
  have q11 := cells Hblk.out 11 _ rfl
  go_enter Tryz.func11, Tryz.ntmps11
  go_wp2_with fail
  generalize w.alloc (.cells #[.slice vA vn vc, .int .i64 io, .int .i64 im, .slice iA il ic, .int .i64 jo, .int .i64 jm, .slice jA jl jc, .slice eA en ec, .slice sA sn sc, .slice aA an ac, .slice nA nn nc, .slice pA pn pc] 28) = w0 at *
  refine (HD.out).mono ?_
  rintro e w1 ⟨rfl, hb1⟩
  have Hb1 := hide (Hbx.out.trans (hb1.mono (by omega)))
  have Hrm1 := hide (Hrm.out.below (hb1.mono (by omega)))
  have Hblk1 := hide ((hb1.block w.heap.size (by omega)).trans Hblk.out)
  have HT1 := hide (HT.out.up hb1)
  have hz1 := hb1.size
  clear hb1 Hrm HT Hbx HD Hblk q0 q1 q2 q3 q4 q5 q6 q7 q8 q9 q10 q11
  by_cases hs : modE m = 0
  · have hsb : (modE m != 0) = false := by simp [hs]
    have Hsh : Hid (showM m = modT m) := hide (if_pos hs)
    have Hok := hide (mod_ok hs)
    have HcE : Hid ((∀ c ∈ m.env, cmdE m.vars c true = 0) ∧ (∀ c ∈ m.sys, cmdE m.vars c false = 0)) := hide (by
      obtain ⟨_, _, _, _, h5, h6, _⟩ := (modE_iff m).1 hs
      exact ⟨(cmdsE_iff _ _ _).1 h5, (cmdsE_iff _ _ _).1 h6⟩)
    have Hlen := hide (mod_len Hok.out)
    clear hs
    obtain ⟨hov, hrv, hie, his, hen, hsy, has, hes, hpr⟩ := (Hrm1.out).more (B' := w1.heap.size) (by omega)
    obtain ⟨di, hie⟩ := hie
    obtain ⟨dj, his⟩ := his
    simp only at hov hrv hie his hen hsy has hes hpr
    have fz60 : ∀ t : T, (sortE m.vars t).2 = 0 → fz t ≤ 60 := fun t h => ((fits_iff _).1 ((may_iff _).1 (sort_gt h).2.1).1).1
    have HEi := hide (rtext_any w1.heap.size vA vn vc m.vars w1 Hok.out.vars (Nat.le_refl _) hrv HT1.out di io im iA il ic m.ie hie (sort_gt Hok.out.ie).2.2 (fz60 _ Hok.out.ie))
    have HEj := hide (rtext_any w1.heap.size vA vn vc m.vars w1 Hok.out.vars (Nat.le_refl _) hrv HT1.out dj jo jm jA jl jc m.is his (sort_gt Hok.out.is).2.2 (fz60 _ Hok.out.is))
    have HF := hide fz60
    have Hov := hide hov; have Hrv := hide hrv; have Hen := hide hen; have Hsy := hide hsy; have Has := hide has; have Hes := hide hes; have Hpr := hide hpr
    have hvn : vn ≤ maxLen := Hov.out.1
    have henm : en ≤ maxLen := Nat.le_trans hen.2.1 hen.2.2.1
    have hsnm : sn ≤ maxLen := Nat.le_trans hsy.2.1 hsy.2.2.1
    have hanm : an ≤ maxLen := Nat.le_trans has.2.1 has.2.2.1
    have hnnm : nn ≤ maxLen := Nat.le_trans hes.2.1 hes.2.2.1
    have hpnm : pn ≤ maxLen := Nat.le_trans hpr.2.1 hpr.2.2.1
    unfold maxLen at hvn henm hsnm hanm hnnm hpnm
    clear hov hrv hie his hen hsy has hes hpr Hrm1 fz60
    have blk : ∀ {u : World}, Below w1.heap.size w1 u → u.heap[w.heap.size]? = _ := fun h => (h.block w.heap.size (by omega)).trans Hblk1.out
    unfold modT at Hlen
    simp only [List.length_append] at Hlen
    have q0 := cells Hblk1.out 0 _ rfl
    go_wp2_with fail
    clear q0
    go_loopw [3, 22] (fun sv i wr => ∃ (k : Nat) (S : ByteArray), k ≤ vn ∧ i = .int .i64 k ∧ sv = .string S ∧ Hid (S = bytesOf (linesT varT (m.vars.take k))) ∧ Hid (Below w1.heap.size w1 wr)) (fun _ i _ => vn - (intOf i).toNat)
    case atStart => exact ⟨0, _, Nat.zero_le _, rfl, rfl, hide rfl, hide (Below.refl _ _)⟩
    case round =>
      obtain ⟨k, S, hk, rfl, rfl, HS, Hk⟩ := hrel
      have hsz := Hk.out.size
      have hS : S.size ≤ 1000000 := by
        rw [HS.out, bytes_size]
        have h1 := Hlen.out
        have h2 := lines_le varT m.vars k
        omega
      by_cases hlt2 : k < vn
      · have hlt' : ((k : Int) < (vn : Int)) := by omega
        obtain ⟨g, off, v, hA, hgB, hu, hcv⟩ := Hrv.out.at_ hlt2
        try simp only at hA
        subst hA
        have Hu := hide hu; clear hu
        obtain ⟨c0, c1, c2, c3, c4⟩ := hcv.keep (w' := wr) (fun p hp => Hk.out.cell (by omega))
        clear hcv
        obtain ⟨xnm, xev, xsr, xlo, xhi⟩ := v
        simp only at c0 c1 c2 c3 c4
        have Hbz : Hid (Below w1.heap.size w1 (wr.alloc (.cells #[.string xnm, .bool xev, .int .i64 xsr, .int .i64 xlo, .int .i64 xhi] 45))) := hide (Hk.out.alloc (by omega) _)
        have Hvb := hide (Dom.box_new wr ⟨xnm, xev, xsr, xlo, xhi⟩ 45)
        simp only at Hvb
        have Hzz : Hid ((wr.alloc (.cells #[.string xnm, .bool xev, .int .i64 xsr, .int .i64 xlo, .int .i64 xhi] 45)).heap.size = wr.heap.size + 1) := hide (by simp)
        have n16 : xnm.size ≤ 16 := by
          have := nm_len16 Hok.out.vars (l := m.vars) (List.mem_map.2 ⟨_, List.mem_of_getElem? Hu.out, rfl⟩)
          simpa [Dom.V.key] using this
        have Hmv := hide ((names_ok Hok.out.vars).1 _ (List.mem_of_getElem? Hu.out)).2
        cases xev
        · have Hhd : Hid ((⟨#[115, 121, 115, 32]⟩ : ByteArray) = bytesOf (sideT (Dom.V.env ⟨xnm, false, xsr, xlo, xhi⟩) ++ [32])) := hide rfl
          by_cases hsr : xsr = 1
          · have hsb1 : (xsr == 1) = true := by simp [hsr]
            have Hr : Hid ((⟨#[98, 111, 111, 108, 59, 10]⟩ : ByteArray) = bytesOf (rangeT ⟨xnm, false, xsr, xlo, xhi⟩ ++ [59, 10])) := hide (by unfold rangeT; rw [if_pos hsr]; rfl)
            clear hsr
            go_wp2_with fail
            go_roundw
            case rel => exact ⟨k + 1, _, hlt2, by go_num, rfl, hide (by rw [lines_snoc _ Hu.out]; exact var_parts ⟨xnm, false, xsr, xlo, xhi⟩ _ S HS.out _ Hhd.out _ Hr.out), Hbz⟩
            case measure => simp [intOf]; omega
          · have hsb1 : (xsr == 1) = false := by simp [hsr]
            have Hr : Hid ((bytesOf (Lib.itoa xlo) ++ (⟨#[46, 46]⟩ : ByteArray) ++ bytesOf (Lib.itoa xhi) ++ (⟨#[59, 10]⟩ : ByteArray)) = bytesOf (rangeT ⟨xnm, false, xsr, xlo, xhi⟩ ++ [59, 10])) := hide (by
              unfold rangeT; rw [if_neg hsr]
              show bytesOf (Lib.itoa xlo) ++ bytesOf [46, 46] ++ bytesOf (Lib.itoa xhi) ++ bytesOf [59, 10] = _
              simp only [bytes_app, List.append_assoc])
            have hrg : -1000 ≤ xlo ∧ xlo ≤ 1000 ∧ -1000 ≤ xhi ∧ xhi ≤ 1000 := by
              have h := Hmv.out
              unfold Dom.V.may Dom.mayOfV at h
              simp only at h
              rw [if_neg hsr] at h
              split at h
              · split at h
                · rename_i h2; have := Dom.range_true h2; omega
                · cases h
              · cases h
            have i1 : (bytesOf (Lib.itoa xlo)).size ≤ 21 := by rw [bytes_size]; exact itoa_len ⟨hrg.1, hrg.2.1⟩
            have i2 : (bytesOf (Lib.itoa xhi)).size ≤ 21 := by rw [bytes_size]; exact itoa_len ⟨hrg.2.2.1, hrg.2.2.2⟩
            clear hsr
            go_wp2_with fail
            have HTz := hide (HT1.out.up Hbz.out)
            have HW0 : Hid (Below wr.heap.size wr (wr.alloc (.cells #[.string xnm, .bool false, .int .i64 xsr, .int .i64 xlo, .int .i64 xhi] 45))) := hide ((Below.refl _ _).alloc (Nat.le_refl _) _)
            generalize wr.alloc (.cells #[.string xnm, .bool false, .int .i64 xsr, .int .i64 xlo, .int .i64 xhi] 45) = W at *
            have hzW := Hzz.out
            have Hq : Hid (∀ (a r : Value) dd os, ((a = .int .i64 xlo ∧ r = .string (bytesOf (Lib.itoa xlo))) ∨ (a = .int .i64 xhi ∧ r = .string (bytesOf (Lib.itoa xhi)))) → Calls Tryz.prog 29 #[a] (grow (redrawn W dd) os) fun e w'' => e = .returned r ∧ ∃ p : Regrown, w'' = grow (redrawn W p.d) p.os) := hide (fun a r dd os h => by
              rcases h with ⟨rfl, rfl⟩ | ⟨rfl, rfl⟩
              · exact q_itoa hrg.1 hrg.2.1 HTz
              · exact q_itoa hrg.2.2.1 hrg.2.2.2 HTz)
            generalize bytesOf (Lib.itoa xlo) = T1 at *
            generalize bytesOf (Lib.itoa xhi) = T2 at *
            have C3 := cell_regrown Hvb.out.2.2.2.1
            have C4 := cell_regrown Hvb.out.2.2.2.2
            refine wp_region_quiet_below (by kernel_rfl) (by kernel_rfl) ?_
            repeat (go_big_quiet_step ((go_at_call 29; exact Hq.out _ _ _ _ (by first | exact Or.inl ⟨rfl, rfl⟩ | exact Or.inr ⟨rfl, rfl⟩))))
            refine wpQuiet_nil ?_
            intro w2 hw
            obtain ⟨p, hp⟩ := hw
            have hb : Below W.heap.size W w2 := by rw [hp]; exact below_regrown W p.d p.os
            have Hk2 := hide (Hbz.out.trans (hb.mono (by omega)))
            clear hp hb Hq C3 C4
            go_wp2_with fail
            go_roundw
            case rel => exact ⟨k + 1, _, hlt2, by go_num, rfl, hide (by rw [lines_snoc _ Hu.out]; exact var_parts ⟨xnm, false, xsr, xlo, xhi⟩ _ S HS.out _ Hhd.out _ Hr.out), Hk2⟩
            case measure => simp [intOf]; omega
        · have Hhd : Hid ((⟨#[101, 110, 118, 32]⟩ : ByteArray) = bytesOf (sideT (Dom.V.env ⟨xnm, true, xsr, xlo, xhi⟩) ++ [32])) := hide rfl
          by_cases hsr : xsr = 1
          · have hsb1 : (xsr == 1) = true := by simp [hsr]
            have Hr : Hid ((⟨#[98, 111, 111, 108, 59, 10]⟩ : ByteArray) = bytesOf (rangeT ⟨xnm, true, xsr, xlo, xhi⟩ ++ [59, 10])) := hide (by unfold rangeT; rw [if_pos hsr]; rfl)
            clear hsr
            go_wp2_with fail
            go_roundw
            case rel => exact ⟨k + 1, _, hlt2, by go_num, rfl, hide (by rw [lines_snoc _ Hu.out]; exact var_parts ⟨xnm, true, xsr, xlo, xhi⟩ _ S HS.out _ Hhd.out _ Hr.out), Hbz⟩
            case measure => simp [intOf]; omega
          · have hsb1 : (xsr == 1) = false := by simp [hsr]
            have Hr : Hid ((bytesOf (Lib.itoa xlo) ++ (⟨#[46, 46]⟩ : ByteArray) ++ bytesOf (Lib.itoa xhi) ++ (⟨#[59, 10]⟩ : ByteArray)) = bytesOf (rangeT ⟨xnm, true, xsr, xlo, xhi⟩ ++ [59, 10])) := hide (by
              unfold rangeT; rw [if_neg hsr]
              show bytesOf (Lib.itoa xlo) ++ bytesOf [46, 46] ++ bytesOf (Lib.itoa xhi) ++ bytesOf [59, 10] = _
              simp only [bytes_app, List.append_assoc])
            have hrg : -1000 ≤ xlo ∧ xlo ≤ 1000 ∧ -1000 ≤ xhi ∧ xhi ≤ 1000 := by
              have h := Hmv.out
              unfold Dom.V.may Dom.mayOfV at h
              simp only at h
              rw [if_neg hsr] at h
              split at h
              · split at h
                · rename_i h2; have := Dom.range_true h2; omega
                · cases h
              · cases h
            have i1 : (bytesOf (Lib.itoa xlo)).size ≤ 21 := by rw [bytes_size]; exact itoa_len ⟨hrg.1, hrg.2.1⟩
            have i2 : (bytesOf (Lib.itoa xhi)).size ≤ 21 := by rw [bytes_size]; exact itoa_len ⟨hrg.2.2.1, hrg.2.2.2⟩
            clear hsr
            go_wp2_with fail
            have HTz := hide (HT1.out.up Hbz.out)
            have HW0 : Hid (Below wr.heap.size wr (wr.alloc (.cells #[.string xnm, .bool true, .int .i64 xsr, .int .i64 xlo, .int .i64 xhi] 45))) := hide ((Below.refl _ _).alloc (Nat.le_refl _) _)
            generalize wr.alloc (.cells #[.string xnm, .bool true, .int .i64 xsr, .int .i64 xlo, .int .i64 xhi] 45) = W at *
            have hzW := Hzz.out
            have Hq : Hid (∀ (a r : Value) dd os, ((a = .int .i64 xlo ∧ r = .string (bytesOf (Lib.itoa xlo))) ∨ (a = .int .i64 xhi ∧ r = .string (bytesOf (Lib.itoa xhi)))) → Calls Tryz.prog 29 #[a] (grow (redrawn W dd) os) fun e w'' => e = .returned r ∧ ∃ p : Regrown, w'' = grow (redrawn W p.d) p.os) := hide (fun a r dd os h => by
              rcases h with ⟨rfl, rfl⟩ | ⟨rfl, rfl⟩
              · exact q_itoa hrg.1 hrg.2.1 HTz
              · exact q_itoa hrg.2.2.1 hrg.2.2.2 HTz)
            generalize bytesOf (Lib.itoa xlo) = T1 at *
            generalize bytesOf (Lib.itoa xhi) = T2 at *
            have C3 := cell_regrown Hvb.out.2.2.2.1
            have C4 := cell_regrown Hvb.out.2.2.2.2
            refine wp_region_quiet_below (by kernel_rfl) (by kernel_rfl) ?_
            repeat (go_big_quiet_step ((go_at_call 29; exact Hq.out _ _ _ _ (by first | exact Or.inl ⟨rfl, rfl⟩ | exact Or.inr ⟨rfl, rfl⟩))))
            refine wpQuiet_nil ?_
            intro w2 hw
            obtain ⟨p, hp⟩ := hw
            have hb : Below W.heap.size W w2 := by rw [hp]; exact below_regrown W p.d p.os
            have Hk2 := hide (Hbz.out.trans (hb.mono (by omega)))
            clear hp hb Hq C3 C4
            go_wp2_with fail
            go_roundw
            case rel => exact ⟨k + 1, _, hlt2, by go_num, rfl, hide (by rw [lines_snoc _ Hu.out]; exact var_parts ⟨xnm, true, xsr, xlo, xhi⟩ _ S HS.out _ Hhd.out _ Hr.out), Hk2⟩
            case measure => simp [intOf]; omega
      · have hlt' : ¬ ((k : Int) < (vn : Int)) := by omega
        have Hkn : Hid (m.vars.length ≤ k) := hide (by have := Hrv.out.1; omega)
        have HS1 : Hid (S = bytesOf (linesT varT m.vars)) := hide (by have := HS.out; rw [List.take_of_length_le Hkn.out] at this; exact this)
        have HP2 : Hid (S ++ (bytesOf (wIE ++ [32]) ++ bytesOf (exT m.vars m.ie) ++ bytesOf ([59, 10] ++ (wIS ++ [32])) ++ bytesOf (exT m.vars m.is) ++ bytesOf [59, 10]) = bytesOf (mP2 m)) := hide (bytes_inits _ _ _ S HS1.out)
        have t1 : (bytesOf (exT m.vars m.ie)).size ≤ 3840 := by rw [bytes_size]; exact ex_len2 Hok.out.ie
        have t2 : (bytesOf (exT m.vars m.is)).size ≤ 3840 := by rw [bytes_size]; exact ex_len2 Hok.out.is
        have hBW : w1.heap.size ≤ wr.heap.size := hsz
        have HEi2 := hide (HEi.out.on Hk.out)
        have HEj2 := hide (HEj.out.on Hk.out)
        have Hq : Hid (∀ (a r : Value) dd os, ((a = .agg #[.int .i64 io, .int .i64 im, .slice iA il ic] ∧ r = .string (bytesOf (exT m.vars m.ie))) ∨ (a = .agg #[.int .i64 jo, .int .i64 jm, .slice jA jl jc] ∧ r = .string (bytesOf (exT m.vars m.is)))) → Calls Tryz.prog 19 #[.slice vA vn vc, a] (grow (redrawn wr dd) os) fun e w'' => e = .returned r ∧ ∃ p : Regrown, w'' = grow (redrawn wr p.d) p.os) := hide (fun a r dd os h => by
          rcases h with ⟨rfl, rfl⟩ | ⟨rfl, rfl⟩
          · exact q_rtext hBW HEi2
          · exact q_rtext hBW HEj2)
        generalize bytesOf (exT m.vars m.ie) = T1 at *
        generalize bytesOf (exT m.vars m.is) = T2 at *
        have C0 := cell_regrown (cells (blk Hk.out) 0 _ rfl)
        have C1 := cell_regrown (cells (blk Hk.out) 1 _ rfl)
        have C2 := cell_regrown (cells (blk Hk.out) 2 _ rfl)
        have C3 := cell_regrown (cells (blk Hk.out) 3 _ rfl)
        have C4 := cell_regrown (cells (blk Hk.out) 4 _ rfl)
        have C5 := cell_regrown (cells (blk Hk.out) 5 _ rfl)
        have C6 := cell_regrown (cells (blk Hk.out) 6 _ rfl)
        go_wp2_with fail
        refine wp_region_quiet_below (by kernel_rfl) (by kernel_rfl) ?_
        repeat (go_big_quiet_step ((go_at_call 19; exact Hq.out _ _ _ _ (by first | exact Or.inl ⟨rfl, rfl⟩ | exact Or.inr ⟨rfl, rfl⟩))))
        refine wpQuiet_nil ?_
        intro w2 hw
        obtain ⟨p, hp⟩ := hw
        have hb : Below wr.heap.size wr w2 := by rw [hp]; exact below_regrown wr p.d p.os
        have Hk2 := hide (Hk.out.trans (hb.mono hBW))
        clear hp hb Hq C0 C1 C2 C3 C4 C5 C6 HEi2 HEj2 HEi HEj
        have q7 := cells (blk Hk2.out) 7 _ rfl
        go_wp2_with fail
        clear q7
        go_loopw [3, 73] (fun sv i wr => ∃ (k : Nat) (S : ByteArray), k ≤ en ∧ i = .int .i64 k ∧ sv = .string S ∧ Hid (S = bytesOf (mP2 m ++ linesT (cmdLn m.vars true) (m.env.take k))) ∧ Hid (Below w1.heap.size w1 wr)) (fun _ i _ => en - (intOf i).toNat)
        case atStart => exact ⟨0, _, Nat.zero_le _, rfl, rfl, hide (by rw [List.take_zero, linesT, List.append_nil]; exact HP2.out), Hk2⟩
        case round =>
          obtain ⟨k2, S2, hk2, rfl, rfl, HS2, HK2⟩ := hrel
          have hsz2 := HK2.out.size
          have hS2 : S2.size ≤ 1000000 := by
            rw [HS2.out, bytes_size]
            have h1 := Hlen.out
            have h2 := lines_le (cmdLn m.vars true) m.env k2
            simp only [mP6, mP5, mP4, mP3, mP2, List.length_append] at h1 ⊢
            omega
          by_cases hlt2 : k2 < en
          · have hlt2' : ((k2 : Int) < (en : Int)) := by omega
            obtain ⟨g, off, c, hA, hgB, hu, hcm⟩ := Hen.out.at_ hlt2
            try simp only at hA
            subst hA
            have Hu := hide hu; clear hu
            obtain ⟨⟨y, hc, he⟩, z, hz, hzr⟩ := hcm.keep (w' := wr) hgB (fun p hp => HK2.out.cell hp)
            obtain ⟨yo, yn, yA, yl, yc⟩ := y
            obtain ⟨zA, zn, zc⟩ := z
            simp only at hc he hzr
            obtain ⟨c0, c1, c2⟩ := hc
            have c3 : wr.cell? ⟨g, off + k2 * 4 + 3, none⟩ = some (.slice zA zn zc) := hz
            have HC : Hid (RC wr w1.heap.size ⟨⟨yo, yn, yA, yl, yc⟩, ⟨zA, zn, zc⟩⟩ c) := hide ⟨he, hzr⟩
            clear he hzr hz hcm
            have Hbw : Hid (Below w1.heap.size wr (wr.alloc (.cells #[.int .i64 yo, .int .i64 yn, .slice yA yl yc, .slice zA zn zc] 31))) := hide ((Below.refl _ _).alloc hsz2 _)
            have Hbz := hide (HK2.out.trans Hbw.out)
            have HCm := hide (rcmdT_any w1.heap.size ⟨vA, vn, vc⟩ m.vars ⟨⟨yo, yn, yA, yl, yc⟩, ⟨zA, zn, zc⟩⟩ c true (wr.alloc (.cells #[.int .i64 yo, .int .i64 yn, .slice yA yl yc, .slice zA zn zc] 31)) Hov.out (by simp only [World.size_alloc]; omega) (HC.out.below Hbw.out) (Hrv.out.below Hbz.out) (HT1.out.up Hbz.out))
            have Hsc : Hid (showC m.vars c true = cmdT m.vars true c) := hide (if_pos (HcE.out.1 c (List.mem_of_getElem? Hu.out)))
            have ht : (bytesOf (showC m.vars c true)).size ≤ 27040 := by rw [bytes_size, Hsc.out]; exact cmd_len true (Hok.out.env c (List.mem_of_getElem? Hu.out))
            have q0 := cells (blk Hbz.out) 0 _ rfl
            simp only [C2.cells, SL.v] at HCm
            go_wp2_with fail
            refine (HCm.out).mono ?_
            rintro e w4 ⟨rfl, hb4⟩
            have Hk4 := hide (Hbz.out.trans (hb4.mono (by simp only [World.size_alloc]; omega)))
            clear hb4 q0
            go_wp2_with fail
            go_roundw
            case rel => exact ⟨k2 + 1, _, hlt2, by go_num, rfl, hide (by
              rw [lines_snoc _ Hu.out, ← List.append_assoc, Hsc.out]
              exact bytes_line _ (cmdT m.vars true c) S2 HS2.out), Hk4⟩
            case measure => simp [intOf]; omega
          · have hlt2' : ¬ ((k2 : Int) < (en : Int)) := by omega
            have Hkn2 : Hid (m.env.length ≤ k2) := hide (by have := Hen.out.1; simp only at this; omega)
            have HP3 : Hid (S2 = bytesOf (mP3 m)) := hide (by have := HS2.out; rw [List.take_of_length_le Hkn2.out] at this; exact this)
            have q8 := cells (blk HK2.out) 8 _ rfl
            go_wp2_with fail
            clear q8
            go_loopw [3, 88] (fun sv i wr => ∃ (k : Nat) (S : ByteArray), k ≤ sn ∧ i = .int .i64 k ∧ sv = .string S ∧ Hid (S = bytesOf (mP3 m ++ linesT (cmdLn m.vars false) (m.sys.take k))) ∧ Hid (Below w1.heap.size w1 wr)) (fun _ i _ => sn - (intOf i).toNat)
            case atStart => exact ⟨0, _, Nat.zero_le _, rfl, rfl, hide (by rw [List.take_zero, linesT, List.append_nil]; exact HP3.out), HK2⟩
            case round =>
              obtain ⟨k3, S3, hk3, rfl, rfl, HS3, HK3⟩ := hrel
              have hsz3 := HK3.out.size
              have hS3 : S3.size ≤ 1000000 := by
                rw [HS3.out, bytes_size]
                have h1 := Hlen.out
                have h2 := lines_le (cmdLn m.vars false) m.sys k3
                simp only [mP6, mP5, mP4, mP3, mP2, List.length_append] at h1 ⊢
                omega
              by_cases hlt3 : k3 < sn
              · have hlt3' : ((k3 : Int) < (sn : Int)) := by omega
                obtain ⟨g, off, c, hA, hgB, hu, hcm⟩ := Hsy.out.at_ hlt3
                try simp only at hA
                subst hA
                have Hu := hide hu; clear hu
                obtain ⟨⟨y, hc, he⟩, z, hz, hzr⟩ := hcm.keep (w' := wr) hgB (fun p hp => HK3.out.cell hp)
                obtain ⟨yo, yn, yA, yl, yc⟩ := y
                obtain ⟨zA, zn, zc⟩ := z
                simp only at hc he hzr
                obtain ⟨c0, c1, c2⟩ := hc
                have c3 : wr.cell? ⟨g, off + k3 * 4 + 3, none⟩ = some (.slice zA zn zc) := hz
                have HC : Hid (RC wr w1.heap.size ⟨⟨yo, yn, yA, yl, yc⟩, ⟨zA, zn, zc⟩⟩ c) := hide ⟨he, hzr⟩
                clear he hzr hz hcm
                have Hbw : Hid (Below w1.heap.size wr (wr.alloc (.cells #[.int .i64 yo, .int .i64 yn, .slice yA yl yc, .slice zA zn zc] 31))) := hide ((Below.refl _ _).alloc hsz3 _)
                have Hbz := hide (HK3.out.trans Hbw.out)
                have HCm := hide (rcmdT_any w1.heap.size ⟨vA, vn, vc⟩ m.vars ⟨⟨yo, yn, yA, yl, yc⟩, ⟨zA, zn, zc⟩⟩ c false (wr.alloc (.cells #[.int .i64 yo, .int .i64 yn, .slice yA yl yc, .slice zA zn zc] 31)) Hov.out (by simp only [World.size_alloc]; omega) (HC.out.below Hbw.out) (Hrv.out.below Hbz.out) (HT1.out.up Hbz.out))
                have Hsc : Hid (showC m.vars c false = cmdT m.vars false c) := hide (if_pos (HcE.out.2 c (List.mem_of_getElem? Hu.out)))
                have ht : (bytesOf (showC m.vars c false)).size ≤ 27040 := by rw [bytes_size, Hsc.out]; exact cmd_len false (Hok.out.sys c (List.mem_of_getElem? Hu.out))
                have q0 := cells (blk Hbz.out) 0 _ rfl
                simp only [C2.cells, SL.v] at HCm
                go_wp2_with fail
                refine (HCm.out).mono ?_
                rintro e w4 ⟨rfl, hb4⟩
                have Hk4 := hide (Hbz.out.trans (hb4.mono (by simp only [World.size_alloc]; omega)))
                clear hb4 q0
                go_wp2_with fail
                go_roundw
                case rel => exact ⟨k3 + 1, _, hlt3, by go_num, rfl, hide (by
                  rw [lines_snoc _ Hu.out, ← List.append_assoc, Hsc.out]
                  exact bytes_line _ (cmdT m.vars false c) S3 HS3.out), Hk4⟩
                case measure => simp [intOf]; omega
              · have hlt3' : ¬ ((k3 : Int) < (sn : Int)) := by omega
                have Hkn3 : Hid (m.sys.length ≤ k3) := hide (by have := Hsy.out.1; simp only at this; omega)
                have HP4 : Hid (S3 = bytesOf (mP4 m)) := hide (by have := HS3.out; rw [List.take_of_length_le Hkn3.out] at this; exact this)
                have q9 := cells (blk HK3.out) 9 _ rfl
                go_wp2_with fail
                clear q9
                go_loopw [3, 103] (fun sv i wr => ∃ (k : Nat) (S : ByteArray), k ≤ an ∧ i = .int .i64 k ∧ sv = .string S ∧ Hid (S = bytesOf (mP4 m ++ linesT (ruleT wAs m.vars) (m.asm.take k))) ∧ Hid (Below w1.heap.size w1 wr)) (fun _ i _ => an - (intOf i).toNat)
                case atStart => exact ⟨0, _, Nat.zero_le _, rfl, rfl, hide (by rw [List.take_zero, linesT, List.append_nil]; exact HP4.out), HK3⟩
                case round =>
                  obtain ⟨k4, S4, hk4, rfl, rfl, HS4, HK4⟩ := hrel
                  have hsz4 := HK4.out.size
                  have hS4 : S4.size ≤ 1000000 := by
                    rw [HS4.out, bytes_size]
                    have h1 := Hlen.out
                    have h2 := lines_le (ruleT wAs m.vars) m.asm k4
                    simp only [mP6, mP5, mP4, mP3, mP2, List.length_append] at h1 ⊢
                    omega
                  by_cases hlt4 : k4 < an
                  · have hlt4' : ((k4 : Int) < (an : Int)) := by omega
                    obtain ⟨g, off, t, hA, hgB, hu, y, hc, d, hre⟩ := Has.out.at_ hlt4
                    try simp only at hA
                    subst hA
                    have Hu := hide hu; clear hu
                    obtain ⟨yo, yn, yA, yl, yc⟩ := y
                    simp only at hc hre
                    have Hst := hide (Hok.out.asm t (List.mem_of_getElem? Hu.out))
                    have HEt := hide (rtext_any w1.heap.size vA vn vc m.vars w1 Hok.out.vars (Nat.le_refl _) Hrv.out HT1.out d yo yn yA yl yc t hre (sort_gt Hst.out).2.2 (HF.out _ Hst.out))
                    obtain ⟨c0, c1, c2⟩ := hc.keep (w' := wr) (fun p hp => HK4.out.cell (by omega))
                    clear hre
                    have Hbz : Hid (Below w1.heap.size w1 (wr.alloc (.cells #[.int .i64 yo, .int .i64 yn, .slice yA yl yc] 25))) := hide (HK4.out.alloc hsz4 _)
                    have ht : (bytesOf (exT m.vars t)).size ≤ 3840 := by rw [bytes_size]; exact ex_len2 Hst.out
                    have q0 := cells (blk Hbz.out) 0 _ rfl
                    go_wp2_with fail
                    refine (HEt.out _ Hbz.out).mono ?_
                    rintro e w4 ⟨rfl, hb4⟩
                    have Hk4 := hide (Hbz.out.trans (hb4.mono (by simp only [World.size_alloc]; omega)))
                    clear hb4 q0
                    go_wp2_with fail
                    go_roundw
                    case rel => exact ⟨k4 + 1, _, hlt4, by go_num, rfl, hide (by
                      rw [lines_snoc _ Hu.out, ← List.append_assoc]
                      exact bytes_rule _ wAs (exT m.vars t) S4 HS4.out), Hk4⟩
                    case measure => simp [intOf]; omega
                  · have hlt4' : ¬ ((k4 : Int) < (an : Int)) := by omega
                    have Hkn4 : Hid (m.asm.length ≤ k4) := hide (by have := Has.out.1; simp only at this; omega)
                    have HP5 : Hid (S4 = bytesOf (mP5 m)) := hide (by have := HS4.out; rw [List.take_of_length_le Hkn4.out] at this; exact this)
                    have q10 := cells (blk HK4.out) 10 _ rfl
                    go_wp2_with fail
                    clear q10
                    go_loopw [3, 119] (fun sv i wr => ∃ (k : Nat) (S : ByteArray), k ≤ nn ∧ i = .int .i64 k ∧ sv = .string S ∧ Hid (S = bytesOf (mP5 m ++ linesT (ruleT wEn m.vars) (m.ens.take k))) ∧ Hid (Below w1.heap.size w1 wr)) (fun _ i _ => nn - (intOf i).toNat)
                    case atStart => exact ⟨0, _, Nat.zero_le _, rfl, rfl, hide (by rw [List.take_zero, linesT, List.append_nil]; exact HP5.out), HK4⟩
                    case round =>
                      obtain ⟨k5, S5, hk5, rfl, rfl, HS5, HK5⟩ := hrel
                      have hsz5 := HK5.out.size
                      have hS5 : S5.size ≤ 1000000 := by
                        rw [HS5.out, bytes_size]
                        have h1 := Hlen.out
                        have h2 := lines_le (ruleT wEn m.vars) m.ens k5
                        simp only [mP6, mP5, mP4, mP3, mP2, List.length_append] at h1 ⊢
                        omega
                      by_cases hlt5 : k5 < nn
                      · have hlt5' : ((k5 : Int) < (nn : Int)) := by omega
                        obtain ⟨g, off, t, hA, hgB, hu, y, hc, d, hre⟩ := Hes.out.at_ hlt5
                        try simp only at hA
                        subst hA
                        have Hu := hide hu; clear hu
                        obtain ⟨yo, yn, yA, yl, yc⟩ := y
                        simp only at hc hre
                        have Hst := hide (Hok.out.ens t (List.mem_of_getElem? Hu.out))
                        have HEt := hide (rtext_any w1.heap.size vA vn vc m.vars w1 Hok.out.vars (Nat.le_refl _) Hrv.out HT1.out d yo yn yA yl yc t hre (sort_gt Hst.out).2.2 (HF.out _ Hst.out))
                        obtain ⟨c0, c1, c2⟩ := hc.keep (w' := wr) (fun p hp => HK5.out.cell (by omega))
                        clear hre
                        have Hbz : Hid (Below w1.heap.size w1 (wr.alloc (.cells #[.int .i64 yo, .int .i64 yn, .slice yA yl yc] 25))) := hide (HK5.out.alloc hsz5 _)
                        have ht : (bytesOf (exT m.vars t)).size ≤ 3840 := by rw [bytes_size]; exact ex_len2 Hst.out
                        have q0 := cells (blk Hbz.out) 0 _ rfl
                        go_wp2_with fail
                        refine (HEt.out _ Hbz.out).mono ?_
                        rintro e w4 ⟨rfl, hb4⟩
                        have Hk4 := hide (Hbz.out.trans (hb4.mono (by simp only [World.size_alloc]; omega)))
                        clear hb4 q0
                        go_wp2_with fail
                        go_roundw
                        case rel => exact ⟨k5 + 1, _, hlt5, by go_num, rfl, hide (by
                          rw [lines_snoc _ Hu.out, ← List.append_assoc]
                          exact bytes_rule _ wEn (exT m.vars t) S5 HS5.out), Hk4⟩
                        case measure => simp [intOf]; omega
                      · have hlt5' : ¬ ((k5 : Int) < (nn : Int)) := by omega
                        have Hkn5 : Hid (m.ens.length ≤ k5) := hide (by have := Hes.out.1; simp only at this; omega)
                        have HP6 : Hid (S5 = bytesOf (mP6 m)) := hide (by have := HS5.out; rw [List.take_of_length_le Hkn5.out] at this; exact this)
                        have q11 := cells (blk HK5.out) 11 _ rfl
                        go_wp2_with fail
                        clear q11
                        go_loopw [3, 135] (fun sv i wr => ∃ (k : Nat) (S : ByteArray), k ≤ pn ∧ i = .int .i64 k ∧ sv = .string S ∧ Hid (S = bytesOf (mP6 m ++ linesT (ruleT wPr m.vars) (m.prio.take k))) ∧ Hid (Below w1.heap.size w1 wr)) (fun _ i _ => pn - (intOf i).toNat)
                        case atStart => exact ⟨0, _, Nat.zero_le _, rfl, rfl, hide (by rw [List.take_zero, linesT, List.append_nil]; exact HP6.out), HK5⟩
                        case round =>
                          obtain ⟨k6, S6, hk6, rfl, rfl, HS6, HK6⟩ := hrel
                          have hsz6 := HK6.out.size
                          have hS6 : S6.size ≤ 1000000 := by
                            rw [HS6.out, bytes_size]
                            have h1 := Hlen.out
                            have h2 := lines_le (ruleT wPr m.vars) m.prio k6
                            simp only [mP6, mP5, mP4, mP3, mP2, List.length_append] at h1 ⊢
                            omega
                          by_cases hlt6 : k6 < pn
                          · have hlt6' : ((k6 : Int) < (pn : Int)) := by omega
                            obtain ⟨g, off, t, hA, hgB, hu, y, hc, d, hre⟩ := Hpr.out.at_ hlt6
                            try simp only at hA
                            subst hA
                            have Hu := hide hu; clear hu
                            obtain ⟨yo, yn, yA, yl, yc⟩ := y
                            simp only at hc hre
                            have Hst := hide (Hok.out.prio t (List.mem_of_getElem? Hu.out))
                            have HEt := hide (rtext_any w1.heap.size vA vn vc m.vars w1 Hok.out.vars (Nat.le_refl _) Hrv.out HT1.out d yo yn yA yl yc t hre (sort_gt Hst.out).2.2 (HF.out _ Hst.out))
                            obtain ⟨c0, c1, c2⟩ := hc.keep (w' := wr) (fun p hp => HK6.out.cell (by omega))
                            clear hre
                            have Hbz : Hid (Below w1.heap.size w1 (wr.alloc (.cells #[.int .i64 yo, .int .i64 yn, .slice yA yl yc] 25))) := hide (HK6.out.alloc hsz6 _)
                            have ht : (bytesOf (exT m.vars t)).size ≤ 3840 := by rw [bytes_size]; exact ex_len2 Hst.out
                            have q0 := cells (blk Hbz.out) 0 _ rfl
                            go_wp2_with fail
                            refine (HEt.out _ Hbz.out).mono ?_
                            rintro e w4 ⟨rfl, hb4⟩
                            have Hk4 := hide (Hbz.out.trans (hb4.mono (by simp only [World.size_alloc]; omega)))
                            clear hb4 q0
                            go_wp2_with fail
                            go_roundw
                            case rel => exact ⟨k6 + 1, _, hlt6, by go_num, rfl, hide (by
                              rw [lines_snoc _ Hu.out, ← List.append_assoc]
                              exact bytes_rule _ wPr (exT m.vars t) S6 HS6.out), Hk4⟩
                            case measure => simp [intOf]; omega
                          · have hlt6' : ¬ ((k6 : Int) < (pn : Int)) := by omega
                            have Hkn6 : Hid (m.prio.length ≤ k6) := hide (by have := Hpr.out.1; simp only at this; omega)
                            have HP7 : Hid (S6 = bytesOf (modT m)) := hide (by have := HS6.out; rw [List.take_of_length_le Hkn6.out, mP7] at this; exact this)
                            go_wp2_with fail
                            go_ret
                            exact ⟨by rw [Hsh.out, ← HP7.out]; rfl, Hb1.out.trans (HK6.out.mono (by omega))⟩
  · have hsb : (modE m != 0) = true := by simp [hs]
    have Hsh : Hid (showM m = []) := hide (if_neg hs)
    clear hs
    go_wp2_with fail
    go_ret
    exact ⟨by rw [Hsh.out]; rfl, Hb1.out⟩
end Go.Proofs.YtjpphjmehgflpaaGreatDoor
