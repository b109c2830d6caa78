/- The walks of the program's mayHold, mayUse, isOwn and mayGive. The walk of the program's MayCommand. The walks of the program's mayInit, hasRoom, mayCommands, Goals, mayGoals and May. The walks of the program's mayCommands, Goals, mayGoals and May. The walks of the program's Goals and May. -/
import Derived.Test.YtbppdalfcldodaaGreatGMd
import Derived.Test.YtbppdalfcldodaaGreatGSort
import Derived.Test.YtbppdalfcldodaaGreatGReads
import Derived.OwnWalk
namespace Go.Proofs.YtbppdalfcldodaaGreat
open Go.RowKit Ex
open Go.Sort (grow)
set_option linter.unusedSimpArgs false
set_option linter.unusedVariables false

theorem same_zero (t : T) : sameE t (.mk 0 0 []) = zeroE t := by
  obtain ⟨op, n, ks⟩ := t
  unfold sameE zeroE
  simp only [T.op, T.n, T.kids]
  by_cases h : op = 0 ∧ n = 0 ∧ ks = []
  · obtain ⟨rfl, rfl, rfl⟩ := h
    decide +kernel
  · have h1 : sameT (.mk op n ks) (.mk 0 0 []) = false := by
      rw [sameT_eq]
      simp only [T.op, T.n, T.kids]
      by_cases ho : op = 0
      · by_cases hn : n = 0
        · have hk : ks ≠ [] := fun e => h ⟨ho, hn, e⟩
          rw [sameK_len ks [] (by cases ks with
            | nil => exact absurd rfl hk
            | cons a r => simp)]
          simp
        · simp [hn]
      · simp [ho]
    rw [h1]
    have h2 : ((op == 0) && (n == 0) && (ks.length == 0)) = false := by
      cases hb : ((op == 0) && (n == 0) && (ks.length == 0)) with
      | false => rfl
      | true =>
        simp at hb
        exact absurd ⟨hb.1.1, hb.1.2, hb.2⟩ h
    rw [h2]; simp

set_option maxHeartbeats 400000 in
theorem dhold_any (B : Nat) (Av : Option Addr) (nv cv : Nat) (lv : List Dom.V) (d : Nat) (op n : Int) (A : Option Addr) (len cap : Nat) (t : T) (w : World) (ho : OkVars ⟨Av, nv, cv⟩ lv) (hB : B ≤ w.heap.size) (hre : RE w B d op n A len cap t) (hrv : Dom.RV w B Av nv lv) :
    Calls Tryz.prog 104 #[.slice Av nv cv, .agg #[.int .i64 op, .int .i64 n, .slice A len cap]] w fun e w' => e = .returned (.int .i64 (needE lv t 1 true false false)) ∧ Below w.heap.size w w' := by
  have hbx : Below w.heap.size w (w.alloc (.cells #[.int .i64 op, .int .i64 n, .slice A len cap] 25)) := (Below.refl _ _).alloc (Nat.le_refl _) _
  have Hre := hide (hre.below (hbx.mono hB))
  have Hrv := hide (hrv.below (hbx.mono hB))
  obtain ⟨f0, f1, f2⟩ := box_new w op n A len cap 25
  have hz0 : w.heap.size + 1 ≤ (w.alloc (.cells #[.int .i64 op, .int .i64 n, .slice A len cap] 25)).heap.size := by simp
  have Hbx := hide hbx
  have Ho := hide ho
  clear hre hrv hbx ho
  go_enter Tryz.func104, Tryz.ntmps104
  go_wp2_with fail
  clear f0 f1 f2
  generalize w.alloc (.cells #[.int .i64 op, .int .i64 n, .slice A len cap] 25) = W at *
  refine (needs_any B Av nv cv lv d op n A len cap t 1 true false false W Ho.out.1 Ho.out.2.1 Ho.out.2.2.1 (by omega) Hre.out Hrv.out Ho.out.2.2.2).mono ?_
  rintro e w1 ⟨rfl, hb1⟩
  have Hb1 := hide (Hbx.out.trans (hb1.mono (by omega)))
  clear hb1
  go_wp2_with fail
  go_ret
  exact ⟨ret_int rfl, Hb1.out⟩

set_option maxHeartbeats 400000 in
theorem duse_any (B : Nat) (Av : Option Addr) (nv cv : Nat) (lv : List Dom.V) (d : Nat) (op n : Int) (A : Option Addr) (len cap : Nat) (t : T) (want : Int) (env : Bool) (w : World) (ho : OkVars ⟨Av, nv, cv⟩ lv) (hB : B ≤ w.heap.size) (hre : RE w B d op n A len cap t) (hrv : Dom.RV w B Av nv lv) :
    Calls Tryz.prog 126 #[.slice Av nv cv, .agg #[.int .i64 op, .int .i64 n, .slice A len cap], .int .i64 want, .bool env] w fun e w' => e = .returned (.int .i64 (needE lv t want true (!env) false)) ∧ Below w.heap.size w w' := by
  have hbx : Below w.heap.size w (w.alloc (.cells #[.int .i64 op, .int .i64 n, .slice A len cap] 25)) := (Below.refl _ _).alloc (Nat.le_refl _) _
  have Hre := hide (hre.below (hbx.mono hB))
  have Hrv := hide (hrv.below (hbx.mono hB))
  obtain ⟨f0, f1, f2⟩ := box_new w op n A len cap 25
  have hz0 : w.heap.size + 1 ≤ (w.alloc (.cells #[.int .i64 op, .int .i64 n, .slice A len cap] 25)).heap.size := by simp
  have Hbx := hide hbx
  have Ho := hide ho
  clear hre hrv hbx ho
  go_enter Tryz.func126, Tryz.ntmps126
  go_wp2_with fail
  clear f0 f1 f2
  generalize w.alloc (.cells #[.int .i64 op, .int .i64 n, .slice A len cap] 25) = W at *
  refine (needs_any B Av nv cv lv d op n A len cap t want true (!env) false W Ho.out.1 Ho.out.2.1 Ho.out.2.2.1 (by omega) Hre.out Hrv.out Ho.out.2.2.2).mono ?_
  rintro e w1 ⟨rfl, hb1⟩
  have Hb1 := hide (Hbx.out.trans (hb1.mono (by omega)))
  clear hb1
  go_wp2_with fail
  go_ret
  exact ⟨ret_int rfl, Hb1.out⟩

def ownB (l : List Dom.V) (z : Int) (env : Bool) : Bool := decide (0 ≤ z) && decide (z < (l.length : Int)) && (envAt l z == env)
set_option maxHeartbeats 400000 in
theorem own_any (B : Nat) (Av : Option Addr) (nv cv : Nat) (lv : List Dom.V) (z : Int) (env : Bool) (w : World) (ho : OkVars ⟨Av, nv, cv⟩ lv) (hrv : Dom.RV w B Av nv lv) :
    Calls Tryz.prog 127 #[.slice Av nv cv, .int .i64 z, .bool env] w fun e w' => e = .returned (.bool (ownB lv z env)) ∧ Below w.heap.size w w' := by
  have hnv := ho.1
  simp only at hnv
  unfold maxLen at hnv
  have hnl := hrv.1
  by_cases h0 : 0 ≤ z
  · obtain ⟨q, rfl⟩ := Int.eq_ofNat_of_zero_le h0
    have hb0 : decide (0 ≤ (q : Int)) = true := by simp
    by_cases h1 : q < nv
    · have hb1 : decide ((q : Int) < (nv : Int)) = true := by simp; omega
      have hb2 : decide (q < nv) = true := by simp; omega
      obtain ⟨vb, vo, v, eAv, hvb, hvq, g0, g1, g2, g3, g4⟩ := hrv.at_ (k := q) h1
      subst eAv
      have hqn : (q : Int) < (nv : Int) := by omega
      have Hf : Hid (ownB lv (q : Int) env = (v.env == env)) := hide (by
        unfold ownB envAt
        rw [hb0, hnl, hb1]; simp [hvq])
      clear g0 g2 g3 g4 hvq hrv
      cases hve : v.env <;> rw [hve] at g1 Hf <;> cases env
      all_goals
        go_enter Tryz.func127, Tryz.ntmps127
        go_wp2_with fail
        go_ret
        exact ⟨ret_bool Hf.out.symm, Below.refl _ _⟩
    · have hb1 : decide ((q : Int) < (nv : Int)) = false := by simp; omega
      have hb2 : decide (q < nv) = false := by simp; omega
      have Hf : Hid (ownB lv (q : Int) env = false) := hide (by
        unfold ownB
        rw [hb0, hnl, hb1]; simp)
      clear hrv h1
      go_enter Tryz.func127, Tryz.ntmps127
      go_wp2_with fail
      go_ret
      exact ⟨ret_bool Hf.out.symm, Below.refl _ _⟩
  · have hb0 : decide (0 ≤ z) = false := by simp; omega
    have Hf : Hid (ownB lv z env = false) := hide (by
      unfold ownB
      rw [hb0]; simp)
    clear hrv h0
    go_enter Tryz.func127, Tryz.ntmps127
    go_wp2_with fail
    go_ret
    exact ⟨ret_bool Hf.out.symm, Below.refl _ _⟩

theorem q_duse {W : World} {B : Nat} {Av : Option Addr} {nv cv : Nat} {lv : List Dom.V} {op n : Int} {A : Option Addr} {len cap : Nat} {t : T} {want : Int} {env : Bool} {dd : Nat} {os : Array Obj} (hB : B ≤ W.heap.size) (Ho : Hid (OkVars ⟨Av, nv, cv⟩ lv)) (Hrv : Hid (Dom.RV W B Av nv lv)) (Hre : Hid (EX W B ⟨op, n, A, len, cap⟩ t)) : Calls Tryz.prog 126 #[.slice Av nv cv, .agg #[.int .i64 op, .int .i64 n, .slice A len cap], .int .i64 want, .bool env] (grow (redrawn W dd) os) fun e w'' => e = .returned (.int .i64 (needE lv t want true (!env) false)) ∧ ∃ p : Regrown, w'' = grow (redrawn W p.d) p.os := by
  obtain ⟨d, hre⟩ := Hre.out
  exact Calls.regrown_of (duse_any B Av nv cv lv d op n A len cap t want env _ Ho.out (Nat.le_trans hB (below_regrown W dd os).size) (hre.below ((below_regrown W dd os).mono hB)) (Hrv.out.below ((below_regrown W dd os).mono hB)))

def giveE (l : List Dom.V) (s : ST) (env : Bool) : Int := if s.any = true then (if zeroE s.e = true then 0 else 1) else needE l s.e (srtAt l s.var) true (!env) false
set_option maxHeartbeats 1000000 in
theorem give_any (B : Nat) (Av : Option Addr) (nv cv : Nat) (lv : List Dom.V) (q : Nat) (p : Bool) (x : E5) (t : T) (env : Bool) (w : World) (ho : OkVars ⟨Av, nv, cv⟩ lv) (hB : B ≤ w.heap.size) (hex : EX w B x t) (hrv : Dom.RV w B Av nv lv) (hq : q < nv) :
    Calls Tryz.prog 128 #[.slice Av nv cv, .agg #[.int .i64 (q : Int), .bool p, .int .i64 x.op, .int .i64 x.n, .slice x.A x.len x.cap], .bool env] w fun e w' => e = .returned (.int .i64 (giveE lv ⟨q, p, t⟩ env)) ∧ Below w.heap.size w w' := by
  obtain ⟨so, sm, sO, sl, sc⟩ := x
  simp only
  have hnv := ho.1
  simp only at hnv
  unfold maxLen at hnv
  have hbx := (Below.refl w.heap.size w).alloc (Nat.le_refl _) (.cells #[.int .i64 (q : Int), .bool p, .int .i64 so, .int .i64 sm, .slice sO sl sc] 111)
  have Hex := hide (hex.below (hbx.mono hB))
  have Hrv := hide (hrv.below (hbx.mono hB))
  have Hb5 := hide (box5_new w q p so sm sO sl sc)
  have hz0 : w.heap.size + 1 ≤ (w.alloc (.cells #[.int .i64 (q : Int), .bool p, .int .i64 so, .int .i64 sm, .slice sO sl sc] 111)).heap.size := by simp
  have Hbx := hide hbx
  have Ho := hide ho
  clear hex hrv hbx ho
  obtain ⟨d0, d1, d2, d3, d4⟩ := Hb5.out
  cases p
  · have hqn : (q : Int) < (nv : Int) := by omega
    go_enter Tryz.func128, Tryz.ntmps128
    go_wp2_with fail
    clear d0 d1 d2 d3 d4
    generalize w.alloc (.cells #[.int .i64 (q : Int), .bool false, .int .i64 so, .int .i64 sm, .slice sO sl sc] 111) = W at *
    obtain ⟨vb, vo, v, eAv, hvb, hvq, g0, g1, g2, g3, g4⟩ := Hrv.out.at_ (k := q) hq
    subst eAv
    have Hf : Hid (giveE lv ⟨q, false, t⟩ env = needE lv t v.srt true (!env) false) := hide (by
      unfold giveE srtAt
      simp [hvq])
    have C0 := cell_regrown Hb5.out.1
    have C2 := cell_regrown Hb5.out.2.2.1
    have C3 := cell_regrown Hb5.out.2.2.2.1
    have C4 := cell_regrown Hb5.out.2.2.2.2
    have C5 := cell_regrown g2
    clear g0 g1 g2 g3 g4 hvq
    have hBW : B ≤ W.heap.size := by omega
    refine wp_region_quiet_below (by kernel_rfl) (by kernel_rfl) ?_
    repeat (go_big_quiet_step ((go_at_call 126; exact q_duse hBW Ho Hrv Hex)))
    refine wpQuiet_nil ?_
    intro w5 hw5
    obtain ⟨pp, hpp⟩ := hw5
    have Hb7 : Hid (Below w.heap.size w w5) := hide (by rw [hpp]; exact Hbx.out.trans ((below_regrown W pp.d pp.os).mono (by omega)))
    clear hpp C0 C2 C3 C4 C5
    go_wp2_with fail
    go_ret
    exact ⟨ret_int Hf.out.symm, Hb7.out⟩
  · obtain ⟨d, hre⟩ := Hex.out
    have Hre := hide hre
    have Hf : Hid (giveE lv ⟨q, true, t⟩ env = if sameE t (.mk 0 0 []) = true then 0 else 1) := hide (by
      unfold giveE
      rw [same_zero]; simp)
    clear hre
    go_enter Tryz.func128, Tryz.ntmps128
    go_wp2_with fail
    clear d0 d1 d2 d3 d4
    generalize w.alloc (.cells #[.int .i64 (q : Int), .bool true, .int .i64 so, .int .i64 sm, .slice sO sl sc] 111) = W at *
    refine (same_any B d so sm sO sl sc t 1 0 0 none 0 0 (.mk 0 0 []) W (by omega) Hre.out (RE.leaf _ _ _ _ _)).mono ?_
    rintro e w1 ⟨rfl, hb1⟩
    have Hb1 := hide (Hbx.out.trans (hb1.mono (by omega)))
    clear hb1
    generalize sameE t (.mk 0 0 []) = r at *
    cases r
    · rw [if_neg (by simp)] at Hf
      go_wp2_with fail
      go_ret
      exact ⟨ret_int Hf.out.symm, Hb1.out⟩
    · rw [if_pos rfl] at Hf
      go_wp2_with fail
      go_ret
      exact ⟨ret_int Hf.out.symm, Hb1.out⟩
end Go.Proofs.YtbppdalfcldodaaGreat
namespace Go.Proofs.YtbppdalfcldodaaGreat
open Go.RowKit Ex
open Go.Sort (grow)
set_option linter.unusedSimpArgs false
set_option linter.unusedVariables false

theorem setGo_step (l : List Dom.V) (env : Bool) (seen : List Int) (s : ST) (r : List ST) : setGo l env seen (s :: r) = if ownB l s.var env = true ∧ ¬ s.var ∈ seen then (if giveE l s env = 0 then setGo l env (s.var :: seen) r else giveE l s env) else 3 := by
  have hown : ownB l s.var env = true ↔ ¬ s.var < 0 ∧ ¬ (l.length : Int) ≤ s.var ∧ envAt l s.var = env := by
    unfold ownB
    simp
    constructor
    · rintro ⟨⟨h1, h2⟩, h3⟩; exact ⟨h1, h2, h3⟩
    · rintro ⟨h1, h2, h3⟩; exact ⟨⟨h1, h2⟩, h3⟩
  by_cases h : ownB l s.var env = true ∧ ¬ s.var ∈ seen
  · rw [if_pos h, setGo, if_neg (by
      obtain ⟨h1, h2, h3⟩ := hown.1 h.1
      rintro (h4 | h4 | h4 | h4)
      · exact h1 h4
      · exact h2 h4
      · exact h4 h3
      · exact h.2 h4)]
    unfold giveE
    cases s.any
    · simp
    · cases zeroE s.e <;> simp
  · rw [if_neg h, setGo, if_pos (by
      by_cases h1 : s.var < 0
      · exact .inl h1
      by_cases h2 : (l.length : Int) ≤ s.var
      · exact .inr (.inl h2)
      by_cases h3 : envAt l s.var = env
      · by_cases h4 : s.var ∈ seen
        · exact .inr (.inr (.inr h4))
        · exact absurd ⟨hown.2 ⟨h1, h2, h3⟩, h4⟩ h
      · exact .inr (.inr (.inl h3)))]
theorem own_true {l : List Dom.V} {z : Int} {env : Bool} (h : ownB l z env = true) : ∃ q : Nat, z = (q : Int) ∧ q < l.length := by
  unfold ownB at h
  simp at h
  exact ⟨z.toNat, by omega, by omega⟩
theorem done_new (w : World) (n : Nat) : (w.alloc (.cells (Array.replicate n (.bool false)) 4)).rowIs w.heap.size 4 n (seenV []) := by
  have := World.rowIs_alloc w (Array.replicate n (.bool false)) 4 (seenV []) (fun i hi => by
    simp at hi
    simp [seenV, hi])
  simpa using this
theorem done_set {w : World} {g n k : Nat} {seen : List Int} (h : w.rowIs g 4 n (seenV seen)) : (w.setCell ⟨g, k, none⟩ (.bool true)).rowIs g 4 n (seenV ((k : Int) :: seen)) :=
  (h.set k (.bool true)).congr (fun i hi => by
    by_cases e : i = k
    · rw [if_pos e]; simp [seenV, e]
    · rw [if_neg e]
      have : ¬ (i : Int) = (k : Int) := by omega
      simp [seenV, this])

theorem make_done (nv : Nat) (h6 : nv ≤ 6) : ∀ w : World, (Instr.makeSlice 47 (.int .i64 (nv : Int)) (.int .i64 (nv : Int))).run Tryz.prog w = .ok (.slice (some ⟨w.heap.size, 0, none⟩) nv nv) (w.alloc (.cells (Array.replicate nv (.bool false)) 4)) := by
  have h : nv = 0 ∨ nv = 1 ∨ nv = 2 ∨ nv = 3 ∨ nv = 4 ∨ nv = 5 ∨ nv = 6 := by omega
  rcases h with rfl | rfl | rfl | rfl | rfl | rfl | rfl <;> (intro w; kernel_rfl)
set_option maxRecDepth 100000 in
set_option maxHeartbeats 8000000 in
theorem dcmd_any (B : Nat) (Av : Option Addr) (nv cv : Nat) (lv : List Dom.V) (x : C2) (c : CT) (env : Bool) (w : World) (ho : OkVars ⟨Av, nv, cv⟩ lv) (hB : B ≤ w.heap.size) (hrc : RC w B x c) (hrv : Dom.RV w B Av nv lv) :
    Calls Tryz.prog 105 #[.slice Av nv cv, .agg x.cells, .bool env] w fun e w' => e = .returned (.int .i64 (cmdE lv c env)) ∧ Below w.heap.size w w' := by
  obtain ⟨⟨go, gn, gA, gl, gc⟩, ⟨sA, sn, sc⟩⟩ := x
  obtain ⟨hex, hrs⟩ := hrc
  have hsl := hrs.1
  have hsc := hrs.2.1
  have hsm := hrs.2.2.1
  simp only at hsl hsc hsm
  unfold maxLen at hsm
  have hnv := ho.1
  simp only at hnv
  unfold maxLen at hnv
  have Hnl := hide hrv.1
  have hbx := (Below.refl w.heap.size w).alloc (Nat.le_refl _) (.cells #[.int .i64 go, .int .i64 gn, .slice gA gl gc, .slice sA sn sc] 71)
  obtain ⟨bx, bs⟩ := box4 w go gn gA gl gc sA sn sc
  have hz0 : (w.alloc (.cells #[.int .i64 go, .int .i64 gn, .slice gA gl gc, .slice sA sn sc] 71)).heap.size = w.heap.size + 1 := by simp
  have Hex := hide (hex.below (hbx.mono hB))
  have Hrs := hide (hrs.keep (w' := w.alloc (.cells #[.int .i64 go, .int .i64 gn, .slice gA gl gc, .slice sA sn sc] 71)) (fun b o y h1 hy => SetAt.keep h1 hy (fun p hp => (hbx.mono hB).cell hp)))
  have Hrv := hide (hrv.below (hbx.mono hB))
  have Hbx := hide bx; have Hbs := hide bs; have Hb0 := hide hbx
  have Ho := hide ho
  have Hsl := hide hsl
  have Hc : Hid (cmdE lv c env = if Dom.mayL lv = 0 then (if needE lv c.guard 1 true (!env) false = 0 then (if 6 < c.sets.length then 7 else setGo lv env [] c.sets) else needE lv c.guard 1 true (!env) false) else Dom.mayL lv) := hide rfl
  clear hex hrs hrv hbx bx bs ho hsl
  simp only [C2.cells, SL.v]
  go_enter Tryz.func105, Tryz.ntmps105
  go_wp2_with fail
  generalize w.alloc (.cells #[.int .i64 go, .int .i64 gn, .slice gA gl gc, .slice sA sn sc] 71) = W at *
  have hzW : w.heap.size + 1 ≤ W.heap.size := by omega
  clear hz0
  refine (Dom.may_any Av nv cv B lv W Ho.out.1 (by omega) Hrv.out Ho.out.2.2.2).mono ?_
  rintro e w1 ⟨rfl, hb1⟩
  have hz1 := hb1.size
  have Hb1 := hide (Hb0.out.trans (hb1.mono (by omega)))
  have Hex1 := hide (Hex.out.below (hb1.mono (by omega)))
  have Hrs1 := hide (Hrs.out.keep (w' := w1) (fun b o y h1 hy => SetAt.keep h1 hy (fun p hp => (hb1.mono (by omega)).cell hp)))
  have Hrv1 := hide (Hrv.out.below (hb1.mono (by omega)))
  have Hbx1 := hide (Hbx.out.below hb1 (by omega))
  have Hbs1 := hide ((hb1.cell (p := ⟨w.heap.size, 3, none⟩) (by show w.heap.size < W.heap.size; omega)).trans Hbs.out)
  clear hb1 Hb0 Hex Hrs Hrv Hbx Hbs
  by_cases hm : Dom.mayL lv = 0
  · have hmb : (Dom.mayL lv != 0) = false := by simp [hm]
    rw [if_pos hm] at Hc
    have hlen6 : nv ≤ 6 := by
      have := Dom.totL_len (Dom.mayL_zero hm).2
      rw [Hnl.out] at this; exact this
    clear hm
    obtain ⟨f0, f1, f2⟩ := Hbx1.out
    obtain ⟨dg, hdg⟩ := Hex1.out
    have Hdg := hide hdg
    clear hdg
    go_wp2_with fail
    clear f0 f1 f2
    refine (duse_any B Av nv cv lv dg go gn gA gl gc c.guard 1 env w1 Ho.out (by omega) Hdg.out Hrv1.out).mono ?_
    rintro e w2 ⟨rfl, hb2⟩
    have hz2 := hb2.size
    have Hb2 := hide (Hb1.out.trans (hb2.mono (by omega)))
    have Hrs2 := hide (Hrs1.out.keep (w' := w2) (fun b o y h1 hy => SetAt.keep h1 hy (fun p hp => (hb2.mono (by omega)).cell hp)))
    have Hrv2 := hide (Hrv1.out.below (hb2.mono (by omega)))
    have Hbs2 := hide ((hb2.cell (p := ⟨w.heap.size, 3, none⟩) (by show w.heap.size < w1.heap.size; omega)).trans Hbs1.out)
    clear hb2 Hb1 Hex1 Hrs1 Hrv1 Hbx1 Hbs1 Hdg
    by_cases hg : needE lv c.guard 1 true (!env) false = 0
    · have hgb : (needE lv c.guard 1 true (!env) false != 0) = false := by simp [hg]
      rw [if_pos hg] at Hc
      clear hg
      have f3 := Hbs2.out
      by_cases hs6 : 6 < sn
      · have hsb : decide ((6 : Int) < (sn : Int)) = true := by simp; omega
        have hsb2 : decide (6 < sn) = true := by simp [hs6]
        have Hf : Hid (cmdE lv c env = 7) := hide (by rw [Hc.out, if_pos (by rw [Hsl.out]; exact hs6)])
        clear hs6
        go_wp2_with fail
        go_ret
        exact ⟨ret_int Hf.out.symm, Hb2.out⟩
      · have hsb : decide ((6 : Int) < (sn : Int)) = false := by simp; omega
        have hsb2 : decide (6 < sn) = false := by simp [hs6]
        rw [if_neg (by rw [Hsl.out]; exact hs6)] at Hc
        have hmk : ∀ w : World, (Instr.makeSlice 47 (.int .i64 (nv : Int)) (.int .i64 (nv : Int))).run Tryz.prog w = .ok (.slice (some ⟨w.heap.size, 0, none⟩) nv nv) (w.alloc (.cells (Array.replicate nv (.bool false)) 4)) := by
          exact fun w => make_done nv hlen6 w
        have hbA := (Below.refl w2.heap.size w2).alloc (Nat.le_refl _) (.cells (Array.replicate nv (.bool false)) 4)
        have Hrow := hide (done_new w2 nv)
        have hzA : w2.heap.size + 1 ≤ (w2.alloc (.cells (Array.replicate nv (.bool false)) 4)).heap.size := by simp
        have Hb3 := hide (Hb2.out.trans (hbA.mono (by omega)))
        have Hrs3 := hide (Hrs2.out.keep (w' := w2.alloc (.cells (Array.replicate nv (.bool false)) 4)) (fun b o y h1 hy => SetAt.keep h1 hy (fun p hp => (hbA.mono (by omega)).cell hp)))
        have Hrv3 := hide (Hrv2.out.below (hbA.mono (by omega)))
        have f4 := (hbA.cell (p := ⟨w.heap.size, 3, none⟩) (by show w.heap.size < w2.heap.size; omega)).trans f3
        clear hbA Hb2 Hrs2 Hrv2 Hbs2
        go_wp2_with fail
        clear f3 f4 hmk
        generalize w2.alloc (.cells (Array.replicate nv (.bool false)) 4) = V at *
        generalize hG : w2.heap.size = G at *
        clear hG
        go_loopw [36] (fun i wr => ∃ (k : Nat) (seen : List Int), k ≤ sn ∧ i = .int .i64 k ∧ Hid (setGo lv env seen (c.sets.drop k) = setGo lv env [] c.sets) ∧ wr.rowIs G 4 nv (seenV seen) ∧ Onl G V wr) (fun i _ => sn - (intOf i).toNat)
        case atStart => exact ⟨0, [], by omega, rfl, hide rfl, Hrow.out, Onl.refl _ _⟩
        case round =>
          obtain ⟨k, seen, hk, rfl, HT, hrw, hon⟩ := hrel
          have Hrw := hide hrw
          have Hon := hide hon
          have hzr := hon.size
          have Hbw := hide (Hb3.out.trans (hon.below (B := w.heap.size) (by omega) (by have := Hb3.out.size; omega)))
          clear hrw hon
          by_cases hlt : k < sn
          · have hlt' : ((k : Int) < (sn : Int)) := by omega
            have hbV := Hon.out.below (B := B) (by omega) (by omega)
            obtain ⟨b, off, s, eA, hbB, hku, ⟨c0, c1, ⟨so, sm, sO, sl2, sc2⟩, ⟨c2, c3, c4⟩, hes⟩⟩ := (Hrs3.out.keep (w' := wr) (fun b o y h1 hy => SetAt.keep h1 hy (fun p hp => hbV.cell hp))).at_ (k := k) hlt
            simp only at eA c2 c3 c4
            subst eA
            have Hdr := hide (set_drop hku)
            obtain ⟨z, p, te⟩ := s
            simp only at c0 c1 hes
            have HT2 : Hid ((if ownB lv z env = true ∧ ¬ z ∈ seen then (if giveE lv ⟨z, p, te⟩ env = 0 then setGo lv env (z :: seen) (c.sets.drop (k + 1)) else giveE lv ⟨z, p, te⟩ env) else 3) = setGo lv env [] c.sets) := hide (by rw [← setGo_step lv env seen ⟨z, p, te⟩, ← Hdr.out, HT.out])
            clear hku HT
            have hbA := (Below.refl wr.heap.size wr).alloc (Nat.le_refl _) (.cells #[.int .i64 z, .bool p, .int .i64 so, .int .i64 sm, .slice sO sl2 sc2] 111)
            have Hes := hide (hes.below (hbA.mono (by omega)))
            have Hrv4 := hide ((Hrv3.out.below hbV).below (hbA.mono (by omega)))
            have Hrw4 := hide (Hrw.out.alloc (.cells #[.int .i64 z, .bool p, .int .i64 so, .int .i64 sm, .slice sO sl2 sc2] 111))
            have Hon4 := hide (Hon.out.alloc (.cells #[.int .i64 z, .bool p, .int .i64 so, .int .i64 sm, .slice sO sl2 sc2] 111))
            have Hb5 := hide (box5_new wr z p so sm sO sl2 sc2)
            have Hbw4 := hide (Hbw.out.trans (hbA.mono (by have := Hbw.out.size; omega)))
            have hz4 : wr.heap.size + 1 ≤ (wr.alloc (.cells #[.int .i64 z, .bool p, .int .i64 so, .int .i64 sm, .slice sO sl2 sc2] 111)).heap.size := by simp
            obtain ⟨d0, d1, d2, d3, d4⟩ := Hb5.out
            clear hes hbA hbV
            go_wp2_with fail
            clear c0 c1 c2 c3 c4 d0 d1 d2 d3 d4
            generalize wr.alloc (.cells #[.int .i64 z, .bool p, .int .i64 so, .int .i64 sm, .slice sO sl2 sc2] 111) = W4 at *
            refine (own_any B Av nv cv lv z env W4 Ho.out Hrv4.out).mono ?_
            rintro e w5 ⟨rfl, hb5⟩
            have hz5 := hb5.size
            have Hbw5 := hide (Hbw4.out.trans (hb5.mono (by have := Hbw4.out.size; omega)))
            have Hrw5 := hide (Hrw4.out.of_block (hb5.block _ (by omega)))
            have Hon5 : Hid (Onl G V w5) := hide (Hon4.out.trans ⟨hb5.os, hb5.tape, hb5.output, hb5.size, fun i hi _ => hb5.block i hi⟩)
            have Hes5 := hide (Hes.out.below (hb5.mono (by omega)))
            have Hrv5 := hide (Hrv4.out.below (hb5.mono (by omega)))
            have Hb55 := hide (Hb5.out.far (w' := w5) (fun q2 hq2 => hb5.cell (by rw [hq2]; omega)))
            clear hb5 Hbw4 Hrw4 Hon4 Hes Hrv4 Hb5
            have HO : Hid (ownB lv z env = true → ∃ q : Nat, z = (q : Int) ∧ q < nv) := hide (fun h => by
              obtain ⟨q, h1, h2⟩ := own_true h
              exact ⟨q, h1, by rw [← Hnl.out]; exact h2⟩)
            generalize ownB lv z env = ob at *
            cases ob
            · have Hf : Hid (cmdE lv c env = 3) := hide (by rw [Hc.out, ← HT2.out, if_neg (by simp)])
              obtain ⟨d0, d1, d2, d3, d4⟩ := Hb55.out
              go_wp2_with fail
              go_ret
              exact ⟨ret_int Hf.out.symm, Hbw5.out⟩
            · obtain ⟨q, rfl, hq⟩ := HO.out rfl
              clear HO
              have hqn : (q : Int) < (nv : Int) := by omega
              obtain ⟨d0, d1, d2, d3, d4⟩ := Hb55.out
              by_cases hsn : (q : Int) ∈ seen
              · have ca : w5.cell? ⟨G, q, none⟩ = some (.bool true) := (Hrw5.out.cell (i := q) (by omega)).trans (by simp [seenV, hsn])
                have Hf : Hid (cmdE lv c env = 3) := hide (by rw [Hc.out, ← HT2.out, if_neg (fun h => h.2 hsn)])
                go_wp2_with fail
                go_ret
                exact ⟨ret_int Hf.out.symm, Hbw5.out⟩
              · have ca : w5.cell? ⟨G, q, none⟩ = some (.bool false) := (Hrw5.out.cell (i := q) (by omega)).trans (by simp [seenV, hsn])
                have HT3 : Hid ((if giveE lv ⟨q, p, te⟩ env = 0 then setGo lv env ((q : Int) :: seen) (c.sets.drop (k + 1)) else giveE lv ⟨q, p, te⟩ env) = setGo lv env [] c.sets) := hide (by
                  have h := HT2.out
                  rw [if_pos ⟨rfl, hsn⟩] at h
                  exact h)
                clear HT2 hsn
                go_wp2_with fail
                clear ca d0 d1 d2 d3 d4
                refine (give_any B Av nv cv lv q p ⟨so, sm, sO, sl2, sc2⟩ te env w5 Ho.out (by omega) Hes5.out Hrv5.out hq).mono ?_
                rintro e w6 ⟨rfl, hb6⟩
                have hz6 := hb6.size
                have Hbw6 := hide (Hbw5.out.trans (hb6.mono (by have := Hbw5.out.size; omega)))
                have Hrw6 := hide (Hrw5.out.of_block (hb6.block _ (by omega)))
                have Hon6 : Hid (Onl G V w6) := hide (Hon5.out.trans ⟨hb6.os, hb6.tape, hb6.output, hb6.size, fun i hi _ => hb6.block i hi⟩)
                have d0 := (hb6.cell (p := ⟨wr.heap.size, 0, none⟩) (by show wr.heap.size < w5.heap.size; omega)).trans Hb55.out.1
                clear hb6 Hbw5 Hrw5 Hon5 Hb55 Hes5 Hrv5
                generalize giveE lv ⟨q, p, te⟩ env = r at *
                by_cases hr : r = 0
                · have hrb : (r != 0) = false := by simp [hr]
                  have HT5 : Hid (setGo lv env ((q : Int) :: seen) (c.sets.drop (k + 1)) = setGo lv env [] c.sets) := hide (by have h := HT3.out; rw [if_pos hr] at h; exact h)
                  have hfz := Hrw6.out.frozen q
                  have ca : w6.cell? ⟨G, q, none⟩ = some (seenV seen q) := Hrw6.out.cell (i := q) (by omega)
                  have Hrw7 := hide (done_set (k := q) Hrw6.out)
                  have Hon7 := hide (Hon6.out.set q (.bool true))
                  clear hr HT3
                  go_wp2_with fail
                  go_roundw
                  case rel => exact ⟨k + 1, (q : Int) :: seen, by omega, by go_num, HT5, Hrw7.out, Hon7.out⟩
                  case measure => simp [intOf]; omega
                · have hrb : (r != 0) = true := by simp [hr]
                  have Hf : Hid (cmdE lv c env = r) := hide (by have h := HT3.out; rw [if_neg hr] at h; rw [Hc.out, ← h])
                  clear hr HT3
                  go_wp2_with fail
                  go_ret
                  exact ⟨ret_int Hf.out.symm, Hbw6.out⟩
          · have hlt' : ¬ ((k : Int) < (sn : Int)) := by omega
            have Hf : Hid (cmdE lv c env = 0) := hide (by
              rw [Hc.out, ← HT.out, List.drop_of_length_le (by rw [Hsl.out]; omega), setGo])
            go_wp2_with fail
            go_ret
            exact ⟨ret_int Hf.out.symm, Hbw.out⟩
    · have hgb : (needE lv c.guard 1 true (!env) false != 0) = true := by simp [hg]
      rw [if_neg hg] at Hc
      clear hg
      go_wp2_with fail
      go_ret
      exact ⟨ret_int Hc.out.symm, Hb2.out⟩
  · have hmb : (Dom.mayL lv != 0) = true := by simp [hm]
    rw [if_neg hm] at Hc
    clear hm
    go_wp2_with fail
    go_ret
    exact ⟨ret_int Hc.out.symm, Hb1.out⟩
end Go.Proofs.YtbppdalfcldodaaGreat
namespace Go.Proofs.YtbppdalfcldodaaGreat
open Go.RowKit Ex
open Go.Sort (grow)
set_option linter.unusedSimpArgs false
set_option linter.unusedVariables false

set_option maxHeartbeats 1000000 in
theorem dinit_any (B : Nat) (x : M8) (m : MT) (w : World) (hB : B ≤ w.heap.size) (hrm : RM w B x m) :
    Calls Tryz.prog 75 #[.agg x.cells] w fun e w' => e = .returned (.int .i64 (firstE [needE m.vars m.ie 1 false false false, needE m.vars m.is 1 true false false])) ∧ Below w.heap.size w w' := by
  have hbx := (Below.refl w.heap.size w).alloc (Nat.le_refl _) (.cells x.cells 28)
  have Hrm0 := hide (hrm.below (hbx.mono hB))
  have Hbx0 := hide (boxM_new w x)
  have Hb0 := hide hbx
  have hz0 : w.heap.size + 1 ≤ (w.alloc (.cells x.cells 28)).heap.size := by simp
  have Ho := hide hrm.1
  obtain ⟨⟨vA, vn, vc⟩, ⟨io, im, iA, il, ic⟩, ⟨jo, jm, jA, jl, jc⟩, ⟨eA, en, ec⟩, ⟨sA, sn, sc⟩, ⟨aA, an, ac⟩, ⟨nA, nn, nc⟩, ⟨pA, pn, pc⟩⟩ := x
  clear hrm hbx
  simp only [M8.cells, SL.v] at *
  have q0 : (w.alloc (.cells #[.slice vA vn vc, .int .i64 io, .int .i64 im, .slice iA il ic, .int .i64 jo, .int .i64 jm, .slice jA jl jc, .slice eA en ec, .slice sA sn sc, .slice aA an ac, .slice nA nn nc, .slice pA pn pc] 28)).cell? ⟨w.heap.size, 0, none⟩ = some (.slice vA vn vc) := Hbx0.out 0 _ rfl
  have q1 := Hbx0.out 1 _ rfl
  have q2 := Hbx0.out 2 _ rfl
  have q3 := Hbx0.out 3 _ rfl
  obtain ⟨dg, hdg⟩ := Hrm0.out.2.2.1
  have Hdg := hide hdg
  obtain ⟨dh, hdh⟩ := Hrm0.out.2.2.2.1
  have Hdh := hide hdh
  have Hrv := hide Hrm0.out.2.1
  clear hdg hdh Hrm0
  go_enter Tryz.func75, Tryz.ntmps75
  go_wp2_with fail
  clear q0 q1 q2 q3
  generalize hW : w.alloc (.cells #[.slice vA vn vc, .int .i64 io, .int .i64 im, .slice iA il ic, .int .i64 jo, .int .i64 jm, .slice jA jl jc, .slice eA en ec, .slice sA sn sc, .slice aA an ac, .slice nA nn nc, .slice pA pn pc] 28) = w0 at *
  clear hW
  refine (needs_any B vA vn vc m.vars dg io im iA il ic m.ie 1 false false false w0 Ho.out.1 Ho.out.2.1 Ho.out.2.2.1 (by omega) Hdg.out Hrv.out Ho.out.2.2.2).mono ?_
  rintro e w1 ⟨rfl, hb1⟩
  have hz1 := hb1.size
  have Hb1 := hide (Hb0.out.trans (hb1.mono (by omega)))
  have Hdh1 := hide (Hdh.out.below (hb1.mono (by omega)))
  have Hrv1 := hide (Hrv.out.below (hb1.mono (by omega)))
  have Hbx1 := hide (Hbx0.out.below hb1 (by omega))
  clear hb1 Hb0 Hdg Hdh Hrv Hbx0
  have HM : Hid (firstE [needE m.vars m.ie 1 false false false, needE m.vars m.is 1 true false false] = firstE [needE m.vars m.ie 1 false false false, needE m.vars m.is 1 true false false]) := hide rfl
  by_cases hx : needE m.vars m.ie 1 false false false = 0
  · have hxb : (needE m.vars m.ie 1 false false false != 0) = false := by simp [hx]
    have HM2 : Hid (firstE [needE m.vars m.ie 1 false false false, needE m.vars m.is 1 true false false] = needE m.vars m.is 1 true false false) := hide (by
      rw [first_zero HM.out hx, firstE, firstE]
      split
      · rename_i h; exact h.symm
      · rfl)
    clear hx HM
    have q0 := Hbx1.out 0 _ rfl
    have q1 := Hbx1.out 4 _ rfl
    have q2 := Hbx1.out 5 _ rfl
    have q3 := Hbx1.out 6 _ rfl
    go_wp2_with fail
    clear q0 q1 q2 q3
    refine (dhold_any B vA vn vc m.vars dh jo jm jA jl jc m.is w1 Ho.out (by omega) Hdh1.out Hrv1.out).mono ?_
    rintro e w2 ⟨rfl, hb2⟩
    have Hb2 := hide (Hb1.out.trans (hb2.mono (by omega)))
    clear hb2
    go_wp2_with fail
    go_ret
    exact ⟨ret_int HM2.out.symm, Hb2.out⟩
  · have hxb : (needE m.vars m.ie 1 false false false != 0) = true := by simp [hx]
    have Hf := hide (first_not HM.out hx)
    clear hx HM
    go_wp2_with fail
    go_ret
    exact ⟨ret_int Hf.out.symm, Hb1.out⟩

theorem BoxM.all {w : World} {b : Nat} {x : M8} (h : BoxM w b x) : w.cell? ⟨b, 0, none⟩ = some (.slice x.vars.A x.vars.n x.vars.c) ∧ w.cell? ⟨b, 1, none⟩ = some (.int .i64 x.ie.op) ∧ w.cell? ⟨b, 2, none⟩ = some (.int .i64 x.ie.n) ∧ w.cell? ⟨b, 3, none⟩ = some (.slice x.ie.A x.ie.len x.ie.cap) ∧
    w.cell? ⟨b, 4, none⟩ = some (.int .i64 x.is.op) ∧ w.cell? ⟨b, 5, none⟩ = some (.int .i64 x.is.n) ∧ w.cell? ⟨b, 6, none⟩ = some (.slice x.is.A x.is.len x.is.cap) ∧ w.cell? ⟨b, 7, none⟩ = some (.slice x.env.A x.env.n x.env.c) ∧ w.cell? ⟨b, 8, none⟩ = some (.slice x.sys.A x.sys.n x.sys.c) ∧
    w.cell? ⟨b, 9, none⟩ = some (.slice x.asm.A x.asm.n x.asm.c) ∧ w.cell? ⟨b, 10, none⟩ = some (.slice x.ens.A x.ens.n x.ens.c) ∧ w.cell? ⟨b, 11, none⟩ = some (.slice x.prio.A x.prio.n x.prio.c) :=
  ⟨h 0 _ rfl, h 1 _ rfl, h 2 _ rfl, h 3 _ rfl, h 4 _ rfl, h 5 _ rfl, h 6 _ rfl, h 7 _ rfl, h 8 _ rfl, h 9 _ rfl, h 10 _ rfl, h 11 _ rfl⟩
def hasL (m : MT) : Nat → Nat
  | 0 => m.env.length
  | 1 => m.sys.length
  | 2 => m.asm.length
  | 3 => m.ens.length
  | _ => m.prio.length
def mostL : Nat → Nat
  | 0 => 12
  | 1 => 12
  | 2 => 4
  | 3 => 4
  | _ => 6
theorem sizes_no {m : MT} {k : Nat} (hk : k < 5) (h : mostL k < hasL m k) : sizesE m = 7 := by
  unfold sizesE
  have hk' : k = 0 ∨ k = 1 ∨ k = 2 ∨ k = 3 ∨ k = 4 := by omega
  rw [if_pos]
  rcases hk' with rfl | rfl | rfl | rfl | rfl <;> simp only [mostL, hasL] at h <;> omega
theorem sizes_yes {m : MT} (h : ∀ j < 5, hasL m j ≤ mostL j) : sizesE m = 0 := by
  unfold sizesE
  rw [if_neg]
  have h0 := h 0 (by omega)
  have h1 := h 1 (by omega)
  have h2 := h 2 (by omega)
  have h3 := h 3 (by omega)
  have h4 := h 4 (by omega)
  simp only [mostL, hasL] at h0 h1 h2 h3 h4
  omega
theorem room_tab (G : Nat) (w : World) (en sn an nn pn : Nat) (h : w.heap[G]? = some (.cells #[.int .i64 (en : Int), .int .i64 12, .int .i64 (sn : Int), .int .i64 12, .int .i64 (an : Int), .int .i64 4, .int .i64 (nn : Int), .int .i64 4, .int .i64 (pn : Int), .int .i64 6] 136 (0, 0))) (m : MT) (h1 : m.env.length = en) (h2 : m.sys.length = sn) (h3 : m.asm.length = an) (h4 : m.ens.length = nn) (h5 : m.prio.length = pn)
    (bs : en ≤ 2 ^ 63 - 1 ∧ sn ≤ 2 ^ 63 - 1 ∧ an ≤ 2 ^ 63 - 1 ∧ nn ≤ 2 ^ 63 - 1 ∧ pn ≤ 2 ^ 63 - 1) (k : Nat) (hk : k < 5) :
    ∃ a b : Nat, w.cell? ⟨G, k * 2, none⟩ = some (.int .i64 (a : Int)) ∧ w.cell? ⟨G, k * 2 + 1, none⟩ = some (.int .i64 (b : Int)) ∧ a ≤ 2 ^ 63 - 1 ∧ b ≤ 12 ∧ hasL m k = a ∧ mostL k = b := by
  have hk' : k = 0 ∨ k = 1 ∨ k = 2 ∨ k = 3 ∨ k = 4 := by omega
  have c : ∀ i v, (#[.int .i64 (en : Int), .int .i64 12, .int .i64 (sn : Int), .int .i64 12, .int .i64 (an : Int), .int .i64 4, .int .i64 (nn : Int), .int .i64 4, .int .i64 (pn : Int), .int .i64 6] : Array Value)[i]? = some v → w.cell? ⟨G, i, none⟩ = some v := fun i v hv => by
    rw [cell_of_row _ _ i _ _ (0, 0) h]; exact hv
  rcases hk' with rfl | rfl | rfl | rfl | rfl
  · exact ⟨en, 12, c 0 _ rfl, c 1 _ rfl, bs.1, by omega, h1, rfl⟩
  · exact ⟨sn, 12, c 2 _ rfl, c 3 _ rfl, bs.2.1, by omega, h2, rfl⟩
  · exact ⟨an, 4, c 4 _ rfl, c 5 _ rfl, bs.2.2.1, by omega, h3, rfl⟩
  · exact ⟨nn, 4, c 6 _ rfl, c 7 _ rfl, bs.2.2.2.1, by omega, h4, rfl⟩
  · exact ⟨pn, 6, c 8 _ rfl, c 9 _ rfl, bs.2.2.2.2, by omega, h5, rfl⟩

set_option maxRecDepth 100000 in
set_option maxHeartbeats 2000000 in
theorem droom_any (B : Nat) (x : M8) (m : MT) (w : World) (hB : B ≤ w.heap.size) (hrm : RM w B x m) :
    Calls Tryz.prog 76 #[.agg x.cells] w fun e w' => e = .returned (.bool (decide (sizesE m = 0))) ∧ Below w.heap.size w w' := by
  have hbx := (Below.refl w.heap.size w).alloc (Nat.le_refl _) (.cells x.cells 28)
  have Hbx0 := hide (boxM_new w x)
  have Hb0 := hide hbx
  have hz0 : (w.alloc (.cells x.cells 28)).heap.size = w.heap.size + 1 := by simp
  obtain ⟨⟨vA, vn, vc⟩, ⟨io, im, iA, il, ic⟩, ⟨jo, jm, jA, jl, jc⟩, ⟨eA, en, ec⟩, ⟨sA, sn, sc⟩, ⟨aA, an, ac⟩, ⟨nA, nn, nc⟩, ⟨pA, pn, pc⟩⟩ := x
  have bE := hrm.2.2.2.2.1.2
  have bS := hrm.2.2.2.2.2.1.2
  have bA := hrm.2.2.2.2.2.2.1.2
  have bN := hrm.2.2.2.2.2.2.2.1.2
  have bP := hrm.2.2.2.2.2.2.2.2.2
  have LE := hide hrm.2.2.2.2.1.1
  have LS := hide hrm.2.2.2.2.2.1.1
  have LA := hide hrm.2.2.2.2.2.2.1.1
  have LN := hide hrm.2.2.2.2.2.2.2.1.1
  have LP := hide hrm.2.2.2.2.2.2.2.2.1
  have xE : en ≤ 2 ^ 63 - 1 := Nat.le_trans bE.1 bE.2.1
  have xS : sn ≤ 2 ^ 63 - 1 := Nat.le_trans bS.1 bS.2.1
  have xA : an ≤ 2 ^ 63 - 1 := Nat.le_trans bA.1 bA.2.1
  have xN : nn ≤ 2 ^ 63 - 1 := Nat.le_trans bN.1 bN.2.1
  have xP : pn ≤ 2 ^ 63 - 1 := Nat.le_trans bP.1 bP.2.1
  clear hrm hbx bE bS bA bN bP
  simp only [M8.cells, SL.v] at *
  have Hbx1 := Hbx0
  obtain ⟨_, _, _, _, _, _, _, r1, r2, r3, r4, r5⟩ := Hbx1.out.all
  clear Hbx1
  simp only at r1 r2 r3 r4 r5
  have hbT := (Below.refl (w.alloc (.cells #[.slice vA vn vc, .int .i64 io, .int .i64 im, .slice iA il ic, .int .i64 jo, .int .i64 jm, .slice jA jl jc, .slice eA en ec, .slice sA sn sc, .slice aA an ac, .slice nA nn nc, .slice pA pn pc] 28)).heap.size (w.alloc (.cells #[.slice vA vn vc, .int .i64 io, .int .i64 im, .slice iA il ic, .int .i64 jo, .int .i64 jm, .slice jA jl jc, .slice eA en ec, .slice sA sn sc, .slice aA an ac, .slice nA nn nc, .slice pA pn pc] 28))).alloc (Nat.le_refl _) (.cells #[.int .i64 (en : Int), .int .i64 12, .int .i64 (sn : Int), .int .i64 12, .int .i64 (an : Int), .int .i64 4, .int .i64 (nn : Int), .int .i64 4, .int .i64 (pn : Int), .int .i64 6] 136)
  have Hb1 := hide (Hb0.out.trans (hbT.mono (by omega)))
  have Htab : Hid (((w.alloc (.cells #[.slice vA vn vc, .int .i64 io, .int .i64 im, .slice iA il ic, .int .i64 jo, .int .i64 jm, .slice jA jl jc, .slice eA en ec, .slice sA sn sc, .slice aA an ac, .slice nA nn nc, .slice pA pn pc] 28)).alloc (.cells #[.int .i64 (en : Int), .int .i64 12, .int .i64 (sn : Int), .int .i64 12, .int .i64 (an : Int), .int .i64 4, .int .i64 (nn : Int), .int .i64 4, .int .i64 (pn : Int), .int .i64 6] 136)).heap[w.heap.size + 1]? = some (.cells #[.int .i64 (en : Int), .int .i64 12, .int .i64 (sn : Int), .int .i64 12, .int .i64 (an : Int), .int .i64 4, .int .i64 (nn : Int), .int .i64 4, .int .i64 (pn : Int), .int .i64 6] 136 (0, 0))) := hide (by
    have h := heap_alloc_new (w.alloc (.cells #[.slice vA vn vc, .int .i64 io, .int .i64 im, .slice iA il ic, .int .i64 jo, .int .i64 jm, .slice jA jl jc, .slice eA en ec, .slice sA sn sc, .slice aA an ac, .slice nA nn nc, .slice pA pn pc] 28)) (.cells #[.int .i64 (en : Int), .int .i64 12, .int .i64 (sn : Int), .int .i64 12, .int .i64 (an : Int), .int .i64 4, .int .i64 (nn : Int), .int .i64 4, .int .i64 (pn : Int), .int .i64 6] 136)
    rw [hz0] at h
    exact h)
  have hz1 : w.heap.size + 2 ≤ ((w.alloc (.cells #[.slice vA vn vc, .int .i64 io, .int .i64 im, .slice iA il ic, .int .i64 jo, .int .i64 jm, .slice jA jl jc, .slice eA en ec, .slice sA sn sc, .slice aA an ac, .slice nA nn nc, .slice pA pn pc] 28)).alloc (.cells #[.int .i64 (en : Int), .int .i64 12, .int .i64 (sn : Int), .int .i64 12, .int .i64 (an : Int), .int .i64 4, .int .i64 (nn : Int), .int .i64 4, .int .i64 (pn : Int), .int .i64 6] 136)).heap.size := by simp
  clear hbT Hb0 Hbx0
  go_enter Tryz.func76, Tryz.ntmps76
  go_wp2_with fail
  clear r1 r2 r3 r4 r5 hz0
  generalize (w.alloc (.cells #[.slice vA vn vc, .int .i64 io, .int .i64 im, .slice iA il ic, .int .i64 jo, .int .i64 jm, .slice jA jl jc, .slice eA en ec, .slice sA sn sc, .slice aA an ac, .slice nA nn nc, .slice pA pn pc] 28)).alloc (.cells #[.int .i64 (en : Int), .int .i64 12, .int .i64 (sn : Int), .int .i64 12, .int .i64 (an : Int), .int .i64 4, .int .i64 (nn : Int), .int .i64 4, .int .i64 (pn : Int), .int .i64 6] 136) = V at *
  go_loopw [27] (fun i wr => ∃ k : Nat, k ≤ 5 ∧ i = .int .i64 k ∧ Hid (∀ j < k, hasL m j ≤ mostL j) ∧ Below V.heap.size V wr) (fun i _ => 5 - (intOf i).toNat)
  case atStart => exact ⟨0, by omega, rfl, hide (fun j h => absurd h (by omega)), Below.refl _ _⟩
  case round =>
    obtain ⟨k, hk, rfl, HT, hbw⟩ := hrel
    have hzr := hbw.size
    by_cases hlt : k < 5
    · have hlt' : ((k : Int) < 5) := by omega
      obtain ⟨a, b, c0, c1, ha, hb, HA, HB⟩ := room_tab (w.heap.size + 1) wr en sn an nn pn ((hbw.block _ (by omega)).trans Htab.out) m LE.out LS.out LA.out LN.out LP.out ⟨xE, xS, xA, xN, xP⟩ k hlt
      have hbA := (Below.refl wr.heap.size wr).alloc (Nat.le_refl _) (.cells #[.int .i64 (a : Int), .int .i64 (b : Int)] 136)
      have HbA := hide (hbw.trans (hbA.mono hzr))
      by_cases hab : b < a
      · have h1 : decide ((b : Int) < (a : Int)) = true := by simp; omega
        have h2 : decide (b < a) = true := by simp; omega
        have Hf : Hid (decide (sizesE m = 0) = false) := hide (by
          rw [sizes_no hlt (by rw [HA, HB]; exact hab)]; decide)
        have Hbf := hide (Hb1.out.trans (HbA.out.mono (by have := Hb1.out.size; omega)))
        clear hab HA HB hbA hbw
        go_wp2_with fail
        go_ret
        exact ⟨ret_bool Hf.out.symm, Hbf.out⟩
      · have h1 : decide ((b : Int) < (a : Int)) = false := by simp; omega
        have h2 : decide (b < a) = false := by simp; omega
        have HT2 : Hid (∀ j < k + 1, hasL m j ≤ mostL j) := hide (fun j hj => by
          by_cases e : j = k
          · subst e; rw [HA, HB]; omega
          · exact HT.out j (by omega))
        clear hab HA HB hbA hbw
        go_wp2_with fail
        go_roundw
        case rel => exact ⟨k + 1, by omega, by go_num, HT2, HbA.out⟩
        case measure => simp [intOf]; omega
    · have hlt' : ¬ ((k : Int) < 5) := by omega
      have Hf : Hid (decide (sizesE m = 0) = true) := hide (by
        rw [sizes_yes (fun j hj => HT.out j (by omega))]; decide)
      have Hbf := hide (Hb1.out.trans (hbw.mono (by have := Hb1.out.size; omega)))
      go_wp2_with fail
      go_ret
      exact ⟨ret_bool Hf.out.symm, Hbf.out⟩
end Go.Proofs.YtbppdalfcldodaaGreat
namespace Go.Proofs.YtbppdalfcldodaaGreat
open Go.RowKit Ex
open Go.Sort (grow)
set_option linter.unusedSimpArgs false
set_option linter.unusedVariables false

theorem cmds_tab (G B : Nat) (w : World) (e s : SL) (m : MT) (h : w.heap[G]? = some (.cells #[e.v, .bool true, s.v, .bool false] 138 (0, 0))) (he : Rows CmdAt 4 w B e m.env) (hs : Rows CmdAt 4 w B s m.sys) (k : Nat) (hk : k < 2) :
    ∃ (A : Option Addr) (n c : Nat) (fl : Bool) (l : List CT), w.cell? ⟨G, k * 2, none⟩ = some (.slice A n c) ∧ w.cell? ⟨G, k * 2 + 1, none⟩ = some (.bool fl) ∧ Rows CmdAt 4 w B ⟨A, n, c⟩ l ∧ [cmdsE m.vars true m.env, cmdsE m.vars false m.sys].drop k = cmdsE m.vars fl l :: [cmdsE m.vars true m.env, cmdsE m.vars false m.sys].drop (k + 1) := by
  have c : ∀ i v, (#[e.v, .bool true, s.v, .bool false] : Array Value)[i]? = some v → w.cell? ⟨G, i, none⟩ = some v := fun i v hv => by
    rw [cell_of_row _ _ i _ _ (0, 0) h]; exact hv
  have hk' : k = 0 ∨ k = 1 := by omega
  rcases hk' with rfl | rfl
  · exact ⟨e.A, e.n, e.c, true, m.env, c 0 _ rfl, c 1 _ rfl, he, rfl⟩
  · exact ⟨s.A, s.n, s.c, false, m.sys, c 2 _ rfl, c 3 _ rfl, hs, rfl⟩
theorem goals_tab (G B : Nat) (w : World) (a n p : SL) (m : MT) (h : w.heap[G]? = some (.cells #[a.v, n.v, p.v] 23 (0, 0))) (ha : Rows ExAt 3 w B a m.asm) (hn : Rows ExAt 3 w B n m.ens) (hp : Rows ExAt 3 w B p m.prio) (k : Nat) (hk : k < 3) :
    ∃ (A : Option Addr) (n c : Nat) (l : List T), w.cell? ⟨G, k, none⟩ = some (.slice A n c) ∧ Rows ExAt 3 w B ⟨A, n, c⟩ l ∧ [goalsE m.vars m.asm, goalsE m.vars m.ens, goalsE m.vars m.prio].drop k = goalsE m.vars l :: [goalsE m.vars m.asm, goalsE m.vars m.ens, goalsE m.vars m.prio].drop (k + 1) := by
  have c : ∀ i v, (#[a.v, n.v, p.v] : Array Value)[i]? = some v → w.cell? ⟨G, i, none⟩ = some v := fun i v hv => by
    rw [cell_of_row _ _ i _ _ (0, 0) h]; exact hv
  have hk' : k = 0 ∨ k = 1 ∨ k = 2 := by omega
  rcases hk' with rfl | rfl | rfl
  · exact ⟨a.A, a.n, a.c, m.asm, c 0 _ rfl, ha, rfl⟩
  · exact ⟨n.A, n.n, n.c, m.ens, c 1 _ rfl, hn, rfl⟩
  · exact ⟨p.A, p.n, p.c, m.prio, c 2 _ rfl, hp, rfl⟩

set_option maxRecDepth 100000 in
set_option maxHeartbeats 4000000 in
theorem dcmds_any (B : Nat) (x : M8) (m : MT) (w : World) (hB : B ≤ w.heap.size) (hrm : RM w B x m) :
    Calls Tryz.prog 77 #[.agg x.cells] w fun e w' => e = .returned (.int .i64 (firstE [cmdsE m.vars true m.env, cmdsE m.vars false m.sys])) ∧ Below w.heap.size w w' := by
  have hbx := (Below.refl w.heap.size w).alloc (Nat.le_refl _) (.cells x.cells 28)
  have Hbx0 := hide (boxM_new w x)
  have Hb0 := hide hbx
  have hz0 : (w.alloc (.cells x.cells 28)).heap.size = w.heap.size + 1 := by simp
  have Hrm0 := hide (hrm.below (hbx.mono hB))
  have Ho := hide hrm.1
  obtain ⟨⟨vA, vn, vc⟩, ⟨io, im, iA, il, ic⟩, ⟨jo, jm, jA, jl, jc⟩, ⟨eA, en, ec⟩, ⟨sA, sn, sc⟩, ⟨aA, an, ac⟩, ⟨nA, nn, nc⟩, ⟨pA, pn, pc⟩⟩ := x
  clear hrm hbx
  simp only [M8.cells, SL.v] at *
  have Hbx1 := Hbx0
  obtain ⟨_, _, _, _, _, _, _, r1, r2, r3, r4, r5⟩ := Hbx1.out.all
  clear Hbx1
  simp only at r1 r2 r3 r4 r5
  have hbT := (Below.refl (w.alloc (.cells #[.slice vA vn vc, .int .i64 io, .int .i64 im, .slice iA il ic, .int .i64 jo, .int .i64 jm, .slice jA jl jc, .slice eA en ec, .slice sA sn sc, .slice aA an ac, .slice nA nn nc, .slice pA pn pc] 28)).heap.size (w.alloc (.cells #[.slice vA vn vc, .int .i64 io, .int .i64 im, .slice iA il ic, .int .i64 jo, .int .i64 jm, .slice jA jl jc, .slice eA en ec, .slice sA sn sc, .slice aA an ac, .slice nA nn nc, .slice pA pn pc] 28))).alloc (Nat.le_refl _) (.cells #[.slice eA en ec, .bool true, .slice sA sn sc, .bool false] 138)
  have Hb1 := hide (Hb0.out.trans (hbT.mono (by omega)))
  have Hrm1 := hide (Hrm0.out.below (hbT.mono (by omega)))
  have Hbx2 := hide (Hbx0.out.below hbT (by omega))
  have Htab : Hid (((w.alloc (.cells #[.slice vA vn vc, .int .i64 io, .int .i64 im, .slice iA il ic, .int .i64 jo, .int .i64 jm, .slice jA jl jc, .slice eA en ec, .slice sA sn sc, .slice aA an ac, .slice nA nn nc, .slice pA pn pc] 28)).alloc (.cells #[.slice eA en ec, .bool true, .slice sA sn sc, .bool false] 138)).heap[w.heap.size + 1]? = some (.cells #[.slice eA en ec, .bool true, .slice sA sn sc, .bool false] 138 (0, 0))) := hide (by
    have h := heap_alloc_new (w.alloc (.cells #[.slice vA vn vc, .int .i64 io, .int .i64 im, .slice iA il ic, .int .i64 jo, .int .i64 jm, .slice jA jl jc, .slice eA en ec, .slice sA sn sc, .slice aA an ac, .slice nA nn nc, .slice pA pn pc] 28)) (.cells #[.slice eA en ec, .bool true, .slice sA sn sc, .bool false] 138)
    rw [hz0] at h
    exact h)
  have hz1 : w.heap.size + 2 ≤ ((w.alloc (.cells #[.slice vA vn vc, .int .i64 io, .int .i64 im, .slice iA il ic, .int .i64 jo, .int .i64 jm, .slice jA jl jc, .slice eA en ec, .slice sA sn sc, .slice aA an ac, .slice nA nn nc, .slice pA pn pc] 28)).alloc (.cells #[.slice eA en ec, .bool true, .slice sA sn sc, .bool false] 138)).heap.size := by simp
  clear hbT Hb0 Hbx0 Hrm0
  go_enter Tryz.func77, Tryz.ntmps77
  go_wp2_with fail
  clear r1 r2 r3 r4 r5 hz0
  generalize (w.alloc (.cells #[.slice vA vn vc, .int .i64 io, .int .i64 im, .slice iA il ic, .int .i64 jo, .int .i64 jm, .slice jA jl jc, .slice eA en ec, .slice sA sn sc, .slice aA an ac, .slice nA nn nc, .slice pA pn pc] 28)).alloc (.cells #[.slice eA en ec, .bool true, .slice sA sn sc, .bool false] 138) = V at *
  go_loopw [16] (fun i wr => ∃ k : Nat, k ≤ 2 ∧ i = .int .i64 k ∧ Hid (firstE [cmdsE m.vars true m.env, cmdsE m.vars false m.sys] = firstE ([cmdsE m.vars true m.env, cmdsE m.vars false m.sys].drop k)) ∧ Below V.heap.size V wr) (fun i _ => 2 - (intOf i).toNat)
  case atStart => exact ⟨0, by omega, rfl, hide rfl, Below.refl _ _⟩
  case round =>
    obtain ⟨k, hk, rfl, HT, hbw⟩ := hrel
    have hzr := hbw.size
    by_cases hlt : k < 2
    · have hlt' : ((k : Int) < 2) := by omega
      obtain ⟨A, n, c, fl, l, c0, c1, hrow, hdr⟩ := cmds_tab (w.heap.size + 1) B wr ⟨eA, en, ec⟩ ⟨sA, sn, sc⟩ m ((hbw.block _ (by omega)).trans Htab.out) (Hrm1.out.below (hbw.mono (by omega))).2.2.2.2.1 (Hrm1.out.below (hbw.mono (by omega))).2.2.2.2.2.1 k hlt
      have HT2 : Hid (firstE [cmdsE m.vars true m.env, cmdsE m.vars false m.sys] = firstE (cmdsE m.vars fl l :: [cmdsE m.vars true m.env, cmdsE m.vars false m.sys].drop (k + 1))) := hide (by rw [← hdr]; exact HT.out)
      have hnl := hrow.1
      have hnc := hrow.2.1
      have hcm := hrow.2.2.1
      simp only at hnl hnc hcm
      unfold maxLen at hcm
      have Hnl := hide hnl
      have hbA := (Below.refl wr.heap.size wr).alloc (Nat.le_refl _) (.cells #[.slice A n c, .bool fl] 138)
      have HbA := hide (hbw.trans (hbA.mono hzr))
      have Hrow := hide (hrow.keep (w' := wr.alloc (.cells #[.slice A n c, .bool fl] 138)) (fun b o y h1 hy => CmdAt.keep h1 hy (fun p hp => (hbA.mono (by omega)).cell hp)))
      have Hfl : Hid ((wr.alloc (.cells #[.slice A n c, .bool fl] 138)).cell? ⟨wr.heap.size, 1, none⟩ = some (.bool fl)) := hide (by simp [go_sem])
      have hzA : wr.heap.size + 1 ≤ (wr.alloc (.cells #[.slice A n c, .bool fl] 138)).heap.size := by simp
      clear hrow hdr HT hbA hbw hnl
      go_wp2_with fail
      clear c0 c1
      generalize wr.alloc (.cells #[.slice A n c, .bool fl] 138) = U at *
      generalize hg : wr.heap.size = g at *
      clear hg
      go_loopw [23] (fun i wr => ∃ j : Nat, j ≤ n ∧ i = .int .i64 j ∧ Hid (cmdsE m.vars fl (l.drop j) = cmdsE m.vars fl l) ∧ Below U.heap.size U wr) (fun i _ => n - (intOf i).toNat)
      case atStart => exact ⟨0, by omega, rfl, hide rfl, Below.refl _ _⟩
      case round =>
        obtain ⟨j, hj, rfl, HS, hbu⟩ := hrel
        have hzu := hbu.size
        have hbm := HbA.out.trans (hbu.mono (by have := HbA.out.size; omega))
        by_cases hjl : j < n
        · have hjl' : ((j : Int) < (n : Int)) := by omega
          obtain ⟨b, off, c, eA2, hbB, hku, ⟨⟨⟨go, gn, gA, gl, gc⟩, ⟨c0, c1, c2⟩, hex⟩, ⟨tA, tn, tc⟩, c3, hrs⟩⟩ := ((Hrow.out).keep (w' := wr) (fun b o y h1 hy => CmdAt.keep h1 hy (fun p hp => (hbu.mono (by omega)).cell hp))).at_ (k := j) hjl
          simp only [SL.v] at eA2 c0 c1 c2 c3
          subst eA2
          have HS2 : Hid ((if cmdE m.vars c fl = 0 then cmdsE m.vars fl (l.drop (j + 1)) else cmdE m.vars c fl) = cmdsE m.vars fl l) := hide (by rw [← HS.out, drop_at hku, cmdsE])
          clear hku HS
          have hbC := (Below.refl wr.heap.size wr).alloc (Nat.le_refl _) (.cells #[.int .i64 go, .int .i64 gn, .slice gA gl gc, .slice tA tn tc] 71)
          have Hrc : Hid (RC (wr.alloc (.cells #[.int .i64 go, .int .i64 gn, .slice gA gl gc, .slice tA tn tc] 71)) B ⟨⟨go, gn, gA, gl, gc⟩, ⟨tA, tn, tc⟩⟩ c) := hide (RC.below (w := wr) ⟨hex, hrs⟩ (hbC.mono (by omega)))
          have Hrv2 := hide ((Hrm1.out.2.1.below (hbm.mono (by omega))).below (hbC.mono (by omega)))
          have HbC := hide (hbu.trans (hbC.mono hzu))
          have hzC : wr.heap.size + 1 ≤ (wr.alloc (.cells #[.int .i64 go, .int .i64 gn, .slice gA gl gc, .slice tA tn tc] 71)).heap.size := by simp
          obtain ⟨⟨f0, f1, f2⟩, f3⟩ := box4 wr go gn gA gl gc tA tn tc
          have q0 := (hbC.cell (p := ⟨w.heap.size, 0, none⟩) (by show w.heap.size < wr.heap.size; omega)).trans ((hbm.cell (p := ⟨w.heap.size, 0, none⟩) (by show w.heap.size < V.heap.size; omega)).trans Hbx2.out.all.1)
          have q1 := (hbC.cell (p := ⟨g, 1, none⟩) (by show g < wr.heap.size; omega)).trans ((hbu.cell (p := ⟨g, 1, none⟩) (by show g < U.heap.size; omega)).trans Hfl.out)
          simp only at q0
          clear hex hrs hbC hbu hbm
          go_wp2_with fail
          clear c0 c1 c2 c3 f0 f1 f2 f3 q0 q1
          generalize wr.alloc (.cells #[.int .i64 go, .int .i64 gn, .slice gA gl gc, .slice tA tn tc] 71) = W1 at *
          refine (dcmd_any B vA vn vc m.vars ⟨⟨go, gn, gA, gl, gc⟩, ⟨tA, tn, tc⟩⟩ c fl W1 Ho.out (by omega) Hrc.out Hrv2.out).mono ?_
          rintro e wc ⟨rfl, hbc⟩
          have Hbc := hide (HbC.out.trans (hbc.mono (by omega)))
          clear hbc HbC Hrc Hrv2
          by_cases hx : cmdE m.vars c fl = 0
          · have hxb : (cmdE m.vars c fl != 0) = false := by simp [hx]
            have HS3 : Hid (cmdsE m.vars fl (l.drop (j + 1)) = cmdsE m.vars fl l) := hide (by have h := HS2.out; rw [if_pos hx] at h; exact h)
            clear hx HS2
            go_wp2_with fail
            go_roundw
            case rel => exact ⟨j + 1, by omega, by go_num, HS3, Hbc.out⟩
            case measure => simp [intOf]; omega
          · have hxb : (cmdE m.vars c fl != 0) = true := by simp [hx]
            have Hf : Hid (firstE [cmdsE m.vars true m.env, cmdsE m.vars false m.sys] = cmdE m.vars c fl) := hide (by
              have h := HS2.out
              rw [if_neg hx] at h
              rw [first_not HT2.out (by rw [← h]; exact hx), ← h])
            have Hbf := hide (Hb1.out.trans ((HbA.out.trans (Hbc.out.mono (by have := HbA.out.size; omega))).mono (by have := Hb1.out.size; omega)))
            clear hx HS2
            go_wp2_with fail
            go_ret
            exact ⟨ret_int Hf.out.symm, Hbf.out⟩
        · have hjl' : ¬ ((j : Int) < (n : Int)) := by omega
          have hz0' : cmdsE m.vars fl l = 0 := by rw [← HS.out, List.drop_of_length_le (by rw [Hnl.out]; omega), cmdsE]
          have HN := hide (first_zero HT2.out hz0')
          clear hz0' HS hbu
          have Hbm := hide hbm
          clear hbm
          go_wp2_with fail
          go_roundw
          case rel => exact ⟨k + 1, by omega, by go_num, HN, Hbm.out⟩
          case measure => simp [intOf]; omega
    · have hlt' : ¬ ((k : Int) < 2) := by omega
      have Hf : Hid (firstE [cmdsE m.vars true m.env, cmdsE m.vars false m.sys] = 0) := hide (by
        rw [HT.out, List.drop_of_length_le (by simp; omega), firstE])
      have Hbf := hide (Hb1.out.trans (hbw.mono (by have := Hb1.out.size; omega)))
      go_wp2_with fail
      go_ret
      exact ⟨ret_int Hf.out.symm, Hbf.out⟩

set_option maxRecDepth 100000 in
set_option maxHeartbeats 4000000 in
theorem dgoals_any (B : Nat) (x : M8) (m : MT) (w : World) (hB : B ≤ w.heap.size) (hrm : RM w B x m) :
    Calls Tryz.prog 79 #[.agg x.cells] w fun e w' => e = .returned (.int .i64 (firstE [goalsE m.vars m.asm, goalsE m.vars m.ens, goalsE m.vars m.prio])) ∧ Below w.heap.size w w' := by
  have hbx := (Below.refl w.heap.size w).alloc (Nat.le_refl _) (.cells x.cells 28)
  have Hbx0 := hide (boxM_new w x)
  have Hb0 := hide hbx
  have hz0 : (w.alloc (.cells x.cells 28)).heap.size = w.heap.size + 1 := by simp
  have Hrm0 := hide (hrm.below (hbx.mono hB))
  have Ho := hide hrm.1
  obtain ⟨⟨vA, vn, vc⟩, ⟨io, im, iA, il, ic⟩, ⟨jo, jm, jA, jl, jc⟩, ⟨eA, en, ec⟩, ⟨sA, sn, sc⟩, ⟨aA, an, ac⟩, ⟨nA, nn, nc⟩, ⟨pA, pn, pc⟩⟩ := x
  clear hrm hbx
  simp only [M8.cells, SL.v] at *
  have Hbx1 := Hbx0
  obtain ⟨_, _, _, _, _, _, _, r1, r2, r3, r4, r5⟩ := Hbx1.out.all
  clear Hbx1
  simp only at r1 r2 r3 r4 r5
  have hbT := (Below.refl (w.alloc (.cells #[.slice vA vn vc, .int .i64 io, .int .i64 im, .slice iA il ic, .int .i64 jo, .int .i64 jm, .slice jA jl jc, .slice eA en ec, .slice sA sn sc, .slice aA an ac, .slice nA nn nc, .slice pA pn pc] 28)).heap.size (w.alloc (.cells #[.slice vA vn vc, .int .i64 io, .int .i64 im, .slice iA il ic, .int .i64 jo, .int .i64 jm, .slice jA jl jc, .slice eA en ec, .slice sA sn sc, .slice aA an ac, .slice nA nn nc, .slice pA pn pc] 28))).alloc (Nat.le_refl _) (.cells #[.slice aA an ac, .slice nA nn nc, .slice pA pn pc] 23)
  have Hb1 := hide (Hb0.out.trans (hbT.mono (by omega)))
  have Hrm1 := hide (Hrm0.out.below (hbT.mono (by omega)))
  have Hbx2 := hide (Hbx0.out.below hbT (by omega))
  have Htab : Hid (((w.alloc (.cells #[.slice vA vn vc, .int .i64 io, .int .i64 im, .slice iA il ic, .int .i64 jo, .int .i64 jm, .slice jA jl jc, .slice eA en ec, .slice sA sn sc, .slice aA an ac, .slice nA nn nc, .slice pA pn pc] 28)).alloc (.cells #[.slice aA an ac, .slice nA nn nc, .slice pA pn pc] 23)).heap[w.heap.size + 1]? = some (.cells #[.slice aA an ac, .slice nA nn nc, .slice pA pn pc] 23 (0, 0))) := hide (by
    have h := heap_alloc_new (w.alloc (.cells #[.slice vA vn vc, .int .i64 io, .int .i64 im, .slice iA il ic, .int .i64 jo, .int .i64 jm, .slice jA jl jc, .slice eA en ec, .slice sA sn sc, .slice aA an ac, .slice nA nn nc, .slice pA pn pc] 28)) (.cells #[.slice aA an ac, .slice nA nn nc, .slice pA pn pc] 23)
    rw [hz0] at h
    exact h)
  have hz1 : w.heap.size + 2 ≤ ((w.alloc (.cells #[.slice vA vn vc, .int .i64 io, .int .i64 im, .slice iA il ic, .int .i64 jo, .int .i64 jm, .slice jA jl jc, .slice eA en ec, .slice sA sn sc, .slice aA an ac, .slice nA nn nc, .slice pA pn pc] 28)).alloc (.cells #[.slice aA an ac, .slice nA nn nc, .slice pA pn pc] 23)).heap.size := by simp
  clear hbT Hb0 Hbx0 Hrm0
  go_enter Tryz.func79, Tryz.ntmps79
  go_wp2_with fail
  clear r1 r2 r3 r4 r5 hz0
  generalize (w.alloc (.cells #[.slice vA vn vc, .int .i64 io, .int .i64 im, .slice iA il ic, .int .i64 jo, .int .i64 jm, .slice jA jl jc, .slice eA en ec, .slice sA sn sc, .slice aA an ac, .slice nA nn nc, .slice pA pn pc] 28)).alloc (.cells #[.slice aA an ac, .slice nA nn nc, .slice pA pn pc] 23) = V at *
  go_loopw [16] (fun i wr => ∃ k : Nat, k ≤ 3 ∧ i = .int .i64 k ∧ Hid (firstE [goalsE m.vars m.asm, goalsE m.vars m.ens, goalsE m.vars m.prio] = firstE ([goalsE m.vars m.asm, goalsE m.vars m.ens, goalsE m.vars m.prio].drop k)) ∧ Below V.heap.size V wr) (fun i _ => 3 - (intOf i).toNat)
  case atStart => exact ⟨0, by omega, rfl, hide rfl, Below.refl _ _⟩
  case round =>
    obtain ⟨k, hk, rfl, HT, hbw⟩ := hrel
    have hzr := hbw.size
    by_cases hlt : k < 3
    · have hlt' : ((k : Int) < 3) := by omega
      obtain ⟨A, n, c, l, c0, hrow, hdr⟩ := goals_tab (w.heap.size + 1) B wr ⟨aA, an, ac⟩ ⟨nA, nn, nc⟩ ⟨pA, pn, pc⟩ m ((hbw.block _ (by omega)).trans Htab.out) (Hrm1.out.below (hbw.mono (by omega))).2.2.2.2.2.2.1 (Hrm1.out.below (hbw.mono (by omega))).2.2.2.2.2.2.2.1 (Hrm1.out.below (hbw.mono (by omega))).2.2.2.2.2.2.2.2 k hlt
      have HT2 : Hid (firstE [goalsE m.vars m.asm, goalsE m.vars m.ens, goalsE m.vars m.prio] = firstE (goalsE m.vars l :: [goalsE m.vars m.asm, goalsE m.vars m.ens, goalsE m.vars m.prio].drop (k + 1))) := hide (by rw [← hdr]; exact HT.out)
      have hnl := hrow.1
      have hnc := hrow.2.1
      have hcm := hrow.2.2.1
      simp only at hnl hnc hcm
      unfold maxLen at hcm
      have Hnl := hide hnl
      have Hrow := hide hrow
      have Hbw := hide hbw
      clear hrow hdr HT hbw hnl
      obtain ⟨U, rfl⟩ : ∃ U, U = wr := ⟨_, rfl⟩
      go_wp2_with fail
      clear c0
      go_loopw [22] (fun i wr => ∃ j : Nat, j ≤ n ∧ i = .int .i64 j ∧ Hid (goalsE m.vars (l.drop j) = goalsE m.vars l) ∧ Below U.heap.size U wr) (fun i _ => n - (intOf i).toNat)
      case atStart => exact ⟨0, by omega, rfl, hide rfl, Below.refl _ _⟩
      case round =>
        obtain ⟨j, hj, rfl, HS, hbu⟩ := hrel
        have hzu := hbu.size
        have hbm := Hbw.out.trans (hbu.mono (by have := Hbw.out.size; omega))
        by_cases hjl : j < n
        · have hjl' : ((j : Int) < (n : Int)) := by omega
          obtain ⟨b, off, te, eA2, hbB, hku, ⟨⟨go, gn, gA, gl, gc⟩, ⟨c0, c1, c2⟩, ⟨dg, hex⟩⟩⟩ := ((Hrow.out).keep (w' := wr) (fun b o y h1 hy => ExAt.keep h1 hy (fun p hp => (hbu.mono (by omega)).cell hp))).at_ (k := j) hjl
          simp only at eA2 c0 c1 c2 hex
          subst eA2
          have HS2 : Hid ((if needE m.vars te 1 true false false = 0 then goalsE m.vars (l.drop (j + 1)) else needE m.vars te 1 true false false) = goalsE m.vars l) := hide (by rw [← HS.out, drop_at hku, goalsE])
          clear hku HS
          have hbC := (Below.refl wr.heap.size wr).alloc (Nat.le_refl _) (.cells #[.int .i64 go, .int .i64 gn, .slice gA gl gc] 25)
          have Hex := hide (hex.below (hbC.mono (by omega)))
          have Hrv2 := hide ((Hrm1.out.2.1.below (hbm.mono (by omega))).below (hbC.mono (by omega)))
          have HbC := hide (hbu.trans (hbC.mono hzu))
          have hzC : wr.heap.size + 1 ≤ (wr.alloc (.cells #[.int .i64 go, .int .i64 gn, .slice gA gl gc] 25)).heap.size := by simp
          obtain ⟨f0, f1, f2⟩ := box_new wr go gn gA gl gc 25
          have q0 := (hbC.cell (p := ⟨w.heap.size, 0, none⟩) (by show w.heap.size < wr.heap.size; omega)).trans ((hbm.cell (p := ⟨w.heap.size, 0, none⟩) (by show w.heap.size < V.heap.size; omega)).trans Hbx2.out.all.1)
          simp only at q0
          clear hex hbC hbu hbm
          go_wp2_with fail
          clear c0 c1 c2 f0 f1 f2 q0
          generalize wr.alloc (.cells #[.int .i64 go, .int .i64 gn, .slice gA gl gc] 25) = W1 at *
          refine (dhold_any B vA vn vc m.vars dg go gn gA gl gc te W1 Ho.out (by omega) Hex.out Hrv2.out).mono ?_
          rintro e wc ⟨rfl, hbc⟩
          have Hbc := hide (HbC.out.trans (hbc.mono (by omega)))
          clear hbc HbC Hex Hrv2
          by_cases hx : needE m.vars te 1 true false false = 0
          · have hxb : (needE m.vars te 1 true false false != 0) = false := by simp [hx]
            have HS3 : Hid (goalsE m.vars (l.drop (j + 1)) = goalsE m.vars l) := hide (by have h := HS2.out; rw [if_pos hx] at h; exact h)
            clear hx HS2
            go_wp2_with fail
            go_roundw
            case rel => exact ⟨j + 1, by omega, by go_num, HS3, Hbc.out⟩
            case measure => simp [intOf]; omega
          · have hxb : (needE m.vars te 1 true false false != 0) = true := by simp [hx]
            have Hf : Hid (firstE [goalsE m.vars m.asm, goalsE m.vars m.ens, goalsE m.vars m.prio] = needE m.vars te 1 true false false) := hide (by
              have h := HS2.out
              rw [if_neg hx] at h
              rw [first_not HT2.out (by rw [← h]; exact hx), ← h])
            have Hbf := hide (Hb1.out.trans ((Hbw.out.trans (Hbc.out.mono (by have := Hbw.out.size; omega))).mono (by have := Hb1.out.size; omega)))
            clear hx HS2
            go_wp2_with fail
            go_ret
            exact ⟨ret_int Hf.out.symm, Hbf.out⟩
        · have hjl' : ¬ ((j : Int) < (n : Int)) := by omega
          have hz0' : goalsE m.vars l = 0 := by rw [← HS.out, List.drop_of_length_le (by rw [Hnl.out]; omega), goalsE]
          have HN := hide (first_zero HT2.out hz0')
          clear hz0' HS hbu
          have Hbm := hide hbm
          clear hbm
          go_wp2_with fail
          go_roundw
          case rel => exact ⟨k + 1, by omega, by go_num, HN, Hbm.out⟩
          case measure => simp [intOf]; omega
    · have hlt' : ¬ ((k : Int) < 3) := by omega
      have Hf : Hid (firstE [goalsE m.vars m.asm, goalsE m.vars m.ens, goalsE m.vars m.prio] = 0) := hide (by
        rw [HT.out, List.drop_of_length_le (by simp; omega), firstE])
      have Hbf := hide (Hb1.out.trans (hbw.mono (by have := Hb1.out.size; omega)))
      go_wp2_with fail
      go_ret
      exact ⟨ret_int Hf.out.symm, Hbf.out⟩
end Go.Proofs.YtbppdalfcldodaaGreat
namespace Go.Proofs.YtbppdalfcldodaaGreat
open Go.RowKit Ex
open Go.Sort (grow)
set_option linter.unusedSimpArgs false
set_option linter.unusedVariables false

set_option maxHeartbeats 1000000 in
theorem goals3_any (x : M8) (w : World) (h1 : x.asm.n ≤ 2 ^ 63 - 1) (h2 : x.ens.n ≤ 2 ^ 63 - 1) (h3 : x.prio.n ≤ 2 ^ 63 - 1) :
    Calls Tryz.prog 78 #[.agg x.cells] w fun e w' => e = .returned (.tuple #[.int .i64 (x.asm.n : Int), .int .i64 (x.ens.n : Int), .int .i64 (x.prio.n : Int)]) ∧ Below w.heap.size w w' := by
  have Hb0 := hide ((Below.refl w.heap.size w).alloc (Nat.le_refl _) (.cells x.cells 28))
  obtain ⟨_, _, _, _, _, _, _, _, _, r3, r4, r5⟩ := (boxM_new w x).all
  obtain ⟨⟨vA, vn, vc⟩, ⟨io, im, iA, il, ic⟩, ⟨jo, jm, jA, jl, jc⟩, ⟨eA, en, ec⟩, ⟨sA, sn, sc⟩, ⟨aA, an, ac⟩, ⟨nA, nn, nc⟩, ⟨pA, pn, pc⟩⟩ := x
  simp only [M8.cells, SL.v] at *
  go_enter Tryz.func78, Tryz.ntmps78
  go_wp2_with fail
  generalize w.alloc (.cells #[.slice vA vn vc, .int .i64 io, .int .i64 im, .slice iA il ic, .int .i64 jo, .int .i64 jm, .slice jA jl jc, .slice eA en ec, .slice sA sn sc, .slice aA an ac, .slice nA nn nc, .slice pA pn pc] 28) = V at *
  go_quiet (fail)
  go_wp2_with fail
  go_ret3
  exact ⟨rfl, below_drewN Hb0.out _⟩
theorem first_app : ∀ (a b : List Int), firstE (a ++ b) = if firstE a = 0 then firstE b else firstE a
  | [], b => by simp [firstE]
  | x :: r, b => by
    rw [List.cons_append, firstE, firstE]
    by_cases h : x = 0
    · rw [if_pos h, if_pos h, first_app r b]
    · rw [if_neg h, if_neg h, if_neg h]

set_option maxRecDepth 100000 in
set_option maxHeartbeats 4000000 in
theorem dmod_any (B : Nat) (x : M8) (m : MT) (w : World) (hB : B ≤ w.heap.size) (hrm : RM w B x m) :
    Calls Tryz.prog 38 #[.agg x.cells] w fun e w' => e = .returned (.int .i64 (modE m)) ∧ Below w.heap.size w w' := by
  have hbx := (Below.refl w.heap.size w).alloc (Nat.le_refl _) (.cells x.cells 28)
  have Hrm0 := hide (hrm.below (hbx.mono hB))
  have Hbx0 := hide (boxM_new w x)
  have Hb0 := hide hbx
  have hz0 : w.heap.size + 1 ≤ (w.alloc (.cells x.cells 28)).heap.size := by simp
  have Ho := hide hrm.1
  obtain ⟨⟨vA, vn, vc⟩, ⟨io, im, iA, il, ic⟩, ⟨jo, jm, jA, jl, jc⟩, ⟨eA, en, ec⟩, ⟨sA, sn, sc⟩, ⟨aA, an, ac⟩, ⟨nA, nn, nc⟩, ⟨pA, pn, pc⟩⟩ := x
  have xA : an ≤ 2 ^ 63 - 1 := Nat.le_trans hrm.2.2.2.2.2.2.1.2.1 hrm.2.2.2.2.2.2.1.2.2.1
  have xN : nn ≤ 2 ^ 63 - 1 := Nat.le_trans hrm.2.2.2.2.2.2.2.1.2.1 hrm.2.2.2.2.2.2.2.1.2.2.1
  have xP : pn ≤ 2 ^ 63 - 1 := Nat.le_trans hrm.2.2.2.2.2.2.2.2.2.1 hrm.2.2.2.2.2.2.2.2.2.2.1
  have LA := hide hrm.2.2.2.2.2.2.1.1
  have LN := hide hrm.2.2.2.2.2.2.2.1.1
  have LP := hide hrm.2.2.2.2.2.2.2.2.1
  have HM : Hid (modE m = firstE ([Dom.mayL m.vars] ++ ([needE m.vars m.ie 1 false false false, needE m.vars m.is 1 true false false] ++ ([sizesE m] ++ ([cmdsE m.vars true m.env, cmdsE m.vars false m.sys] ++ ([bothE m] ++ [goalsE m.vars m.asm, goalsE m.vars m.ens, goalsE m.vars m.prio])))))) := hide rfl
  clear hrm hbx
  simp only [M8.cells, SL.v] at *
  obtain ⟨q0, _⟩ := Hbx0.out.all
  simp only at q0
  go_enter Tryz.func38, Tryz.ntmps38
  go_wp2_with fail
  clear q0
  generalize hW : w.alloc (.cells #[.slice vA vn vc, .int .i64 io, .int .i64 im, .slice iA il ic, .int .i64 jo, .int .i64 jm, .slice jA jl jc, .slice eA en ec, .slice sA sn sc, .slice aA an ac, .slice nA nn nc, .slice pA pn pc] 28) = w0 at *
  clear hW
  refine (Dom.may_any vA vn vc B m.vars w0 Ho.out.1 (by omega) Hrm0.out.2.1 Ho.out.2.2.2).mono ?_
  rintro e w1 ⟨rfl, hb1⟩
  have hz1 := hb1.size
  have Hb1 := hide (Hb0.out.trans (hb1.mono (by omega)))
  have Hrm1 := hide (Hrm0.out.below (hb1.mono (by omega)))
  have Hbx1 := hide (Hbx0.out.below hb1 (by omega))
  clear hb1 Hb0 Hrm0 Hbx0
  rw [first_app] at HM
  have e1 : firstE [Dom.mayL m.vars] = Dom.mayL m.vars := by
    rw [firstE, firstE]; split
    · rename_i h; exact h.symm
    · rfl
  rw [e1] at HM
  clear e1
  generalize Dom.mayL m.vars = r1 at *
  by_cases h1 : r1 = 0
  · have h1b : (r1 != 0) = false := by simp [h1]
    rw [if_pos h1, first_app] at HM
    clear h1
    obtain ⟨q0, q1, q2, q3, q4, q5, q6, q7, q8, q9, q10, q11⟩ := Hbx1.out.all
    simp only at q0 q1 q2 q3 q4 q5 q6 q7 q8 q9 q10 q11
    go_wp2_with fail
    clear q0 q1 q2 q3 q4 q5 q6 q7 q8 q9 q10 q11
    refine (dinit_any B ⟨⟨vA, vn, vc⟩, ⟨io, im, iA, il, ic⟩, ⟨jo, jm, jA, jl, jc⟩, ⟨eA, en, ec⟩, ⟨sA, sn, sc⟩, ⟨aA, an, ac⟩, ⟨nA, nn, nc⟩, ⟨pA, pn, pc⟩⟩ m w1 (by omega) Hrm1.out).mono ?_
    rintro e w2 ⟨rfl, hb2⟩
    have hz2 := hb2.size
    have Hb2 := hide (Hb1.out.trans (hb2.mono (by omega)))
    have Hrm2 := hide (Hrm1.out.below (hb2.mono (by omega)))
    have Hbx2 := hide (Hbx1.out.below hb2 (by omega))
    clear hb2 Hb1 Hrm1 Hbx1
    generalize firstE [needE m.vars m.ie 1 false false false, needE m.vars m.is 1 true false false] = r2 at *
    by_cases h2 : r2 = 0
    · have h2b : (r2 != 0) = false := by simp [h2]
      rw [if_pos h2, first_app] at HM
      clear h2
      obtain ⟨q0, q1, q2, q3, q4, q5, q6, q7, q8, q9, q10, q11⟩ := Hbx2.out.all
      simp only at q0 q1 q2 q3 q4 q5 q6 q7 q8 q9 q10 q11
      go_wp2_with fail
      clear q0 q1 q2 q3 q4 q5 q6 q7 q8 q9 q10 q11
      refine (droom_any B ⟨⟨vA, vn, vc⟩, ⟨io, im, iA, il, ic⟩, ⟨jo, jm, jA, jl, jc⟩, ⟨eA, en, ec⟩, ⟨sA, sn, sc⟩, ⟨aA, an, ac⟩, ⟨nA, nn, nc⟩, ⟨pA, pn, pc⟩⟩ m w2 (by omega) Hrm2.out).mono ?_
      rintro e w3 ⟨rfl, hb3⟩
      have hz3 := hb3.size
      have Hb3 := hide (Hb2.out.trans (hb3.mono (by omega)))
      have Hrm3 := hide (Hrm2.out.below (hb3.mono (by omega)))
      have Hbx3 := hide (Hbx2.out.below hb3 (by omega))
      clear hb3 Hb2 Hrm2 Hbx2
      by_cases h3 : sizesE m = 0
      · have h3b : decide (sizesE m = 0) = true := by simp [h3]
        rw [if_pos (by rw [firstE, firstE, if_pos h3]), first_app] at HM
        rw [h3b]
        have y1 : an ≤ 4 ∧ nn ≤ 4 := by
          have a : m.asm.length = an := LA.out
          have b : m.ens.length = nn := LN.out
          unfold sizesE at h3
          rw [a, b] at h3
          by_cases h : 12 < m.env.length ∨ 12 < m.sys.length ∨ 4 < an ∨ 4 < nn ∨ 6 < m.prio.length
          · rw [if_pos h] at h3; omega
          · omega
        obtain ⟨y1, y2⟩ := y1
        clear h3 h3b
        obtain ⟨q0, q1, q2, q3, q4, q5, q6, q7, q8, q9, q10, q11⟩ := Hbx3.out.all
        simp only at q0 q1 q2 q3 q4 q5 q6 q7 q8 q9 q10 q11
        go_wp2_with fail
        clear q0 q1 q2 q3 q4 q5 q6 q7 q8 q9 q10 q11
        refine (dcmds_any B ⟨⟨vA, vn, vc⟩, ⟨io, im, iA, il, ic⟩, ⟨jo, jm, jA, jl, jc⟩, ⟨eA, en, ec⟩, ⟨sA, sn, sc⟩, ⟨aA, an, ac⟩, ⟨nA, nn, nc⟩, ⟨pA, pn, pc⟩⟩ m w3 (by omega) Hrm3.out).mono ?_
        rintro e w4 ⟨rfl, hb4⟩
        have hz4 := hb4.size
        have Hb4 := hide (Hb3.out.trans (hb4.mono (by omega)))
        have Hrm4 := hide (Hrm3.out.below (hb4.mono (by omega)))
        have Hbx4 := hide (Hbx3.out.below hb4 (by omega))
        clear hb4 Hb3 Hrm3 Hbx3
        generalize firstE [cmdsE m.vars true m.env, cmdsE m.vars false m.sys] = r4 at *
        by_cases h4 : r4 = 0
        · have h4b : (r4 != 0) = false := by simp [h4]
          rw [if_pos h4, first_app] at HM
          clear h4
          obtain ⟨q0, q1, q2, q3, q4, q5, q6, q7, q8, q9, q10, q11⟩ := Hbx4.out.all
          simp only at q0 q1 q2 q3 q4 q5 q6 q7 q8 q9 q10 q11
          go_wp2_with fail
          clear q0 q1 q2 q3 q4 q5 q6 q7 q8 q9 q10 q11
          refine (goals3_any ⟨⟨vA, vn, vc⟩, ⟨io, im, iA, il, ic⟩, ⟨jo, jm, jA, jl, jc⟩, ⟨eA, en, ec⟩, ⟨sA, sn, sc⟩, ⟨aA, an, ac⟩, ⟨nA, nn, nc⟩, ⟨pA, pn, pc⟩⟩ w4 xA xN xP).mono ?_
          rintro e w5 ⟨rfl, hb5⟩
          have hz5 := hb5.size
          have Hb5 := hide (Hb4.out.trans (hb5.mono (by omega)))
          have Hrm5 := hide (Hrm4.out.below (hb5.mono (by omega)))
          have Hbx5 := hide (Hbx4.out.below hb5 (by omega))
          clear hb5 Hb4 Hrm4 Hbx4
          simp only
          have e6 : firstE [bothE m] = bothE m := by
            rw [firstE, firstE]; split
            · rename_i h; exact h.symm
            · rfl
          rw [e6] at HM
          clear e6
          have HB : Hid (bothE m = if 0 < pn ∧ 0 < an + nn then 1 else 0) := hide (by
            have a : m.asm.length = an := LA.out
            have b : m.ens.length = nn := LN.out
            have c : m.prio.length = pn := LP.out
            unfold bothE
            rw [a, b, c])
          by_cases h5 : 0 < pn
          · have h5a : decide ((0 : Int) < (pn : Int)) = true := by simp; omega
            have h5b : decide (0 < pn) = true := by simp; omega
            by_cases h6 : 0 < an + nn
            · have h6a : decide ((0 : Int) < (an : Int) + (nn : Int)) = true := by simp; omega
              have Hf : Hid (modE m = 1) := hide (by
                have hb : bothE m = 1 := by rw [HB.out, if_pos ⟨h5, h6⟩]
                rw [HM.out, hb]; simp)
              go_wp2_with fail
              go_ret
              exact ⟨ret_int Hf.out.symm, Hb5.out⟩
            · have h6a : decide ((0 : Int) < (an : Int) + (nn : Int)) = false := by simp; omega
              have hb0 : bothE m = 0 := by rw [HB.out, if_neg (fun h => h6 h.2)]
              rw [hb0, if_pos rfl] at HM
              clear hb0
              clear HB
              obtain ⟨q0, q1, q2, q3, q4, q5, q6, q7, q8, q9, q10, q11⟩ := Hbx5.out.all
              simp only at q0 q1 q2 q3 q4 q5 q6 q7 q8 q9 q10 q11
              go_wp2_with fail
              clear q0 q1 q2 q3 q4 q5 q6 q7 q8 q9 q10 q11
              refine (dgoals_any B ⟨⟨vA, vn, vc⟩, ⟨io, im, iA, il, ic⟩, ⟨jo, jm, jA, jl, jc⟩, ⟨eA, en, ec⟩, ⟨sA, sn, sc⟩, ⟨aA, an, ac⟩, ⟨nA, nn, nc⟩, ⟨pA, pn, pc⟩⟩ m w5 (by omega) Hrm5.out).mono ?_
              rintro e w6 ⟨rfl, hb6⟩
              have hz6 := hb6.size
              have Hb6 := hide (Hb5.out.trans (hb6.mono (by omega)))
              have Hrm6 := hide (Hrm5.out.below (hb6.mono (by omega)))
              have Hbx6 := hide (Hbx5.out.below hb6 (by omega))
              clear hb6 Hb5 Hrm5 Hbx5
              go_wp2_with fail
              go_ret
              exact ⟨ret_int HM.out.symm, Hb6.out⟩
          · have h5a : decide ((0 : Int) < (pn : Int)) = false := by simp; omega
            have h5b : decide (0 < pn) = false := by simp; omega
            have hb0 : bothE m = 0 := by rw [HB.out, if_neg (fun h => h5 h.1)]
            rw [hb0, if_pos rfl] at HM
            clear hb0
            clear HB
            obtain ⟨q0, q1, q2, q3, q4, q5, q6, q7, q8, q9, q10, q11⟩ := Hbx5.out.all
            simp only at q0 q1 q2 q3 q4 q5 q6 q7 q8 q9 q10 q11
            go_wp2_with fail
            clear q0 q1 q2 q3 q4 q5 q6 q7 q8 q9 q10 q11
            refine (dgoals_any B ⟨⟨vA, vn, vc⟩, ⟨io, im, iA, il, ic⟩, ⟨jo, jm, jA, jl, jc⟩, ⟨eA, en, ec⟩, ⟨sA, sn, sc⟩, ⟨aA, an, ac⟩, ⟨nA, nn, nc⟩, ⟨pA, pn, pc⟩⟩ m w5 (by omega) Hrm5.out).mono ?_
            rintro e w6 ⟨rfl, hb6⟩
            have hz6 := hb6.size
            have Hb6 := hide (Hb5.out.trans (hb6.mono (by omega)))
            have Hrm6 := hide (Hrm5.out.below (hb6.mono (by omega)))
            have Hbx6 := hide (Hbx5.out.below hb6 (by omega))
            clear hb6 Hb5 Hrm5 Hbx5
            go_wp2_with fail
            go_ret
            exact ⟨ret_int HM.out.symm, Hb6.out⟩
        · have h4b : (r4 != 0) = true := by simp [h4]
          rw [if_neg h4] at HM
          clear h4
          go_wp2_with fail
          go_ret
          exact ⟨ret_int HM.out.symm, Hb4.out⟩
      · have h3b : decide (sizesE m = 0) = false := by simp [h3]
        have h37 : sizesE m = 7 := by
          revert h3
          unfold sizesE
          split
          · intro _; rfl
          · intro h; exact absurd rfl h
        have Hf : Hid (modE m = 7) := hide (by
          have h : firstE [sizesE m] = 7 := by rw [h37]; rfl
          rw [HM.out, h]; simp)
        rw [h3b]
        clear h3 h37 h3b
        go_wp2_with fail
        go_ret
        exact ⟨ret_int Hf.out.symm, Hb3.out⟩
    · have h2b : (r2 != 0) = true := by simp [h2]
      rw [if_neg h2] at HM
      clear h2
      go_wp2_with fail
      go_ret
      exact ⟨ret_int HM.out.symm, Hb2.out⟩
  · have h1b : (r1 != 0) = true := by simp [h1]
    rw [if_neg h1] at HM
    clear h1
    go_wp2_with fail
    go_ret
    exact ⟨ret_int HM.out.symm, Hb1.out⟩
end Go.Proofs.YtbppdalfcldodaaGreat
