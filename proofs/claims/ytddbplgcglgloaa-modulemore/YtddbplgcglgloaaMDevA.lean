/- The walks of the program's mayHold, mayUse, isOwn and mayGive. -/
import Derived.Test.YtddbplgcglgloaaMMod
import Derived.Test.YtddbplgcglgloaaMSort
import Derived.Test.YtddbplgcglgloaaMReads
namespace Go.Proofs.Ytddbplgcglgloaa
open Go.RowKit Ex
open Go.Sort (grow)
set_option linter.unusedSimpArgs false
set_option linter.unusedVariables false

theorem same_zero (t : T) : sameE t (.mk 0 0 []) = zeroE t := by
  obtain ⟨op, n, ks⟩ := t
  unfold sameE zeroE
  simp only [T.op, T.n, T.kids]
  by_cases h : op = 0 ∧ n = 0 ∧ ks = []
  · obtain ⟨rfl, rfl, rfl⟩ := h
    decide +kernel
  · have h1 : sameT (.mk op n ks) (.mk 0 0 []) = false := by
      rw [sameT_eq]
      simp only [T.op, T.n, T.kids]
      by_cases ho : op = 0
      · by_cases hn : n = 0
        · have hk : ks ≠ [] := fun e => h ⟨ho, hn, e⟩
          rw [sameK_len ks [] (by cases ks with
            | nil => exact absurd rfl hk
            | cons a r => simp)]
          simp
        · simp [hn]
      · simp [ho]
    rw [h1]
    have h2 : ((op == 0) && (n == 0) && (ks.length == 0)) = false := by
      cases hb : ((op == 0) && (n == 0) && (ks.length == 0)) with
      | false => rfl
      | true =>
        simp at hb
        exact absurd ⟨hb.1.1, hb.1.2, hb.2⟩ h
    rw [h2]; simp

set_option maxHeartbeats 400000 in
theorem dhold_any (B : Nat) (Av : Option Addr) (nv cv : Nat) (lv : List Dom.V) (d : Nat) (op n : Int) (A : Option Addr) (len cap : Nat) (t : T) (w : World) (ho : OkVars ⟨Av, nv, cv⟩ lv) (hB : B ≤ w.heap.size) (hre : RE w B d op n A len cap t) (hrv : Dom.RV w B Av nv lv) :
    Calls Try.prog 41 #[.slice Av nv cv, .agg #[.int .i64 op, .int .i64 n, .slice A len cap]] w fun e w' => e = .returned (.int .i64 (needE lv t 1 true false false)) ∧ Below w.heap.size w w' := by
  have hbx : Below w.heap.size w (w.alloc (.cells #[.int .i64 op, .int .i64 n, .slice A len cap] 25)) := (Below.refl _ _).alloc (Nat.le_refl _) _
  have Hre := hide (hre.below (hbx.mono hB))
  have Hrv := hide (hrv.below (hbx.mono hB))
  obtain ⟨f0, f1, f2⟩ := box_new w op n A len cap 25
  have hz0 : w.heap.size + 1 ≤ (w.alloc (.cells #[.int .i64 op, .int .i64 n, .slice A len cap] 25)).heap.size := by simp
  have Hbx := hide hbx
  have Ho := hide ho
  clear hre hrv hbx ho
  go_enter Try.func41, Try.ntmps41
  go_wp2_with fail
  clear f0 f1 f2
  generalize w.alloc (.cells #[.int .i64 op, .int .i64 n, .slice A len cap] 25) = W at *
  refine (needs_any B Av nv cv lv d op n A len cap t 1 true false false W Ho.out.1 Ho.out.2.1 Ho.out.2.2.1 (by omega) Hre.out Hrv.out Ho.out.2.2.2).mono ?_
  rintro e w1 ⟨rfl, hb1⟩
  have Hb1 := hide (Hbx.out.trans (hb1.mono (by omega)))
  clear hb1
  go_wp2_with fail
  go_ret
  exact ⟨ret_int rfl, Hb1.out⟩

set_option maxHeartbeats 400000 in
theorem duse_any (B : Nat) (Av : Option Addr) (nv cv : Nat) (lv : List Dom.V) (d : Nat) (op n : Int) (A : Option Addr) (len cap : Nat) (t : T) (want : Int) (env : Bool) (w : World) (ho : OkVars ⟨Av, nv, cv⟩ lv) (hB : B ≤ w.heap.size) (hre : RE w B d op n A len cap t) (hrv : Dom.RV w B Av nv lv) :
    Calls Try.prog 24 #[.slice Av nv cv, .agg #[.int .i64 op, .int .i64 n, .slice A len cap], .int .i64 want, .bool env] w fun e w' => e = .returned (.int .i64 (needE lv t want true (!env) false)) ∧ Below w.heap.size w w' := by
  have hbx : Below w.heap.size w (w.alloc (.cells #[.int .i64 op, .int .i64 n, .slice A len cap] 25)) := (Below.refl _ _).alloc (Nat.le_refl _) _
  have Hre := hide (hre.below (hbx.mono hB))
  have Hrv := hide (hrv.below (hbx.mono hB))
  obtain ⟨f0, f1, f2⟩ := box_new w op n A len cap 25
  have hz0 : w.heap.size + 1 ≤ (w.alloc (.cells #[.int .i64 op, .int .i64 n, .slice A len cap] 25)).heap.size := by simp
  have Hbx := hide hbx
  have Ho := hide ho
  clear hre hrv hbx ho
  go_enter Try.func24, Try.ntmps24
  go_wp2_with fail
  clear f0 f1 f2
  generalize w.alloc (.cells #[.int .i64 op, .int .i64 n, .slice A len cap] 25) = W at *
  refine (needs_any B Av nv cv lv d op n A len cap t want true (!env) false W Ho.out.1 Ho.out.2.1 Ho.out.2.2.1 (by omega) Hre.out Hrv.out Ho.out.2.2.2).mono ?_
  rintro e w1 ⟨rfl, hb1⟩
  have Hb1 := hide (Hbx.out.trans (hb1.mono (by omega)))
  clear hb1
  go_wp2_with fail
  go_ret
  exact ⟨ret_int rfl, Hb1.out⟩

def ownB (l : List Dom.V) (z : Int) (env : Bool) : Bool := decide (0 ≤ z) && decide (z < (l.length : Int)) && (envAt l z == env)
set_option maxHeartbeats 400000 in
theorem own_any (B : Nat) (Av : Option Addr) (nv cv : Nat) (lv : List Dom.V) (z : Int) (env : Bool) (w : World) (ho : OkVars ⟨Av, nv, cv⟩ lv) (hrv : Dom.RV w B Av nv lv) :
    Calls Try.prog 25 #[.slice Av nv cv, .int .i64 z, .bool env] w fun e w' => e = .returned (.bool (ownB lv z env)) ∧ Below w.heap.size w w' := by
  have hnv := ho.1
  simp only at hnv
  unfold maxLen at hnv
  have hnl := hrv.1
  by_cases h0 : 0 ≤ z
  · obtain ⟨q, rfl⟩ := Int.eq_ofNat_of_zero_le h0
    have hb0 : decide (0 ≤ (q : Int)) = true := by simp
    by_cases h1 : q < nv
    · have hb1 : decide ((q : Int) < (nv : Int)) = true := by simp; omega
      have hb2 : decide (q < nv) = true := by simp; omega
      obtain ⟨vb, vo, v, eAv, hvb, hvq, g0, g1, g2, g3, g4⟩ := hrv.at_ (k := q) h1
      subst eAv
      have hqn : (q : Int) < (nv : Int) := by omega
      have Hf : Hid (ownB lv (q : Int) env = (v.env == env)) := hide (by
        unfold ownB envAt
        rw [hb0, hnl, hb1]; simp [hvq])
      clear g0 g2 g3 g4 hvq hrv
      cases hve : v.env <;> rw [hve] at g1 Hf <;> cases env
      all_goals
        go_enter Try.func25, Try.ntmps25
        go_wp2_with fail
        go_ret
        exact ⟨ret_bool Hf.out.symm, Below.refl _ _⟩
    · have hb1 : decide ((q : Int) < (nv : Int)) = false := by simp; omega
      have hb2 : decide (q < nv) = false := by simp; omega
      have Hf : Hid (ownB lv (q : Int) env = false) := hide (by
        unfold ownB
        rw [hb0, hnl, hb1]; simp)
      clear hrv h1
      go_enter Try.func25, Try.ntmps25
      go_wp2_with fail
      go_ret
      exact ⟨ret_bool Hf.out.symm, Below.refl _ _⟩
  · have hb0 : decide (0 ≤ z) = false := by simp; omega
    have Hf : Hid (ownB lv z env = false) := hide (by
      unfold ownB
      rw [hb0]; simp)
    clear hrv h0
    go_enter Try.func25, Try.ntmps25
    go_wp2_with fail
    go_ret
    exact ⟨ret_bool Hf.out.symm, Below.refl _ _⟩

theorem q_duse {W : World} {B : Nat} {Av : Option Addr} {nv cv : Nat} {lv : List Dom.V} {op n : Int} {A : Option Addr} {len cap : Nat} {t : T} {want : Int} {env : Bool} {dd : Nat} {os : Array Obj} (hB : B ≤ W.heap.size) (Ho : Hid (OkVars ⟨Av, nv, cv⟩ lv)) (Hrv : Hid (Dom.RV W B Av nv lv)) (Hre : Hid (EX W B ⟨op, n, A, len, cap⟩ t)) : Calls Try.prog 24 #[.slice Av nv cv, .agg #[.int .i64 op, .int .i64 n, .slice A len cap], .int .i64 want, .bool env] (grow (redrawn W dd) os) fun e w'' => e = .returned (.int .i64 (needE lv t want true (!env) false)) ∧ ∃ p : Regrown, w'' = grow (redrawn W p.d) p.os := by
  obtain ⟨d, hre⟩ := Hre.out
  exact Calls.regrown_of (duse_any B Av nv cv lv d op n A len cap t want env _ Ho.out (Nat.le_trans hB (below_regrown W dd os).size) (hre.below ((below_regrown W dd os).mono hB)) (Hrv.out.below ((below_regrown W dd os).mono hB)))

def giveE (l : List Dom.V) (s : ST) (env : Bool) : Int := if s.any = true then (if zeroE s.e = true then 0 else 1) else needE l s.e (srtAt l s.var) true (!env) false
set_option maxHeartbeats 1000000 in
theorem give_any (B : Nat) (Av : Option Addr) (nv cv : Nat) (lv : List Dom.V) (q : Nat) (p : Bool) (x : E5) (t : T) (env : Bool) (w : World) (ho : OkVars ⟨Av, nv, cv⟩ lv) (hB : B ≤ w.heap.size) (hex : EX w B x t) (hrv : Dom.RV w B Av nv lv) (hq : q < nv) :
    Calls Try.prog 26 #[.slice Av nv cv, .agg #[.int .i64 (q : Int), .bool p, .int .i64 x.op, .int .i64 x.n, .slice x.A x.len x.cap], .bool env] w fun e w' => e = .returned (.int .i64 (giveE lv ⟨q, p, t⟩ env)) ∧ Below w.heap.size w w' := by
  obtain ⟨so, sm, sO, sl, sc⟩ := x
  simp only
  have hnv := ho.1
  simp only at hnv
  unfold maxLen at hnv
  have hbx := (Below.refl w.heap.size w).alloc (Nat.le_refl _) (.cells #[.int .i64 (q : Int), .bool p, .int .i64 so, .int .i64 sm, .slice sO sl sc] 40)
  have Hex := hide (hex.below (hbx.mono hB))
  have Hrv := hide (hrv.below (hbx.mono hB))
  have Hb5 := hide (box5_new w q p so sm sO sl sc)
  have hz0 : w.heap.size + 1 ≤ (w.alloc (.cells #[.int .i64 (q : Int), .bool p, .int .i64 so, .int .i64 sm, .slice sO sl sc] 40)).heap.size := by simp
  have Hbx := hide hbx
  have Ho := hide ho
  clear hex hrv hbx ho
  obtain ⟨d0, d1, d2, d3, d4⟩ := Hb5.out
  cases p
  · have hqn : (q : Int) < (nv : Int) := by omega
    go_enter Try.func26, Try.ntmps26
    go_wp2_with fail
    clear d0 d1 d2 d3 d4
    generalize w.alloc (.cells #[.int .i64 (q : Int), .bool false, .int .i64 so, .int .i64 sm, .slice sO sl sc] 40) = W at *
    obtain ⟨vb, vo, v, eAv, hvb, hvq, g0, g1, g2, g3, g4⟩ := Hrv.out.at_ (k := q) hq
    subst eAv
    have Hf : Hid (giveE lv ⟨q, false, t⟩ env = needE lv t v.srt true (!env) false) := hide (by
      unfold giveE srtAt
      simp [hvq])
    have C0 := cell_regrown Hb5.out.1
    have C2 := cell_regrown Hb5.out.2.2.1
    have C3 := cell_regrown Hb5.out.2.2.2.1
    have C4 := cell_regrown Hb5.out.2.2.2.2
    have C5 := cell_regrown g2
    clear g0 g1 g2 g3 g4 hvq
    have hBW : B ≤ W.heap.size := by omega
    refine wp_region_quiet_below (by kernel_rfl) (by kernel_rfl) ?_
    repeat (go_big_quiet_step ((go_at_call 24; exact q_duse hBW Ho Hrv Hex)))
    refine wpQuiet_nil ?_
    intro w5 hw5
    obtain ⟨pp, hpp⟩ := hw5
    have Hb7 : Hid (Below w.heap.size w w5) := hide (by rw [hpp]; exact Hbx.out.trans ((below_regrown W pp.d pp.os).mono (by omega)))
    clear hpp C0 C2 C3 C4 C5
    go_wp2_with fail
    go_ret
    exact ⟨ret_int Hf.out.symm, Hb7.out⟩
  · obtain ⟨d, hre⟩ := Hex.out
    have Hre := hide hre
    have Hf : Hid (giveE lv ⟨q, true, t⟩ env = if sameE t (.mk 0 0 []) = true then 0 else 1) := hide (by
      unfold giveE
      rw [same_zero]; simp)
    clear hre
    go_enter Try.func26, Try.ntmps26
    go_wp2_with fail
    clear d0 d1 d2 d3 d4
    generalize w.alloc (.cells #[.int .i64 (q : Int), .bool true, .int .i64 so, .int .i64 sm, .slice sO sl sc] 40) = W at *
    refine (same_any B d so sm sO sl sc t 1 0 0 none 0 0 (.mk 0 0 []) W (by omega) Hre.out (RE.leaf _ _ _ _ _)).mono ?_
    rintro e w1 ⟨rfl, hb1⟩
    have Hb1 := hide (Hbx.out.trans (hb1.mono (by omega)))
    clear hb1
    generalize sameE t (.mk 0 0 []) = r at *
    cases r
    · rw [if_neg (by simp)] at Hf
      go_wp2_with fail
      go_ret
      exact ⟨ret_int Hf.out.symm, Hb1.out⟩
    · rw [if_pos rfl] at Hf
      go_wp2_with fail
      go_ret
      exact ⟨ret_int Hf.out.symm, Hb1.out⟩
end Go.Proofs.Ytddbplgcglgloaa
