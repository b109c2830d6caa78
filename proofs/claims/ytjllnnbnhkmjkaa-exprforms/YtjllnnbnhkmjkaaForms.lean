/- The walk of the statement ExprForms. -/
import Derived.Test.YtjllnnbnhkmjkaaDAwake
import Derived.Deep.RegionHeld3
namespace Go.Proofs.Ytjllnnbnhkmjkaa
open Go.RowKit
open Go.Sort (grow)
set_option linter.unusedSimpArgs false
set_option linter.unusedVariables false

/- contracts that speak of one world W, behind which all is new -/
section
variable {W w' : World} {B d : Nat} {op n : Int} {A : Option Addr} {len cap : Nat} {t : T} {d2 : Nat} {op2 n2 : Int} {A2 : Option Addr} {len2 cap2 : Nat} {t2 : T}
theorem on_w {Q : World → Prop} (hs : Hid (Below W.heap.size W w')) {f : FuncId} {args : Array Value} {v : Value}
    (h : Calls Try.prog f args w' fun e w'' => e = .returned v ∧ Below w'.heap.size w' w'') : Calls Try.prog f args w' fun e w'' => e = .returned v ∧ Hid (Below W.heap.size W w'') :=
  h.mono fun _ _ ⟨he, hb⟩ => ⟨he, hide (hs.out.trans (hb.mono hs.out.size))⟩
theorem re_w (hB : B ≤ W.heap.size) (Hre : Hid (RE W B d op n A len cap t)) (hs : Hid (Below W.heap.size W w')) : B ≤ w'.heap.size ∧ RE w' B d op n A len cap t :=
  ⟨Nat.le_trans hB hs.out.size, Hre.out.below (hs.out.mono hB)⟩
theorem c_heavy (hB : B ≤ W.heap.size) (Hre : Hid (RE W B d op n A len cap t)) (hs : Hid (Below W.heap.size W w')) : Calls Try.prog 9 #[.agg #[.int .i64 op, .int .i64 n, .slice A len cap]] w' fun e w'' => e = .returned (.int .i64 (heavyE t)) ∧ Hid (Below W.heap.size W w'') :=
  on_w (Q := fun _ => True) hs (heavy_any B d op n A len cap t w' (re_w hB Hre hs).1 (re_w hB Hre hs).2)
theorem c_may (hB : B ≤ W.heap.size) (Hre : Hid (RE W B d op n A len cap t)) (hs : Hid (Below W.heap.size W w')) : Calls Try.prog 11 #[.agg #[.int .i64 op, .int .i64 n, .slice A len cap]] w' fun e w'' => e = .returned (.int .i64 (mayE t)) ∧ Hid (Below W.heap.size W w'') :=
  on_w (Q := fun _ => True) hs (may_any B d op n A len cap t w' (re_w hB Hre hs).1 (re_w hB Hre hs).2)
theorem c_rmay (hB : B ≤ W.heap.size) (Hre : Hid (RE W B d op n A len cap t)) (hs : Hid (Below W.heap.size W w')) : Calls Try.prog 12 #[.agg #[.int .i64 op, .int .i64 n, .slice A len cap]] w' fun e w'' => e = .returned (.int .i64 (mayE t)) ∧ Hid (Below W.heap.size W w'') :=
  on_w (Q := fun _ => True) hs (rmay_any B d op n A len cap t w' (re_w hB Hre hs).1 (re_w hB Hre hs).2)
theorem c_nodes (hB : B ≤ W.heap.size) (Hre : Hid (RE W B d op n A len cap t)) (hs : Hid (Below W.heap.size W w')) : Calls Try.prog 15 #[.agg #[.int .i64 op, .int .i64 n, .slice A len cap]] w' fun e w'' => e = .returned (.int .i64 (nodesE t)) ∧ Hid (Below W.heap.size W w'') :=
  on_w (Q := fun _ => True) hs (nodes_any B d op n A len cap t w' (re_w hB Hre hs).1 (re_w hB Hre hs).2)
theorem c_rnodes (hB : B ≤ W.heap.size) (Hre : Hid (RE W B d op n A len cap t)) (hs : Hid (Below W.heap.size W w')) : Calls Try.prog 16 #[.agg #[.int .i64 op, .int .i64 n, .slice A len cap]] w' fun e w'' => e = .returned (.int .i64 (nodesE t)) ∧ Hid (Below W.heap.size W w'') :=
  on_w (Q := fun _ => True) hs (rnodes_any B d op n A len cap t w' (re_w hB Hre hs).1 (re_w hB Hre hs).2)
theorem c_same (hB : B ≤ W.heap.size) (Hre : Hid (RE W B d op n A len cap t)) (Hre2 : Hid (RE W B d2 op2 n2 A2 len2 cap2 t2)) (hs : Hid (Below W.heap.size W w')) : Calls Try.prog 13 #[.agg #[.int .i64 op, .int .i64 n, .slice A len cap], .agg #[.int .i64 op2, .int .i64 n2, .slice A2 len2 cap2]] w' fun e w'' => e = .returned (.bool (sameE t t2)) ∧ Hid (Below W.heap.size W w'') :=
  on_w (Q := fun _ => True) hs (same_any B d op n A len cap t d2 op2 n2 A2 len2 cap2 t2 w' (re_w hB Hre hs).1 (re_w hB Hre hs).2 (re_w hB Hre2 hs).2)
theorem c_rsame (hB : B ≤ W.heap.size) (Hre : Hid (RE W B d op n A len cap t)) (Hre2 : Hid (RE W B d2 op2 n2 A2 len2 cap2 t2)) (hs : Hid (Below W.heap.size W w')) : Calls Try.prog 14 #[.agg #[.int .i64 op, .int .i64 n, .slice A len cap], .agg #[.int .i64 op2, .int .i64 n2, .slice A2 len2 cap2]] w' fun e w'' => e = .returned (.bool (sameE t t2)) ∧ Hid (Below W.heap.size W w'') :=
  on_w (Q := fun _ => True) hs (rsameE_any B d op n A len cap t d2 op2 n2 A2 len2 cap2 t2 w' (re_w hB Hre hs).1 (re_w hB Hre hs).2 (re_w hB Hre2 hs).2)
theorem c_awake (hs : Hid (Below W.heap.size W w')) : Calls Try.prog 10 #[] w' fun e w'' => e = .returned (.bool true) ∧ Hid (Below W.heap.size W w'') :=
  on_w (Q := fun _ => True) hs (awake_any w')
theorem c_kids (x : Int) (hs : Hid (Below W.heap.size W w')) : Calls Try.prog 20 #[.int .i64 x] w' fun e w'' => e = .returned (.int .i64 (kidsOf x)) ∧ Hid (Below W.heap.size W w'') :=
  on_w (Q := fun _ => True) hs ((kids_any x w').mono fun _ _ ⟨he, hw⟩ => ⟨he, hw ▸ Below.refl _ _⟩)
theorem c_rkids (x : Int) (hs : Hid (Below W.heap.size W w')) : Calls Try.prog 21 #[.int .i64 x] w' fun e w'' => e = .returned (.int .i64 (kidsOf x)) ∧ Hid (Below W.heap.size W w'') :=
  on_w (Q := fun _ => True) hs ((rkids_any x w').mono fun _ _ ⟨he, hw⟩ => ⟨he, hw ▸ Below.refl _ _⟩)
theorem c_reads {next : Bool} (hB : B ≤ W.heap.size) (Hre : Hid (RE W B d op n A len cap t)) (hs : Hid (Below W.heap.size W w')) :
    Calls Try.prog 18 #[.agg #[.int .i64 op, .int .i64 n, .slice A len cap], .bool next] w' fun e w'' => ∃ O c, e = .returned (.slice O (readsE t next).length c) ∧ Hid (RI w'' w''.heap.size O (readsE t next).length (readsE t next)) ∧ Hid (Below w'.heap.size w' w'') ∧ Hid (Below W.heap.size W w'') :=
  (reads_any B d op n A len cap t next w' (re_w hB Hre hs).1 (re_w hB Hre hs).2).mono fun e w'' ⟨O, k, c, he, hown, hk, hb⟩ => by
    subst hk
    exact ⟨O, c, he, hide (own_ri hown), hide hb, hide (hs.out.trans (hb.mono hs.out.size))⟩
theorem c_rreads {next : Bool} (hB : B ≤ W.heap.size) (Hre : Hid (RE W B d op n A len cap t)) (hs : Hid (Below W.heap.size W w')) :
    Calls Try.prog 19 #[.agg #[.int .i64 op, .int .i64 n, .slice A len cap], .bool next] w' fun e w'' => ∃ O c, e = .returned (.slice O (readsE t next).length c) ∧ Hid (RI w'' w''.heap.size O (readsE t next).length (readsE t next)) ∧ Hid (Below w'.heap.size w' w'') ∧ Hid (Below W.heap.size W w'') :=
  (rReads_any B d op n A len cap t next w' (re_w hB Hre hs).1 (re_w hB Hre hs).2).mono fun e w'' ⟨O, k, c, he, hown, hk, hb⟩ => by
    subst hk
    exact ⟨O, c, he, hide (own_ri hown), hide hb, hide (hs.out.trans (hb.mono hs.out.size))⟩
theorem readsE_len (t : T) (next : Bool) : (readsE t next).length ≤ 6 := by
  unfold readsE
  split
  · exact pickTo_len _ _
  · simp
theorem c_ints {w1 : World} {O D : Option Addr} {t : T} {next : Bool} {c k : Nat} (h1 : Hid (RI w1 w1.heap.size O (readsE t next).length (readsE t next))) (h2 : Hid (RI w' w'.heap.size D (readsE t next).length (readsE t next))) (h12 : Hid (Below w1.heap.size w1 w')) (hs : Hid (Below W.heap.size W w')) :
    Calls Try.prog 17 #[.slice O (readsE t next).length c, .slice D (readsE t next).length k] w' fun e w'' => e = .returned (.bool true) ∧ Hid (Below W.heap.size W w'') :=
  on_w (Q := fun _ => True) hs (sameInts_any O D _ c k w'.heap.size (readsE t next) w' (Nat.le_trans (readsE_len t next) (by unfold maxLen; omega)) (Nat.le_refl _) ((h1.out.below h12.out).more h12.out.size) h2.out)
theorem keep6 {b b2 : Nat} (Hb1 : Hid (Box3 W b op n A len cap)) (Hb2 : Hid (Box3 W b2 op2 n2 A2 len2 cap2)) (h1 : b < W.heap.size) (h2 : b2 < W.heap.size) (hs : Hid (Below W.heap.size W w')) :
    w'.cell? ⟨b, 0, none⟩ = some (.int .i64 op) ∧ w'.cell? ⟨b, 1, none⟩ = some (.int .i64 n) ∧ w'.cell? ⟨b, 2, none⟩ = some (.slice A len cap) ∧
    w'.cell? ⟨b2, 0, none⟩ = some (.int .i64 op2) ∧ w'.cell? ⟨b2, 1, none⟩ = some (.int .i64 n2) ∧ w'.cell? ⟨b2, 2, none⟩ = some (.slice A2 len2 cap2) := by
  obtain ⟨a, b, c⟩ := Hb1.out.below hs.out h1
  obtain ⟨d, e, f⟩ := Hb2.out.below hs.out h2
  exact ⟨a, b, c, d, e, f⟩
end
theorem heavy_bd (t : T) : 0 ≤ heavyE t ∧ heavyE t ≤ 1000 := by
  have := wgh_bd t 0 500 (by omega)
  unfold heavyE
  split <;> omega
set_option maxRecDepth 100000 in
set_option maxHeartbeats 4000000 in
theorem forms_any (B d : Nat) (op n : Int) (A : Option Addr) (len cap : Nat) (t : T) (d2 : Nat) (op2 n2 : Int) (A2 : Option Addr) (len2 cap2 : Nat) (t2 : T) (x : Int) (w : World) (hB : B ≤ w.heap.size) (hre : RE w B d op n A len cap t) (hre2 : RE w B d2 op2 n2 A2 len2 cap2 t2) :
    Calls Try.prog 3 #[.agg #[.int .i64 op, .int .i64 n, .slice A len cap], .agg #[.int .i64 op2, .int .i64 n2, .slice A2 len2 cap2], .int .i64 x] w fun e w' => e = .returned (.bool true) ∧ Below w.heap.size w w' := by
  have hbx : Below w.heap.size w ((w.alloc (.cells #[.int .i64 op, .int .i64 n, .slice A len cap] 24)).alloc (.cells #[.int .i64 op2, .int .i64 n2, .slice A2 len2 cap2] 24)) := ((Below.refl _ _).alloc (Nat.le_refl _) _).alloc (by simp) _
  obtain ⟨bx1, bx2⟩ := two_box w op n A len cap op2 n2 A2 len2 cap2
  have hz0 : w.heap.size + 2 ≤ ((w.alloc (.cells #[.int .i64 op, .int .i64 n, .slice A len cap] 24)).alloc (.cells #[.int .i64 op2, .int .i64 n2, .slice A2 len2 cap2] 24)).heap.size := by simp
  have Hre := hide (hre.below (hbx.mono hB))
  have Hre2 := hide (hre2.below (hbx.mono hB))
  have Hbx1 := hide bx1
  have Hbx2 := hide bx2
  have Hbx := hide hbx
  clear hre hre2 bx1 bx2 hbx
  obtain ⟨h1a, h1b⟩ := heavy_bd t
  obtain ⟨h2a, h2b⟩ := heavy_bd t2
  generalize hv1 : heavyE t = v1 at *
  generalize hv2 : heavyE t2 = v2 at *
  have Hv1 := hide hv1
  have Hv2 := hide hv2
  clear hv1 hv2
  go_enter Try.func3, Try.ntmps3
  go_wp2_with fail
  generalize (w.alloc (.cells #[.int .i64 op, .int .i64 n, .slice A len cap] 24)).alloc (.cells #[.int .i64 op2, .int .i64 n2, .slice A2 len2 cap2] 24) = W at *
  have hBW : B ≤ W.heap.size := by omega
  have Hc1 : Hid (∀ (dd : Nat) (os : Array Obj), Calls Try.prog 9 #[.agg #[.int .i64 op, .int .i64 n, .slice A len cap]] (grow (redrawn W dd) os) fun e w' => e = .returned (.int .i64 v1) ∧ Below (grow (redrawn W dd) os).heap.size (grow (redrawn W dd) os) w') :=
    hide (fun dd os => by rw [← Hv1.out]; exact heavy_any B d op n A len cap t _ (Nat.le_trans hBW (below_regrown W dd os).size) (Hre.out.below ((below_regrown W dd os).mono hBW)))
  have Hc2 : Hid (∀ (dd : Nat) (os : Array Obj), Calls Try.prog 9 #[.agg #[.int .i64 op2, .int .i64 n2, .slice A2 len2 cap2]] (grow (redrawn W dd) os) fun e w' => e = .returned (.int .i64 v2) ∧ Below (grow (redrawn W dd) os).heap.size (grow (redrawn W dd) os) w') :=
    hide (fun dd os => by rw [← Hv2.out]; exact heavy_any B d2 op2 n2 A2 len2 cap2 t2 _ (Nat.le_trans hBW (below_regrown W dd os).size) (Hre2.out.below ((below_regrown W dd os).mono hBW)))
  have C0 := cell_regrown Hbx1.out.1
  have C1 := cell_regrown Hbx1.out.2.1
  have C2 := cell_regrown Hbx1.out.2.2
  have E0 := cell_regrown Hbx2.out.1
  have E1 := cell_regrown Hbx2.out.2.1
  have E2 := cell_regrown Hbx2.out.2.2
  refine wp_region_quiet_below (by kernel_rfl) (by kernel_rfl) ?_
  repeat (go_big_quiet_step (first | (go_at_call 9; exact Calls.regrown_of (Hc1.out _ _)) | (go_at_call 9; exact Calls.regrown_of (Hc2.out _ _))))
  refine wpQuiet_nil ?_
  intro w3 hw3
  obtain ⟨p, hp⟩ := hw3
  have hb3 : Below W.heap.size W w3 := by rw [hp]; exact below_regrown W p.d p.os
  have hz3 := hb3.size
  have Hbx' := hide (Hbx.out.trans (hb3.mono (by omega)))
  have Hre' := hide (Hre.out.below (hb3.mono hBW))
  have Hre2' := hide (Hre2.out.below (hb3.mono hBW))
  have Hbx1' := hide (Hbx1.out.below hb3 (by omega))
  have Hbx2' := hide (Hbx2.out.below hb3 (by omega))
  have hz4 : w.heap.size + 2 ≤ w3.heap.size := by omega
  clear hp hb3 C0 C1 C2 E0 E1 E2 Hc1 Hc2 Hbx Hre Hre2 Hbx1 Hbx2 hBW hz3 hz0 W
  by_cases hh : 0 < v1 + v2
  · have hhb : decide (0 < v1 + v2) = true := by simp [hh]
    clear Hre' Hre2' Hbx1' Hbx2'
    go_wp2_with fail
    refine (awake_any _).mono ?_
    rintro e w4 ⟨rfl, hb4⟩
    have Hf := hide (Hbx'.out.trans (hb4.mono (by omega)))
    clear hb4
    go_wp2_with fail
    go_ret
    exact ⟨rfl, Hf.out⟩
  · have hhb : decide (0 < v1 + v2) = false := by simp; omega
    have hBW : B ≤ w3.heap.size := by omega
    have Hdr : Hid (Below w3.heap.size w3 w3.drew) := hide (Below.refl _ _).drew
    clear Hv1 Hv2
    go_wp2_with fail
    clear h1a h1b h2a h2b hh hhb
    go_region_held3 (fun w' => w'.cell? ⟨w.heap.size, 0, none⟩ = some (.int .i64 op) ∧ w'.cell? ⟨w.heap.size, 1, none⟩ = some (.int .i64 n) ∧ w'.cell? ⟨w.heap.size, 2, none⟩ = some (.slice A len cap) ∧ w'.cell? ⟨w.heap.size + 1, 0, none⟩ = some (.int .i64 op2) ∧ w'.cell? ⟨w.heap.size + 1, 1, none⟩ = some (.int .i64 n2) ∧ w'.cell? ⟨w.heap.size + 1, 2, none⟩ = some (.slice A2 len2 cap2))
      (first | exact keep6 Hbx1' Hbx2' (by omega) (by omega) (by assumption))
      (first
        | (go_at_call 11; refine (c_may hBW Hre' (by assumption)).mono ?_; rintro e w1 ⟨rfl, hb1⟩)
        | (go_at_call 12; refine (c_rmay hBW Hre' (by assumption)).mono ?_; rintro e w1 ⟨rfl, hb1⟩)
        | (go_at_call 13; refine (c_same hBW Hre' Hre2' (by assumption)).mono ?_; rintro e w1 ⟨rfl, hb1⟩)
        | (go_at_call 14; refine (c_rsame hBW Hre' Hre2' (by assumption)).mono ?_; rintro e w1 ⟨rfl, hb1⟩)
        | (go_at_call 15; refine (c_nodes hBW Hre' (by assumption)).mono ?_; rintro e w1 ⟨rfl, hb1⟩)
        | (go_at_call 16; refine (c_rnodes hBW Hre' (by assumption)).mono ?_; rintro e w1 ⟨rfl, hb1⟩)
        | (go_at_call 18; refine (c_reads hBW Hre' (by assumption)).mono ?_; rintro e w1 ⟨O, c, rfl, ho1, hq1, hb1⟩)
        | (go_at_call 19; refine (c_rreads hBW Hre' (by assumption)).mono ?_; rintro e w1 ⟨O, c, rfl, ho1, hq1, hb1⟩)
        | (go_at_call 17; refine (c_ints (by assumption) (by assumption) (by assumption) (by assumption)).mono ?_; rintro e w1 ⟨rfl, hb1⟩)
        | (go_at_call 20; refine (c_kids x (by assumption)).mono ?_; rintro e w1 ⟨rfl, hb1⟩)
        | (go_at_call 21; refine (c_rkids x (by assumption)).mono ?_; rintro e w1 ⟨rfl, hb1⟩)
        | (go_at_call 10; refine (c_awake (by assumption)).mono ?_; rintro e w1 ⟨rfl, hb1⟩))
    go_wp2_with fail
    go_ret
    exact ⟨rfl, Hbx'.out.trans (hb1.out.mono (by omega))⟩
end Go.Proofs.Ytjllnnbnhkmjkaa
