/- What ExprKids needs: what an expression reads, as rows of marks; Reads once more. -/
import Derived.Test.YtjllnnbnhkmjkaaLCalls
namespace Go.Proofs.Ytjllnnbnhkmjkaa
open Go.RowKit
open Go.Sort (grow)
set_option linter.unusedSimpArgs false
set_option linter.unusedVariables false

def inV (F : Nat → Bool) : Nat → Value := fun i => .int .i64 (if F i = true then 1 else 0)
theorem inV_eq {F G : Nat → Bool} {i : Nat} (h : F i = G i) : inV F i = inV G i := by unfold inV; rw [h]
theorem pickTo_mem (F : Nat → Bool) (k : Nat) (x : Int) : x ∈ pickTo F k ↔ ∃ i : Nat, i < k ∧ F i = true ∧ x = (i : Int) := by
  unfold pickTo
  simp only [List.mem_map, List.mem_filter, List.mem_range]
  constructor
  · rintro ⟨i, ⟨h1, h2⟩, rfl⟩; exact ⟨i, h1, h2, rfl⟩
  · rintro ⟨i, h1, h2, rfl⟩; exact ⟨i, ⟨h1, h2⟩, rfl⟩
theorem pick_marks (F : Nat → Bool) (i : Nat) (h : i < 6) : decide ((i : Int) ∈ pickTo F 6) = F i := by
  cases hF : F i
  · rw [decide_eq_false_iff_not, pickTo_mem]
    rintro ⟨j, h1, h2, h3⟩
    have : i = j := by omega
    subst this
    rw [hF] at h2; cases h2
  · rw [decide_eq_true_iff, pickTo_mem]
    exact ⟨i, h, hF, rfl⟩
theorem reads_good {t : T} (h : mayE t = 0) (next : Bool) : readsE t next = pickTo (fun i => rdT t (opOf next) i) 6 := by unfold readsE; rw [if_pos h]
theorem take_mem {xs : List Int} {j : Nat} {x : Int} (h : xs[j]? = some x) (i : Nat) : decide ((i : Int) ∈ xs.take (j + 1)) = (decide ((i : Int) ∈ xs.take j) || ((i : Int) == x)) := by
  obtain ⟨hj, e⟩ := List.getElem?_eq_some_iff.1 h
  rw [List.take_succ_eq_append_getElem hj, e]
  by_cases h1 : (i : Int) ∈ xs.take j
  · simp [h1]
  · by_cases h2 : (i : Int) = x
    · simp [h2]
    · simp [h1, h2]

def RJ (w : World) (lo B : Nat) (A : Option Addr) (n : Nat) (l : List Int) : Prop :=
  l.length = n ∧ (0 < n → ∃ b off, A = some ⟨b, off, none⟩ ∧ lo ≤ b ∧ b < B ∧ ∀ k x, l[k]? = some x → w.cell? ⟨b, off + k, none⟩ = some (.int .i64 x))
theorem RJ.keep {w w' : World} {lo B n : Nat} {A : Option Addr} {xs : List Int} (h : RJ w lo B A n xs) (hk : ∀ p : Addr, lo ≤ p.block → p.block < B → w'.cell? p = w.cell? p) : RJ w' lo B A n xs :=
  ⟨h.1, fun hn => by
    obtain ⟨b, off, e, hlo, hb, hc⟩ := h.2 hn
    exact ⟨b, off, e, hlo, hb, fun k v hv => (hk _ (by exact hlo) (by exact hb)).trans (hc k v hv)⟩⟩
theorem RJ.at_ {w : World} {lo B n k : Nat} {A : Option Addr} {xs : List Int} (h : RJ w lo B A n xs) (hk : k < n) : ∃ b off x, A = some ⟨b, off, none⟩ ∧ lo ≤ b ∧ b < B ∧ xs[k]? = some x ∧ w.cell? ⟨b, off + k, none⟩ = some (.int .i64 x) := by
  obtain ⟨b, off, e, hlo, hb, hc⟩ := h.2 (by omega)
  have hl : k < xs.length := by have := h.1; omega
  exact ⟨b, off, xs[k], e, hlo, hb, List.getElem?_eq_getElem hl, hc k _ (List.getElem?_eq_getElem hl)⟩
theorem own_rj {w : World} {base n c : Nat} {A : Option Addr} {xs : List Int} (h : w.ownsRow base 3 1 (.slice A n c) n (ints xs)) : RJ w base w.heap.size A n xs := by
  have hl : xs.length = n := by have := h.1; simpa [ints] using this
  refine ⟨hl, fun hn => ?_⟩
  obtain ⟨g, cap, hv, hb, hlt⟩ := h.form hn
  have hA : A = some ⟨g, 0, none⟩ := by injection hv
  subst hA
  refine ⟨g, 0, rfl, hb, hlt, fun k x hx => ?_⟩
  have := h.cells (g := g) rfl k (.int .i64 x) (by simp [ints, hx])
  rw [Nat.zero_add]
  by_cases hk : k = 0
  · subst hk; simpa [Addr.add] using this
  · simpa [Addr.add, hk] using this
theorem reads_row {B d : Nat} {op n : Int} {A : Option Addr} {len cap : Nat} {t : T} {next : Bool} {w : World} (xs : List Int) (m : Nat) (hx : Hid (readsE t next = xs)) (hm : Hid (xs.length = m)) (hB : B ≤ w.heap.size) (hre : RE w B d op n A len cap t) :
    Calls Try.prog 18 #[.agg #[.int .i64 op, .int .i64 n, .slice A len cap], .bool next] w fun e w' => ∃ O c, e = .returned (.slice O m c) ∧ RJ w' w.heap.size w'.heap.size O m xs ∧ Below w.heap.size w w' :=
  (reads_any B d op n A len cap t next w hB hre).mono fun e w' ⟨O, k, c, he, hown, hk, hb⟩ => by
    rw [hx.out] at hown hk
    obtain rfl : k = m := by rw [← hk, hm.out]
    exact ⟨O, c, he, own_rj hown, hb⟩

set_option maxHeartbeats 1000000 in
theorem reads_none (B d : Nat) (op n : Int) (A : Option Addr) (len cap : Nat) (t : T) (next : Bool) (w : World) (hB : B ≤ w.heap.size) (hre : RE w B d op n A len cap t) (hm : ¬ mayE t = 0) :
    Calls Try.prog 18 #[.agg #[.int .i64 op, .int .i64 n, .slice A len cap], .bool next] w fun e w' => e = .returned (.slice none 0 0) ∧ Below w.heap.size w w' := by
  have Hre := hide (hre.below ((Below.refl B w).alloc hB (.cells #[.int .i64 op, .int .i64 n, .slice A len cap] 24)))
  clear hre
  have hbz : B ≤ (w.alloc (.cells #[.int .i64 op, .int .i64 n, .slice A len cap] 24)).heap.size := by simp; omega
  have hmb : (mayE t != 0) = true := by simp [hm]
  clear hm
  go_enter Try.func18, Try.ntmps18
  go_wp2_with fail
  refine (may_any B d op n A len cap t _ hbz Hre.out).mono ?_
  rintro e w1 ⟨rfl, hb1⟩
  have hbw1 := below_box (Below.refl w.heap.size w) (Nat.le_refl _) hb1
  clear hb1 hbz Hre
  go_wp2_with fail
  go_ret
  exact ⟨rfl, hbw1⟩
theorem q_none {W : World} {B d : Nat} {op n : Int} {A : Option Addr} {len cap : Nat} {t : T} {next : Bool} {dd : Nat} {os : Array Obj} (hB : B ≤ W.heap.size) (Hre : Hid (RE W B d op n A len cap t)) (hm : Hid (¬ mayE t = 0)) : Calls Try.prog 18 #[.agg #[.int .i64 op, .int .i64 n, .slice A len cap], .bool next] (grow (redrawn W dd) os) fun e w'' => e = .returned (.slice none 0 0) ∧ ∃ p : Regrown, w'' = grow (redrawn W p.d) p.os :=
  Calls.regrown_of (reads_none B d op n A len cap t next _ (q_re hB Hre).1 (q_re hB Hre).2 hm.out)
theorem q_kids {W : World} {x : Int} {dd : Nat} {os : Array Obj} : Calls Try.prog 20 #[.int .i64 x] (grow (redrawn W dd) os) fun e w'' => e = .returned (.int .i64 (kidsOf x)) ∧ ∃ p : Regrown, w'' = grow (redrawn W p.d) p.os :=
  Calls.regrown_of ((kids_any x _).mono fun _ _ ⟨he, hw⟩ => ⟨he, hw ▸ Below.refl _ _⟩)
theorem in_idx (F : Nat → Bool) (k : Nat) (hk : k < 6) (w : World) : (Instr.index 36 (.agg #[inV F 0, inV F 1, inV F 2, inV F 3, inV F 4, inV F 5]) (.int .i64 (k : Int))).run Try.prog w = .ok (inV F k) w := by
  have h : k = 0 ∨ k = 1 ∨ k = 2 ∨ k = 3 ∨ k = 4 ∨ k = 5 := by omega
  rcases h with rfl | rfl | rfl | rfl | rfl | rfl
  all_goals exact (show Sem.run Try.prog _ w = _ by kernel_rfl)
theorem nx_idx0 (w : World) : (Instr.index 35 (.agg #[.bool false, .bool true]) (.int .i64 0)).run Try.prog w = .ok (.bool false) w := (show Sem.run Try.prog _ w = _ by kernel_rfl)
theorem nx_idx1 (w : World) : (Instr.index 35 (.agg #[.bool false, .bool true]) (.int .i64 1)).run Try.prog w = .ok (.bool true) w := (show Sem.run Try.prog _ w = _ by kernel_rfl)
theorem in_new (w : World) : (w.alloc (.cells #[.int .i64 0, .int .i64 0, .int .i64 0, .int .i64 0, .int .i64 0, .int .i64 0] 36)).rowIs w.heap.size 36 6 (inV fun _ => false) :=
  World.rowIs_alloc w _ 36 _ (fun i hi => by
    have h : i = 0 ∨ i = 1 ∨ i = 2 ∨ i = 3 ∨ i = 4 ∨ i = 5 := by simp at hi; omega
    rcases h with rfl | rfl | rfl | rfl | rfl | rfl <;> rfl)
theorem in_set {w : World} {g : Nat} {F : Nat → Bool} (h : w.rowIs g 36 6 (inV F)) (q : Nat) : (w.setCell ⟨g, q, none⟩ (.int .i64 1)).rowIs g 36 6 (inV fun i => F i || ((i : Int) == (q : Int))) :=
  (h.set q (.int .i64 1)).congr (fun i hi => by
    by_cases e : i = q
    · subst e; simp [inV]
    · have : ((i : Int) == (q : Int)) = false := by rw [beq_eq_false_iff_ne]; omega
      rw [if_neg e]
      exact inV_eq (by rw [this, Bool.or_false]))
theorem fz_eq (t : T) : fz t = 1 + fzK t.kids := by cases t; rw [fz]; rfl
theorem fzK_take {ks : List T} {k : Nat} {u : T} (h : ks[k]? = some u) : fzK (ks.take (k + 1)) = fzK (ks.take k) + fz u := by
  obtain ⟨hk, e⟩ := List.getElem?_eq_some_iff.1 h
  rw [List.take_succ_eq_append_getElem hk, e]
  have : ∀ (a : List T) (b : T), fzK (a ++ [b]) = fzK a + fz b := by
    intro a b
    induction a with
    | nil => simp [fzK]
    | cons c r ih => rw [List.cons_append, fzK, fzK, ih]; omega
  exact this _ _
theorem fzK_take_le (ks : List T) (k : Nat) : fzK (ks.take k) ≤ fzK ks := by
  have : ∀ (a b : List T), fzK (a ++ b) = fzK a + fzK b := by
    intro a b
    induction a with
    | nil => rw [List.nil_append, fzK]; omega
    | cons c r ih => rw [List.cons_append, fzK, fzK, ih]; omega
  have h := this (ks.take k) (ks.drop k)
  rw [List.take_append_drop] at h
  have := fzK_pos (ks.drop k)
  omega
theorem sound_len {t : T} (h : sound t = true) : (t.kids.length : Int) = kidsOf t.op := by
  rw [sound_eq, nodeB_eq, Bool.and_eq_true, Bool.and_eq_true] at h
  simpa using h.1.1
end Go.Proofs.Ytjllnnbnhkmjkaa
