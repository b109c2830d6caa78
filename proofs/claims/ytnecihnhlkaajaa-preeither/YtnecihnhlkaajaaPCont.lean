/- slices.ContainsFunc over the closures of Force. -/
import Derived.Test.YtnecihnhlkaajaaPIn
import Derived.Deep.CutRange
namespace Go.Proofs.Ytnecihnhlkaajaa.Gr
open Go.RowKit
set_option linter.unusedSimpArgs false
set_option linter.unusedVariables false
theorem any_cons_of {p : Int → Bool} {l : List Int} {k : Nat} {x : Int} (h : l.drop k = x :: l.drop (k + 1)) (hp : p x = false) : (l.drop (k + 1)).any p = (l.drop k).any p := by rw [h, List.any_cons, hp]; rfl
theorem idx26_any (B : Nat) (IA : Option Addr) (m mc : Nat) (r : List Int) (cb : Nat) (A : Option Addr) (n c : Nat) (l : List Bool) (X : World) (hi : RI X B ⟨IA, m, mc⟩ r) (h0 : ∀ x ∈ r, 0 ≤ x) (hc : X.cell? ⟨cb, 0, none⟩ = some (.slice A n c)) (hr : RB X B ⟨A, n, c⟩ l) :
    Calls Try.prog 34 #[.slice IA m mc, .func (.func 26) #[] #[.pointer (some ⟨cb, 0, none⟩)]] X fun e w' => ∃ i : Int, e = .returned (.int .i64 i) ∧ decide (0 ≤ i) = r.any (fun x => hasB l x) ∧ w' = X := by
  have Hi := hide hi
  have Hl := hide hi.len
  have H0 := hide h0
  have Hr := hide hr
  have hm : m ≤ 2 ^ 63 - 1 := Nat.le_trans hi.2.1 hi.2.2.1
  clear hi h0 hr
  go_enter Try.func34, Try.ntmps34
  go_wp2_with fail
  go_loopw [8] (fun i wr => ∃ k : Nat, k ≤ m ∧ i = .int .i64 k ∧ Hid ((r.drop k).any (fun x => hasB l x) = r.any (fun x => hasB l x)) ∧ wr = X) (fun i _ => m - (intOf i).toNat)
  case atStart => exact ⟨0, Nat.zero_le _, rfl, hide rfl, rfl⟩
  case round =>
    obtain ⟨k, hk, rfl, HT, rfl⟩ := hrel
    by_cases hlt : k < m
    · have hlt' : (k : Int) < (m : Int) := by omega
      obtain ⟨b, off, x, rfl, hb, hx, hcx⟩ := Hi.out.at_ hlt
      obtain ⟨q, rfl⟩ := Int.eq_ofNat_of_zero_le (H0.out x (List.mem_of_getElem? hx))
      have Hd := hide (drop_at hx)
      clear hx
      go_wp2_with fail
      refine (ins_any (v := q) hc Hr.out).mono ?_
      rintro e w1 ⟨rfl, rfl⟩
      cases hp : l.getD q false
      · have Hon : Hid ((r.drop (k + 1)).any (fun x => hasB l x) = r.any (fun x => hasB l x)) := hide ((any_cons_of Hd.out (p := fun x => hasB l x) (by show (hasB l (q : Int)) = false; rw [hasB_nat]; exact hp)).trans HT.out)
        clear hp
        go_wp2_with fail
        go_roundw
        case rel => exact ⟨k + 1, by omega, by go_num, Hon, by trivial⟩
        case measure => simp [intOf]; omega
      · have Hf : Hid (decide ((0 : Int) ≤ (k : Int)) = r.any (fun x => hasB l x)) := hide (by
          rw [← HT.out, Hd.out, List.any_cons]
          show _ = ((hasB l (q : Int)) || _)
          rw [hasB_nat, hp]; simp)
        clear hp
        go_wp2_with fail
        go_ret
        exact ⟨_, rfl, Hf.out, rfl⟩
    · have hlt' : ¬ (k : Int) < (m : Int) := by omega
      have Hf : Hid (decide ((0 : Int) ≤ (-1 : Int)) = r.any (fun x => hasB l x)) := hide (by rw [← HT.out, List.drop_of_length_le (by rw [Hl.out]; exact Nat.le_of_not_lt hlt)]; rfl)
      go_wp2_with fail
      go_ret
      exact ⟨_, rfl, Hf.out, rfl⟩
theorem con26_any (B : Nat) (IA : Option Addr) (m mc : Nat) (r : List Int) (cb : Nat) (A : Option Addr) (n c : Nat) (l : List Bool) (X : World) (hi : RI X B ⟨IA, m, mc⟩ r) (h0 : ∀ x ∈ r, 0 ≤ x) (hc : X.cell? ⟨cb, 0, none⟩ = some (.slice A n c)) (hr : RB X B ⟨A, n, c⟩ l) :
    Calls Try.prog 29 #[.slice IA m mc, .func (.func 26) #[] #[.pointer (some ⟨cb, 0, none⟩)]] X fun e w' => e = .returned (.bool (r.any (fun x => hasB l x))) ∧ w' = X := by
  go_enter Try.func29, Try.ntmps29
  go_wp2_with fail
  refine (idx26_any B IA m mc r cb A n c l X hi h0 hc hr).mono ?_
  rintro e w1 ⟨i, rfl, hd, rfl⟩
  have Hd := hide hd
  clear hd
  cases hi2 : decide ((0 : Int) ≤ i)
  · have Hf : Hid (r.any (fun x => hasB l x) = false) := hide (Hd.out ▸ hi2)
    go_wp2_with fail
    go_ret
    exact ⟨ret_bool Hf.out.symm, rfl⟩
  · have Hf : Hid (r.any (fun x => hasB l x) = true) := hide (Hd.out ▸ hi2)
    go_wp2_with fail
    go_ret
    exact ⟨ret_bool Hf.out.symm, rfl⟩
theorem idx27_any (B : Nat) (IA : Option Addr) (m mc : Nat) (r : List Int) (cb : Nat) (A : Option Addr) (n c : Nat) (l : List Bool) (X : World) (hi : RI X B ⟨IA, m, mc⟩ r) (h0 : ∀ x ∈ r, 0 ≤ x) (hc : X.cell? ⟨cb, 0, none⟩ = some (.slice A n c)) (hr : RB X B ⟨A, n, c⟩ l) :
    Calls Try.prog 34 #[.slice IA m mc, .func (.func 27) #[] #[.pointer (some ⟨cb, 0, none⟩)]] X fun e w' => ∃ i : Int, e = .returned (.int .i64 i) ∧ decide (0 ≤ i) = r.any (fun x => !hasB l x) ∧ w' = X := by
  have Hi := hide hi
  have Hl := hide hi.len
  have H0 := hide h0
  have Hr := hide hr
  have hm : m ≤ 2 ^ 63 - 1 := Nat.le_trans hi.2.1 hi.2.2.1
  clear hi h0 hr
  go_enter Try.func34, Try.ntmps34
  go_wp2_with fail
  go_loopw [8] (fun i wr => ∃ k : Nat, k ≤ m ∧ i = .int .i64 k ∧ Hid ((r.drop k).any (fun x => !hasB l x) = r.any (fun x => !hasB l x)) ∧ wr = X) (fun i _ => m - (intOf i).toNat)
  case atStart => exact ⟨0, Nat.zero_le _, rfl, hide rfl, rfl⟩
  case round =>
    obtain ⟨k, hk, rfl, HT, rfl⟩ := hrel
    by_cases hlt : k < m
    · have hlt' : (k : Int) < (m : Int) := by omega
      obtain ⟨b, off, x, rfl, hb, hx, hcx⟩ := Hi.out.at_ hlt
      obtain ⟨q, rfl⟩ := Int.eq_ofNat_of_zero_le (H0.out x (List.mem_of_getElem? hx))
      have Hd := hide (drop_at hx)
      clear hx
      go_wp2_with fail
      refine (outs_any (v := q) hc Hr.out).mono ?_
      rintro e w1 ⟨rfl, rfl⟩
      cases hp : !(l.getD q false)
      · have Hon : Hid ((r.drop (k + 1)).any (fun x => !hasB l x) = r.any (fun x => !hasB l x)) := hide ((any_cons_of Hd.out (p := fun x => !hasB l x) (by show (!hasB l (q : Int)) = false; rw [hasB_nat]; exact hp)).trans HT.out)
        clear hp
        go_wp2_with fail
        go_roundw
        case rel => exact ⟨k + 1, by omega, by go_num, Hon, by trivial⟩
        case measure => simp [intOf]; omega
      · have Hf : Hid (decide ((0 : Int) ≤ (k : Int)) = r.any (fun x => !hasB l x)) := hide (by
          rw [← HT.out, Hd.out, List.any_cons]
          show _ = ((!hasB l (q : Int)) || _)
          rw [hasB_nat, hp]; simp)
        clear hp
        go_wp2_with fail
        go_ret
        exact ⟨_, rfl, Hf.out, rfl⟩
    · have hlt' : ¬ (k : Int) < (m : Int) := by omega
      have Hf : Hid (decide ((0 : Int) ≤ (-1 : Int)) = r.any (fun x => !hasB l x)) := hide (by rw [← HT.out, List.drop_of_length_le (by rw [Hl.out]; exact Nat.le_of_not_lt hlt)]; rfl)
      go_wp2_with fail
      go_ret
      exact ⟨_, rfl, Hf.out, rfl⟩
theorem con27_any (B : Nat) (IA : Option Addr) (m mc : Nat) (r : List Int) (cb : Nat) (A : Option Addr) (n c : Nat) (l : List Bool) (X : World) (hi : RI X B ⟨IA, m, mc⟩ r) (h0 : ∀ x ∈ r, 0 ≤ x) (hc : X.cell? ⟨cb, 0, none⟩ = some (.slice A n c)) (hr : RB X B ⟨A, n, c⟩ l) :
    Calls Try.prog 29 #[.slice IA m mc, .func (.func 27) #[] #[.pointer (some ⟨cb, 0, none⟩)]] X fun e w' => e = .returned (.bool (r.any (fun x => !hasB l x))) ∧ w' = X := by
  go_enter Try.func29, Try.ntmps29
  go_wp2_with fail
  refine (idx27_any B IA m mc r cb A n c l X hi h0 hc hr).mono ?_
  rintro e w1 ⟨i, rfl, hd, rfl⟩
  have Hd := hide hd
  clear hd
  cases hi2 : decide ((0 : Int) ≤ i)
  · have Hf : Hid (r.any (fun x => !hasB l x) = false) := hide (Hd.out ▸ hi2)
    go_wp2_with fail
    go_ret
    exact ⟨ret_bool Hf.out.symm, rfl⟩
  · have Hf : Hid (r.any (fun x => !hasB l x) = true) := hide (Hd.out ▸ hi2)
    go_wp2_with fail
    go_ret
    exact ⟨ret_bool Hf.out.symm, rfl⟩
end Go.Proofs.Ytnecihnhlkaajaa.Gr
