/- What is folded, as trees; the walk of the reference's fold. -/
import Derived.Test.YtkjclofkfmkbdaaFCopy
import Derived.Test.YtkjclofkfmkbdaaValC
namespace Go.Proofs.Ytkjclofkfmkbdaa
open Go.RowKit Ex
set_option linter.unusedSimpArgs false
set_option linter.unusedVariables false

mutual
def noRd : T → Bool
  | .mk op n ks => (decide (op ≠ 3) && decide (op ≠ 4)) && noRdK ks
def noRdK : List T → Bool
  | [] => true
  | k :: r => noRd k && noRdK r
end
mutual
def foldT (l : List Dom.V) : T → T
  | .mk op n ks => if noRd (.mk op n ks) = true then (match vT [] [] (.mk op n ks) with
      | some x => .mk (if (tyT l (.mk op n ks)).1 = 1 then 2 else 1) x []
      | none => .mk op n (foldK l ks)) else .mk op n (foldK l ks)
def foldK (l : List Dom.V) : List T → List T
  | [] => []
  | k :: r => foldT l k :: foldK l r
end
theorem foldT_eq (l : List Dom.V) (t : T) : foldT l t = if noRd t = true then (match vT [] [] t with
      | some x => .mk (if (tyT l t).1 = 1 then 2 else 1) x []
      | none => .mk t.op t.n (foldK l t.kids)) else .mk t.op t.n (foldK l t.kids) := by cases t; rw [foldT]; rfl
theorem foldK_len (l : List Dom.V) : ∀ ks, (foldK l ks).length = ks.length
  | [] => by rw [foldK]
  | k :: r => by rw [foldK, List.length_cons, List.length_cons, foldK_len l r]
theorem foldK_at (l : List Dom.V) : ∀ (ks : List T) (k : Nat) (u : T), ks[k]? = some u → (foldK l ks)[k]? = some (foldT l u)
  | [], k, u, h => by simp at h
  | c :: r, 0, u, h => by simp at h; subst h; rw [foldK]; rfl
  | c :: r, k + 1, u, h => by
    rw [foldK]
    simpa using foldK_at l r k u (by simpa using h)
mutual
theorem noRd_rd : ∀ (t : T) (op : Int) (i : Nat), op = 3 ∨ op = 4 → noRd t = true → rdT t op i = false
  | .mk o n ks, op, i, ho, h => by
    rw [noRd, Bool.and_eq_true, Bool.and_eq_true] at h
    rw [rdT, noRdK_rd ks op i ho h.2]
    have h1 := h.1.1; have h2 := h.1.2
    simp at h1 h2
    have : (o == op) = false := by simp; omega
    simp [this]
theorem noRdK_rd : ∀ (ks : List T) (op : Int) (i : Nat), op = 3 ∨ op = 4 → noRdK ks = true → rdK ks op i = false
  | [], op, i, ho, h => by rw [rdK]
  | k :: r, op, i, ho, h => by
    rw [noRdK, Bool.and_eq_true] at h
    rw [rdK, noRd_rd k op i ho h.1, noRdK_rd r op i ho h.2]; rfl
end
mutual
theorem noRd_some : ∀ (t : T), sound t = true → noRd t = false → ∃ (op : Int) (i : Nat), (op = 3 ∨ op = 4) ∧ i < 6 ∧ rdT t op i = true
  | .mk o n ks, hs, h => by
    by_cases ho : o = 3 ∨ o = 4
    · have hn := sound_n (op := o) hs ho rfl
      simp only [T.n] at hn
      refine ⟨o, n.toNat, ho, by omega, ?_⟩
      rw [rdT]
      have : (n == (n.toNat : Int)) = true := by simp; omega
      simp [this]; left; omega
    · have h1 : decide (o ≠ 3) = true := by simp; omega
      have h2 : decide (o ≠ 4) = true := by simp; omega
      rw [noRd, h1, h2] at h
      simp at h
      obtain ⟨op, i, hop, hi, hr⟩ := noRdK_some ks (sound_kids hs) h
      exact ⟨op, i, hop, hi, by rw [rdT, hr]; simp⟩
theorem noRdK_some : ∀ (ks : List T), soundK ks = true → noRdK ks = false → ∃ (op : Int) (i : Nat), (op = 3 ∨ op = 4) ∧ i < 6 ∧ rdK ks op i = true
  | [], hs, h => by rw [noRdK] at h; cases h
  | k :: r, hs, h => by
    rw [soundK, Bool.and_eq_true] at hs
    rw [noRdK] at h
    cases hk : noRd k
    · obtain ⟨op, i, hop, hi, hr⟩ := noRd_some k hs.1 hk
      exact ⟨op, i, hop, hi, by rw [rdK, hr]; rfl⟩
    · rw [hk] at h
      obtain ⟨op, i, hop, hi, hr⟩ := noRdK_some r hs.2 (by simpa using h)
      exact ⟨op, i, hop, hi, by rw [rdK, hr]; simp⟩
end
theorem pick_len0 (F : Nat → Bool) (k : Nat) : (pickTo F k).length = 0 ↔ ∀ i, i < k → F i = false := by
  unfold pickTo
  simp [List.filter_eq_nil_iff]
theorem reads_none {t : T} (h : mayE t = 0) : ((readsE t false).length + (readsE t true).length = 0) ↔ noRd t = true := by
  unfold readsE
  rw [if_pos h, if_pos h]
  constructor
  · intro h0
    cases hn : noRd t
    · obtain ⟨op, i, hop, hi, hr⟩ := noRd_some t (may_sound h) hn
      have h1 := (pick_len0 (fun i => rdT t (opOf false) i) 6).1 (by omega) i hi
      have h2 := (pick_len0 (fun i => rdT t (opOf true) i) 6).1 (by omega) i hi
      rcases hop with rfl | rfl
      · simp [opOf] at h1; rw [h1] at hr; cases hr
      · simp [opOf] at h2; rw [h2] at hr; cases hr
    · rfl
  · intro hn
    have h1 := (pick_len0 (fun i => rdT t (opOf false) i) 6).2 (fun i _ => noRd_rd t _ i (by simp [opOf]) hn)
    have h2 := (pick_len0 (fun i => rdT t (opOf true) i) 6).2 (fun i _ => noRd_rd t _ i (by simp [opOf]) hn)
    omega

section
variable {W w' : World} {B d : Nat} {op n : Int} {A : Option Addr} {len cap : Nat} {t : T}
theorem c_rreads {next : Bool} (hB : B ≤ W.heap.size) (Hre : Hid (RE W B d op n A len cap t)) (hs : Hid (Below W.heap.size W w')) :
    Calls Try.prog 65 #[.agg #[.int .i64 op, .int .i64 n, .slice A len cap], .bool next] w' fun e w'' => ∃ O c, e = .returned (.slice O (readsE t next).length c) ∧ Hid (Below W.heap.size W w'') :=
  (rReads_any B d op n A len cap t next w' (Nat.le_trans hB hs.out.size) (Hre.out.below (hs.out.mono hB))).mono fun e w'' ⟨O, k, c, he, hown, hk, hb⟩ => by
    subst hk
    exact ⟨O, c, he, hide (hs.out.trans (hb.mono hs.out.size))⟩
theorem keep3 {b : Nat} (Hb1 : Hid (Box3 W b op n A len cap)) (h1 : b < W.heap.size) (hs : Hid (Below W.heap.size W w')) :
    w'.cell? ⟨b, 0, none⟩ = some (.int .i64 op) ∧ w'.cell? ⟨b, 1, none⟩ = some (.int .i64 n) ∧ w'.cell? ⟨b, 2, none⟩ = some (.slice A len cap) := Hb1.out.below hs.out h1
end
end Go.Proofs.Ytkjclofkfmkbdaa
