/- What the statements need of expressions as trees. Contracts for calls within a region that draws its order. -/
import Derived.Test.YtddbplgcglgloaaMReads
import Derived.Laws.Bits64
namespace Go.Proofs.Ytddbplgcglgloaa.Ex
open Go.RowKit

mutual
theorem sameT_refl : ∀ (t : T), sameT t t = true
  | .mk o n ks => by rw [sameT]; simp [T.op, T.n, T.kids, sameK_refl ks]
theorem sameK_refl : ∀ (ks : List T), sameK ks ks = true
  | [] => by rw [sameK]
  | a :: r => by rw [sameK, sameT_refl a, sameK_refl r]; rfl
end
mutual
theorem sameT_imp : ∀ (t u : T), sameT t u = true → t = u
  | .mk o n ks, .mk o2 n2 ks2, h => by
    rw [sameT] at h
    simp only [T.op, T.n, T.kids, Bool.and_eq_true, beq_iff_eq] at h
    obtain ⟨⟨rfl, rfl⟩, h3⟩ := h
    rw [sameK_imp ks ks2 h3]
theorem sameK_imp : ∀ (a b : List T), sameK a b = true → a = b
  | [], [], _ => rfl
  | [], _ :: _, h => by rw [sameK] at h; exact absurd h (by simp)
  | _ :: _, [], h => by rw [sameK] at h; exact absurd h (by simp)
  | a :: r, b :: s, h => by
    rw [sameK, Bool.and_eq_true] at h
    rw [sameT_imp a b h.1, sameK_imp r s h.2]
end
theorem sameT_comm (t u : T) : sameT t u = sameT u t := by
  rw [Bool.eq_iff_iff]
  exact ⟨fun h => by rw [sameT_imp _ _ h]; exact sameT_refl _, fun h => by rw [sameT_imp _ _ h]; exact sameT_refl _⟩
theorem sameE_comm (t u : T) : sameE t u = sameE u t := by
  unfold sameE; rw [sameT_comm t u, Bool.and_comm (fitsB t)]
theorem sameE_imp {t u : T} (h : sameE t u = true) : t = u := by
  unfold sameE at h; rw [Bool.and_eq_true] at h; exact sameT_imp _ _ h.2

theorem may_cases (t : T) : mayE t = 0 ∨ mayE t = 1 ∨ mayE t = 7 := by unfold mayE; split <;> (try split) <;> simp
theorem may_iff (t : T) : mayE t = 0 ↔ fitsB t = true ∧ sound t = true := by
  unfold mayE
  cases fitsB t <;> cases sound t <;> simp
theorem may_full (t : T) : mayE t = 7 ↔ fitsB t = false := by
  unfold mayE
  cases fitsB t <;> cases sound t <;> simp
theorem sameE_refl {t : T} (h : mayE t = 0) : sameE t t = true := by
  unfold sameE; rw [((may_iff t).1 h).1, sameT_refl]; rfl

/- fits tells nothing of op and n -/
theorem sz_kids (o n o2 n2 : Int) (ks : List T) (dep : Int) : sz (.mk o n ks) dep = sz (.mk o2 n2 ks) dep := by rw [sz, sz]
theorem dp_kids (o n o2 n2 : Int) (ks : List T) (dep : Int) : dp (.mk o n ks) dep = dp (.mk o2 n2 ks) dep := by rw [dp, dp]
theorem fits_kids (o n o2 n2 : Int) (ks : List T) : fitsB (.mk o n ks) = fitsB (.mk o2 n2 ks) := by
  rw [fitsB_sz, fitsB_sz, sz_kids o n o2 n2, dp_kids o n o2 n2]
theorem sound_small {t : T} (h : sound t = true) : -1000 ≤ t.n ∧ t.n ≤ 1000 := by
  rw [sound_eq, nodeB_eq, Bool.and_eq_true, Bool.and_eq_true] at h
  have h2 := h.1.2
  unfold nodeN at h2
  split at h2
  · simpa using h2
  · split at h2
    · simp at h2; omega
    · split at h2
      · simp at h2; omega
      · simp at h2; omega
theorem xor_i64 (a y : Int) (ha : -9223372036854775808 ≤ a) (ha2 : a < 9223372036854775808) (hy : -9223372036854775808 ≤ y) (hy2 : y < 9223372036854775808) : bits .xor .i64 a y = a ↔ y = 0 := by
  have hb : bits .xor .i64 a y = (BitVec.ofInt 64 a ^^^ BitVec.ofInt 64 y).toInt := by
    show IntKind.i64.wrap ((BitVec.ofInt 64 a ^^^ BitVec.ofInt 64 y).toNat : Int) = _
    rw [IntKind.wrap_i64, BitVec.toInt_eq_toNat_cond]
    have := (BitVec.ofInt 64 a ^^^ BitVec.ofInt 64 y).isLt
    generalize (BitVec.ofInt 64 a ^^^ BitVec.ofInt 64 y).toNat = z at *
    split <;> omega
  have hta : (BitVec.ofInt 64 a).toInt = a := by rw [BitVec.toInt_ofInt]; simp [Int.bmod]; omega
  have hty : (BitVec.ofInt 64 y).toInt = y := by rw [BitVec.toInt_ofInt]; simp [Int.bmod]; omega
  rw [hb]
  constructor
  · intro h
    have h2 : BitVec.ofInt 64 a ^^^ BitVec.ofInt 64 y = BitVec.ofInt 64 a := BitVec.eq_of_toInt_eq (by rw [h, hta])
    have h3 : BitVec.ofInt 64 y = 0#64 := by
      have := congrArg (fun z => BitVec.ofInt 64 a ^^^ z) h2
      simpa [← BitVec.xor_assoc] using this
    rw [← hty, h3]; rfl
  · intro h
    subst h
    have : BitVec.ofInt 64 0 = 0#64 := rfl
    rw [this, BitVec.xor_zero, hta]
theorem same_xor {t : T} {by_ : Int} (h : mayE t = 0) (hy : -9223372036854775808 ≤ by_) (hy2 : by_ < 9223372036854775808) : sameE t (.mk t.op (bits .xor .i64 t.n by_) t.kids) = (by_ == 0) := by
  obtain ⟨hf, hs⟩ := (may_iff t).1 h
  obtain ⟨q1, q2⟩ := sound_small hs
  have hx := xor_i64 t.n by_ (by omega) (by omega) hy hy2
  cases t with
  | mk o n ks =>
    simp only [T.op, T.n, T.kids] at hx ⊢
    unfold sameE
    rw [fits_kids o (bits .xor .i64 n by_) o n, hf, sameT]
    simp only [T.op, T.n, T.kids, sameK_refl, beq_self_eq_true, Bool.true_and, Bool.and_true]
    by_cases hz : by_ = 0
    · have := hx.2 hz
      rw [this]; simp [hz]
    · have : ¬ n = bits .xor .i64 n by_ := fun e => hz (hx.1 e.symm)
      rw [beq_eq_false_iff_ne.2 this, beq_eq_false_iff_ne.2 hz]

/- all nodes, however deep -/
mutual
def fz : T → Int
  | .mk _ _ ks => 1 + fzK ks
def fzK : List T → Int
  | [] => 0
  | k :: r => fz k + fzK r
end
mutual
theorem sz_full : ∀ (t : T) (dep : Int), dp t dep = false → sz t dep = fz t
  | .mk o n ks, dep, h => by
    rw [dp] at h
    rw [sz, fz]
    split
    · rename_i h12
      rw [if_pos h12] at h
      have : ks = [] := by simpa using h
      subst this; rw [fzK]; omega
    · rename_i h12
      rw [if_neg h12] at h
      rw [szK_full ks dep h]
theorem szK_full : ∀ (ks : List T) (dep : Int), dpK ks dep = false → szK ks dep = fzK ks
  | [], dep, _ => by rw [szK, fzK]
  | k :: r, dep, h => by
    rw [dpK, Bool.or_eq_false_iff] at h
    rw [szK, fzK, sz_full k (dep + 1) h.1, szK_full r dep h.2]
end
mutual
theorem dp_less : ∀ (t : T) (dep : Int), dep < 12 → dp t (dep + 1) = false → dp t dep = false
  | .mk o n ks, dep, hd, h => by
    rw [dp] at h ⊢
    rw [if_neg (by omega)]
    by_cases h12 : dep + 1 = 12
    · rw [if_pos h12] at h
      have : ks = [] := by simpa using h
      subst this; rw [dpK]
    · rw [if_neg h12] at h
      exact dpK_less ks dep (by omega) h
theorem dpK_less : ∀ (ks : List T) (dep : Int), dep < 11 → dpK ks (dep + 1) = false → dpK ks dep = false
  | [], dep, _, _ => by rw [dpK]
  | k :: r, dep, hd, h => by
    rw [dpK, Bool.or_eq_false_iff] at h ⊢
    exact ⟨dp_less k (dep + 1) (by omega) h.1, dpK_less r dep hd h.2⟩
end
theorem fz_pos (t : T) : 1 ≤ fz t := by
  have h : ∀ t : T, 1 ≤ fz t := by
    intro t
    exact T.rec (motive_1 := fun t => 1 ≤ fz t) (motive_2 := fun ks => 0 ≤ fzK ks) (fun o n ks ih => by rw [fz]; omega) (by rw [fzK]; omega) (fun k r h1 h2 => by rw [fzK]; omega) t
  exact h t
theorem fits_iff (t : T) : fitsB t = true ↔ fz t ≤ 60 ∧ dp t 1 = false := by
  rw [fitsB_sz]
  cases h : dp t 1
  · rw [sz_full t 1 h]; simp
  · simp
theorem nodes_fit {t : T} (h : fitsB t = true) : nodesE t = fz t := by
  have := (fits_iff t).1 h
  rw [nodesE_eq, sz_full t 1 this.2]; omega

/- a kid of what may be -/
theorem dpK_at : ∀ (ks : List T) (dep : Int) (k : Nat) (u : T), dpK ks dep = false → ks[k]? = some u → dp u (dep + 1) = false
  | [], dep, k, u, _, h => by simp at h
  | a :: r, dep, 0, u, hs, h => by
    rw [dpK, Bool.or_eq_false_iff] at hs
    simp at h; subst h; exact hs.1
  | a :: r, dep, k + 1, u, hs, h => by
    rw [dpK, Bool.or_eq_false_iff] at hs
    exact dpK_at r dep k u hs.2 (by simpa using h)
theorem fzK_pos : ∀ ks : List T, 0 ≤ fzK ks
  | [] => by rw [fzK]; omega
  | k :: r => by rw [fzK]; have := fz_pos k; have := fzK_pos r; omega
theorem fzK_at : ∀ (ks : List T) (k : Nat) (u : T), ks[k]? = some u → fz u ≤ fzK ks
  | [], k, u, h => by simp at h
  | a :: r, 0, u, h => by
    simp at h; subst h; rw [fzK]; have := fzK_pos r; omega
  | a :: r, k + 1, u, h => by
    rw [fzK]; have := fzK_at r k u (by simpa using h); have := fz_pos a; omega
theorem may_kid {t u : T} {k : Nat} (h : mayE t = 0) (hu : t.kids[k]? = some u) : mayE u = 0 := by
  obtain ⟨hf, hs⟩ := (may_iff t).1 h
  obtain ⟨h1, h2⟩ := (fits_iff t).1 hf
  refine (may_iff u).2 ⟨(fits_iff u).2 ⟨?_, ?_⟩, soundK_at _ k u (sound_kids hs) hu⟩
  · have := fzK_at t.kids k u hu
    have e : fz t = 1 + fzK t.kids := by cases t; rw [fz]; rfl
    omega
  · rw [dp_on t 1 (by omega)] at h2
    exact dp_less u 1 (by omega) (dpK_at t.kids 1 k u h2 hu)
end Go.Proofs.Ytddbplgcglgloaa.Ex
namespace Go.Proofs.Ytddbplgcglgloaa.Ex
open Go.RowKit
open Go.Sort (grow)

section
variable {W : World} {B d : Nat} {op n : Int} {A : Option Addr} {len cap : Nat} {t : T} {d2 : Nat} {op2 n2 : Int} {A2 : Option Addr} {len2 cap2 : Nat} {t2 : T} {dd : Nat} {os : Array Obj}
theorem q_re (hB : B ≤ W.heap.size) (Hre : Hid (RE W B d op n A len cap t)) : B ≤ (grow (redrawn W dd) os).heap.size ∧ RE (grow (redrawn W dd) os) B d op n A len cap t :=
  ⟨Nat.le_trans hB (below_regrown W dd os).size, Hre.out.below ((below_regrown W dd os).mono hB)⟩
theorem q_heavy (hB : B ≤ W.heap.size) (Hre : Hid (RE W B d op n A len cap t)) : Calls Try.prog 16 #[.agg #[.int .i64 op, .int .i64 n, .slice A len cap]] (grow (redrawn W dd) os) fun e w'' => e = .returned (.int .i64 (heavyE t)) ∧ ∃ p : Regrown, w'' = grow (redrawn W p.d) p.os :=
  Calls.regrown_of (heavy_any B d op n A len cap t _ (q_re hB Hre).1 (q_re hB Hre).2)
theorem q_may (hB : B ≤ W.heap.size) (Hre : Hid (RE W B d op n A len cap t)) : Calls Try.prog 66 #[.agg #[.int .i64 op, .int .i64 n, .slice A len cap]] (grow (redrawn W dd) os) fun e w'' => e = .returned (.int .i64 (mayE t)) ∧ ∃ p : Regrown, w'' = grow (redrawn W p.d) p.os :=
  Calls.regrown_of (may_any B d op n A len cap t _ (q_re hB Hre).1 (q_re hB Hre).2)
theorem q_nodes (hB : B ≤ W.heap.size) (Hre : Hid (RE W B d op n A len cap t)) : Calls Try.prog 62 #[.agg #[.int .i64 op, .int .i64 n, .slice A len cap]] (grow (redrawn W dd) os) fun e w'' => e = .returned (.int .i64 (nodesE t)) ∧ ∃ p : Regrown, w'' = grow (redrawn W p.d) p.os :=
  Calls.regrown_of (nodes_any B d op n A len cap t _ (q_re hB Hre).1 (q_re hB Hre).2)
theorem q_same (hB : B ≤ W.heap.size) (Hre : Hid (RE W B d op n A len cap t)) (Hre2 : Hid (RE W B d2 op2 n2 A2 len2 cap2 t2)) : Calls Try.prog 28 #[.agg #[.int .i64 op, .int .i64 n, .slice A len cap], .agg #[.int .i64 op2, .int .i64 n2, .slice A2 len2 cap2]] (grow (redrawn W dd) os) fun e w'' => e = .returned (.bool (sameE t t2)) ∧ ∃ p : Regrown, w'' = grow (redrawn W p.d) p.os :=
  Calls.regrown_of (same_any B d op n A len cap t d2 op2 n2 A2 len2 cap2 t2 _ (q_re hB Hre).1 (q_re hB Hre).2 (q_re hB Hre2).2)
end
theorem heavy_bd (t : T) : 0 ≤ heavyE t ∧ heavyE t ≤ 1000 := by
  have := wgh_bd t 0 500 (by omega)
  unfold heavyE
  split <;> omega
end Go.Proofs.Ytddbplgcglgloaa.Ex
