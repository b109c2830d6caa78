/- Nodes down to the twelfth level, depth, as plain functions; how the reference's count says the same. -/
import Derived.Test.YtdjllpejonfpgaaERefB
namespace Go.Proofs.Ytdjllpejonfpgaa.Ex
open Go.RowKit

/- nodes down to the twelfth level, as the program counts them: on top of m, no further than 61 -/
mutual
def kn : T → Int → Int → Int
  | .mk _ _ ks, dep, m => if dep = 12 then m + 1 else knK ks dep (m + 1)
def knK : List T → Int → Int → Int
  | [], _, m => m
  | k :: r, dep, m => if 60 < m then m else knK r dep (kn k (dep + 1) m)
end
/- nodes down to the twelfth level -/
mutual
def sz : T → Int → Int
  | .mk _ _ ks, dep => if dep = 12 then 1 else 1 + szK ks dep
def szK : List T → Int → Int
  | [], _ => 0
  | k :: r, dep => sz k (dep + 1) + szK r dep
end
/- a node below the twelfth level -/
mutual
def dp : T → Int → Bool
  | .mk _ _ ks, dep => if dep = 12 then decide (0 < ks.length) else dpK ks dep
def dpK : List T → Int → Bool
  | [], _ => false
  | k :: r, dep => dp k (dep + 1) || dpK r dep
end
mutual
theorem sz_pos : ∀ (t : T) (dep : Int), 1 ≤ sz t dep
  | .mk o n ks, dep => by
    rw [sz]
    split
    · omega
    · have := szK_pos ks dep; omega
theorem szK_pos : ∀ (ks : List T) (dep : Int), 0 ≤ szK ks dep
  | [], dep => by rw [szK]; omega
  | k :: r, dep => by
    rw [szK]
    have h1 := sz_pos k (dep + 1)
    have h2 := szK_pos r dep
    omega
end
mutual
theorem kn_eq : ∀ (t : T) (dep m : Int), m ≤ 60 → kn t dep m = min (m + sz t dep) 61
  | .mk o n ks, dep, m, h => by
    rw [kn, sz]
    split
    · omega
    · have := szK_pos ks dep
      rw [knK_eq ks dep (m + 1) (by omega)]; omega
theorem knK_eq : ∀ (ks : List T) (dep m : Int), m ≤ 61 → knK ks dep m = min (m + szK ks dep) 61
  | [], dep, m, h => by rw [knK, szK]; omega
  | k :: r, dep, m, h => by
    have h1 := sz_pos k (dep + 1)
    have h2 := szK_pos r dep
    rw [knK, szK]
    split
    · omega
    · have hk := kn_eq k (dep + 1) m (by omega)
      rw [knK_eq r dep _ (by omega), hk]; omega
end
theorem kn_bd (t : T) (dep m : Int) (h : m ≤ 60) : m + 1 ≤ kn t dep m ∧ kn t dep m ≤ 61 := by
  have := sz_pos t dep
  rw [kn_eq t dep m h]; omega
theorem kn_12 (t : T) (m : Int) : kn t 12 m = m + 1 := by cases t; rw [kn, if_pos rfl]
theorem kn_on (t : T) (dep m : Int) (h : ¬ dep = 12) : kn t dep m = knK t.kids dep (m + 1) := by cases t; rw [kn, if_neg h]; rfl
theorem sz_12 (t : T) : sz t 12 = 1 := by cases t; rw [sz, if_pos rfl]
theorem sz_on (t : T) (dep : Int) (h : ¬ dep = 12) : sz t dep = 1 + szK t.kids dep := by cases t; rw [sz, if_neg h]; rfl
theorem dp_12 (t : T) : dp t 12 = decide (0 < t.kids.length) := by cases t; rw [dp, if_pos rfl]; rfl
theorem dp_on (t : T) (dep : Int) (h : ¬ dep = 12) : dp t dep = dpK t.kids dep := by cases t; rw [dp, if_neg h]; rfl
mutual
theorem cnt_eq : ∀ (t : T) (dep room : Int), 0 ≤ room → (cnt t dep room).1 = min (sz t dep) (room + 1) ∧ ((cnt t dep room).1 ≤ room → (cnt t dep room).2 = dp t dep)
  | .mk o n ks, dep, room, h => by
    rw [cnt, sz, dp]
    split
    · simp; omega
    · have := szK_pos ks dep
      have h2 := cntK_eq ks dep room 1 false (by omega) (by omega)
      refine ⟨by rw [h2.1], fun hr => ?_⟩
      rw [h2.2 hr, Bool.false_or]
theorem cntK_eq : ∀ (ks : List T) (dep room m : Int) (over : Bool), 1 ≤ m → m ≤ room + 1 → (cntK ks dep room m over).1 = min (m + szK ks dep) (room + 1) ∧ ((cntK ks dep room m over).1 ≤ room → (cntK ks dep room m over).2 = (over || dpK ks dep))
  | [], dep, room, m, over, h1, h2 => by
    rw [cntK, szK, dpK]
    simp only [Bool.or_false]
    split <;> simp <;> omega
  | k :: r, dep, room, m, over, h1, h2 => by
    have p1 := sz_pos k (dep + 1)
    have p2 := szK_pos r dep
    rw [cntK, szK, dpK]
    split
    · simp; omega
    · have hk := cnt_eq k (dep + 1) (room - m) (by omega)
      have hr := cntK_eq r dep room (m + (cnt k (dep + 1) (room - m)).1) (over || (cnt k (dep + 1) (room - m)).2) (by omega) (by omega)
      refine ⟨by rw [hr.1, hk.1]; omega, fun hl => ?_⟩
      rw [hr.2 hl]
      have : (cnt k (dep + 1) (room - m)).1 ≤ room - m := by
        have := hr.1; omega
      rw [hk.2 this, Bool.or_assoc]
end
theorem nodesE_eq (t : T) : nodesE t = min (sz t 1) 61 := (cnt_eq t 1 60 (by omega)).1
theorem nodesE_kn (t : T) : nodesE t = kn t 1 0 := by rw [nodesE_eq, kn_eq t 1 0 (by omega)]; omega
theorem fitsB_eq (t : T) : fitsB t = (decide (nodesE t ≤ 60) && !dp t 1) := by
  have h := cnt_eq t 1 60 (by omega)
  unfold fitsB nodesE
  by_cases h1 : (cnt t 1 60).1 ≤ 60
  · rw [h.2 h1]
  · rw [decide_eq_false h1]; rfl
theorem fitsB_sz (t : T) : fitsB t = (decide (sz t 1 ≤ 60) && !dp t 1) := by
  rw [fitsB_eq, nodesE_eq]
  congr 1
  exact decide_eq_decide.2 (by omega)
theorem dpK_drop {ks : List T} {k : Nat} {u : T} {dep : Int} (h : ks[k]? = some u) : dpK (ks.drop k) dep = (dp u (dep + 1) || dpK (ks.drop (k + 1)) dep) := by rw [drop_at h, dpK]
end Go.Proofs.Ytdjllpejonfpgaa.Ex
