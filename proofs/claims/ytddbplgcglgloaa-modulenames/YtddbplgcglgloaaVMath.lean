/- The plain mathematics of package dom's functions: no program is named here. -/
import GoSem.Claim
namespace Go.Proofs.Ytddbplgcglgloaa.Dom

structure V where
  nm : ByteArray
  env : Bool
  srt : Int
  lo : Int
  hi : Int

def rangeB (lo hi : Int) : Bool := decide (-1000 ≤ lo ∧ lo ≤ hi ∧ hi ≤ 1000)
def sizeOfV (srt lo hi : Int) : Int := if srt = 1 then 2 else if srt = 2 ∧ rangeB lo hi = true then hi - lo + 1 else 0
def mayOfV (srt lo hi : Int) : Int := if srt = 1 then (if lo = 0 ∧ hi = 0 then 0 else 6) else if srt = 2 then (if rangeB lo hi = true then 0 else 6) else 4
def V.size (v : V) : Int := sizeOfV v.srt v.lo v.hi
def V.may (v : V) : Int := mayOfV v.srt v.lo v.hi
theorem range_true {lo hi : Int} (h : rangeB lo hi = true) : -1000 ≤ lo ∧ lo ≤ hi ∧ hi ≤ 1000 := by simpa [rangeB] using h
theorem range_false {lo hi : Int} (h : rangeB lo hi = false) : ¬ (-1000 ≤ lo ∧ lo ≤ hi ∧ hi ≤ 1000) := by simpa [rangeB] using h
theorem size_bd (s lo hi : Int) : 0 ≤ sizeOfV s lo hi ∧ sizeOfV s lo hi ≤ 2001 := by
  unfold sizeOfV
  split
  · omega
  · split
    · rename_i h; have := range_true h.2; omega
    · omega
theorem size_pos {s lo hi : Int} (h : mayOfV s lo hi = 0) : 1 ≤ sizeOfV s lo hi := by
  unfold mayOfV at h; unfold sizeOfV
  split at h
  · rename_i h1; rw [if_pos h1]; omega
  · rename_i h1; rw [if_neg h1]
    split at h
    · rename_i h2
      split at h
      · rename_i h3; rw [if_pos ⟨h2, h3⟩]; have := range_true h3; omega
      · omega
    · omega
theorem may_lo {s lo hi : Int} (h : mayOfV s lo hi = 0) : -1000 ≤ lo ∧ lo ≤ 1000 := by
  unfold mayOfV at h
  split at h
  · split at h
    · omega
    · omega
  · split at h
    · split at h
      · rename_i h3; have := range_true h3; omega
      · omega
    · omega
theorem may_vals (s lo hi : Int) : mayOfV s lo hi = 0 ∨ mayOfV s lo hi = 4 ∨ mayOfV s lo hi = 6 := by
  unfold mayOfV; repeat' split
  all_goals simp

end Go.Proofs.Ytddbplgcglgloaa.Dom
