/- The walk of dom.Part. -/
import Derived.Test.YtjfomoehedhodaaBack
namespace Go.Proofs.Ytjfomoehedhodaa
open Go.RowKit Go.WideMaps Go.Maps
set_option linter.unusedSimpArgs false
set_option linter.unusedVariables false

def pickL (env : Bool) : List V → List Int → List Int
  | v :: r, x :: xs => (if v.env = env then x else v.lo) :: pickL env r xs
  | _, _ => []
theorem pickL_length (env : Bool) : ∀ (l : List V) (xs : List Int), xs.length = l.length → (pickL env l xs).length = l.length
  | [], [], _ => rfl
  | [], _ :: _, h => by simp at h
  | _ :: _, [], h => by simp at h
  | v :: r, x :: xs, h => by simp [pickL, pickL_length env r xs (by simpa using h)]
theorem pickL_at (env : Bool) : ∀ (l : List V) (xs : List Int) (k : Nat) (v : V) (x : Int), l[k]? = some v → xs[k]? = some x → (pickL env l xs)[k]? = some (if v.env = env then x else v.lo)
  | [], _, k, v, x, h, _ => by simp at h
  | _ :: _, [], k, v, x, _, h => by simp at h
  | u :: r, y :: ys, 0, v, x, h1, h2 => by simp at h1 h2; subst h1; subst h2; simp [pickL]
  | u :: r, y :: ys, k + 1, v, x, h1, h2 => by
    simp only [pickL, List.getElem?_cons_succ]
    exact pickL_at env r ys k v x (by simpa using h1) (by simpa using h2)
theorem has_pick (env : Bool) : ∀ (l : List V) (xs : List Int), (∀ v ∈ l, v.may = 0) → hasAll l xs = true → hasAll l (pickL env l xs) = true
  | [], _, _, _ => by simp [hasAll]
  | _ :: _, [], _, _ => by simp [hasAll, pickL]
  | v :: r, x :: xs, h, ha => by
    rw [hasAll, Bool.and_eq_true] at ha
    rw [pickL, hasAll, has_pick env r xs (fun u hu => h u (by simp [hu])) ha.2, Bool.and_true]
    split
    · exact ha.1
    · have := size_pos (h v (by simp))
      simp [hasB]; omega
def goodS (l : List V) (s : Int) : Bool := decide (mayL l = 0 ∧ 0 ≤ s ∧ s < totL l)
def partL (l : List V) (s : Int) (env : Bool) : Int := if goodS l s = true then numL l (pickL env l (valsL l s)) else -1
theorem goodS_true {l : List V} {s : Int} (h : goodS l s = true) : mayL l = 0 ∧ 0 ≤ s ∧ s < totL l := by simpa [goodS] using h
theorem goodS_false {l : List V} {s : Int} (h : goodS l s = false) : mayL l ≠ 0 ∨ s < 0 ∨ totL l ≤ s := by
  have : ¬ (mayL l = 0 ∧ 0 ≤ s ∧ s < totL l) := by simpa [goodS] using h
  omega

def mixV (ys xs : List Int) (k i : Nat) : Value := .int .i64 (if i < k then ys.getD i 0 else xs.getD i 0)
theorem mix_step {ys xs : List Int} {k : Nat} {y : Int} (h : ys[k]? = some y) (i : Nat) : (if i = k then Value.int .i64 y else mixV ys xs k i) = mixV ys xs (k + 1) i := by
  unfold mixV
  by_cases e : i = k
  · subst e; simp [List.getD, h]
  · rw [if_neg e]
    by_cases e2 : i < k
    · rw [if_pos e2, if_pos (by omega)]
    · rw [if_neg e2, if_neg (by omega)]
theorem mix_same {ys xs : List Int} {k : Nat} {y : Int} (h : ys[k]? = some y) (h2 : xs[k]? = some y) (i : Nat) : mixV ys xs k i = mixV ys xs (k + 1) i := by
  unfold mixV
  by_cases e : i = k
  · subst e; simp [List.getD, h, h2]
  · by_cases e2 : i < k
    · rw [if_pos e2, if_pos (by omega)]
    · rw [if_neg e2, if_neg (by omega)]

set_option maxHeartbeats 1000000 in
theorem part_any (A : Option Addr) (n c B : Nat) (l : List V) (s : Int) (env : Bool) (w : World) (hm : n ≤ maxLen) (hB : B ≤ w.heap.size) (hv : RV w B A n l) (hnm : ∀ v ∈ l, v.nm.size ≤ maxLen) :
    Calls Try.prog 24 #[.slice A n c, .int .i64 s, .bool env] w fun e w' => e = .returned (.int .i64 (partL l s env)) ∧ Below w.heap.size w w' := by
  have Hm := hide hm
  have Hn := hide hv.1
  have Hv := hide hv; clear hv
  have Hnm := hide hnm; clear hnm
  cases hg : goodS l s
  · have Hr : Hid (partL l s env = -1) := hide (by unfold partL; rw [hg]; rfl)
    have Hg := hide (goodS_false hg)
    clear hg hm
    go_enter Try.func24, Try.ntmps24
    go_wp2_with fail
    refine (vals_bad A n c B l s _ Hm.out hB Hv.out Hnm.out Hg.out).mono ?_
    rintro e w1 ⟨rfl, hb1⟩
    go_wp2_with fail
    go_ret
    exact ⟨ret_int Hr.out.symm, hb1⟩
  · obtain ⟨hM, hs0, hs1⟩ := goodS_true hg
    have Hr : Hid (partL l s env = numL l (pickL env l (valsL l s))) := hide (by unfold partL; rw [hg]; rfl)
    have ht := (mayL_zero hM).2
    have hn6 : n ≤ 6 := by have := totL_len ht; rw [Hn.out] at this; exact this
    have Ht := hide ht
    have Hall := hide (mayL_all hM)
    have Hha := hide (has_pick env l _ Hall.out (has_vals l s Hall.out))
    have Hl1 := hide ((valsL_length l s).trans Hn.out)
    have Hl2 := hide ((pickL_length env l _ (valsL_length l s)).trans Hn.out)
    have HM := hide hM
    clear hg hm ht hM
    go_enter Try.func24, Try.ntmps24
    go_wp2_with fail
    refine (vals_good A n c B l s _ hB Hv.out Hnm.out HM.out hs0 hs1).mono ?_
    rintro e w1 ⟨g, rfl, hg, hrow, hb1⟩
    have Hpk := hide (fun (k : Nat) (v : V) (x : Int) (h1 : l[k]? = some v) (h2 : (valsL l s)[k]? = some x) => pickL_at env l _ k v x h1 h2)
    generalize valsL l s = xs at *
    generalize hys : pickL env l xs = ys at *
    have Hys := hide hys; clear hys
    go_wp2_with fail
    go_loopw [21] (fun i wr => ∃ (k : Nat), k ≤ n ∧ i = .int .i64 k ∧ wr.rowIs g 3 n (mixV ys xs k) ∧ Below w.heap.size w wr) (fun i _ => n - (intOf i).toNat)
    case atStart => exact ⟨0, Nat.zero_le _, rfl, hrow.congr (fun i hi => by simp [mixV]), hb1⟩
    case round =>
      obtain ⟨k, hk, rfl, hrw, hb⟩ := hrel
      by_cases hlt : k < n
      · have hlt' : ((k : Int) < (n : Int)) := by omega
        obtain ⟨b, off, v, rfl, hbB, hlk, c0, c1, c2, c3, c4⟩ := (Hv.out.below (hb.mono hB)).at_ hlt
        obtain ⟨x, hx⟩ : ∃ x, xs[k]? = some x := ⟨xs[k]'(by rw [Hl1.out]; exact hlt), List.getElem?_eq_getElem _⟩
        have hyk := Hpk.out k v x hlk hx
        have hsz := hb.size
        have hglt := hrw.lt
        by_cases he : v.env = env
        · rw [if_pos he] at hyk
          have heb : (!(v.env == env)) = false := by simp [he]
          have hrw2 : (wr.alloc (.cells #[.string v.nm, .bool v.env, .int .i64 v.srt, .int .i64 v.lo, .int .i64 v.hi] 36)).rowIs g 3 n (mixV ys xs (k + 1)) := (hrw.alloc _).congr (fun i _ => mix_same hyk hx i)
          have Hrw2 := hide hrw2
          have hbx : Below w.heap.size w (wr.alloc (.cells #[.string v.nm, .bool v.env, .int .i64 v.srt, .int .i64 v.lo, .int .i64 v.hi] 36)) := hb.alloc hsz _
          clear he hyk hlk hx hrw hrw2
          go_wp2_with fail
          go_roundw
          case rel => exact ⟨k + 1, by omega, by go_num, Hrw2.out, hbx⟩
          case measure => simp [intOf]; omega
        · rw [if_neg he] at hyk
          have heb : (!(v.env == env)) = true := by simp [he]
          have hrw1 := hrw.alloc (.cells #[.string v.nm, .bool v.env, .int .i64 v.srt, .int .i64 v.lo, .int .i64 v.hi] 36)
          obtain ⟨u, hu⟩ : ∃ u, (wr.alloc (.cells #[.string v.nm, .bool v.env, .int .i64 v.srt, .int .i64 v.lo, .int .i64 v.hi] 36)).cell? ⟨g, k, none⟩ = some u := ⟨_, hrw1.cell hlt⟩
          have hfz := hrw1.frozen k
          have Hrw2 := hide (((hrw.set k (.int .i64 v.lo)).congr (fun i _ => mix_step (xs := xs) hyk i)).alloc (.cells #[.string v.nm, .bool v.env, .int .i64 v.srt, .int .i64 v.lo, .int .i64 v.hi] 36))
          have hbx : Below w.heap.size w ((wr.setCell ⟨g, k, none⟩ (.int .i64 v.lo)).alloc (.cells #[.string v.nm, .bool v.env, .int .i64 v.srt, .int .i64 v.lo, .int .i64 v.hi] 36)) := (hb.setCell (by show w.heap.size ≤ g; omega) _).alloc (by simp [World.setCell]; omega) _
          clear he hyk hlk hx hrw hrw1
          go_wp2_with fail
          go_roundw
          case rel => exact ⟨k + 1, by omega, by go_num, Hrw2.out, hbx⟩
          case measure => simp [intOf]; omega
      · have hlt' : ¬ ((k : Int) < (n : Int)) := by omega
        have hsz := hb.size
        have hri : RI wr wr.heap.size (some ⟨g, 0, none⟩) n ys := row_ri (hrw.congr (fun i hi => by simp [mixV, show i < k by omega])) Hl2.out
        have Hri := hide hri
        clear hri hrw
        go_wp2_with fail
        refine (num_any A n c wr.heap.size l _ n ys _ (Nat.le_refl _) ((Hv.out.below (hb.mono hB)).more (by omega)) Hri.out Hall.out Ht.out Hha.out).mono ?_
        rintro e w3 ⟨rfl, hb3⟩
        have hbw3 := hb.trans (hb3.mono hsz)
        go_wp2_with fail
        go_ret
        exact ⟨ret_int Hr.out.symm, hbw3⟩
end Go.Proofs.Ytjfomoehedhodaa
