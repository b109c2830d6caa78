/- The walk of the statement DomBack. The walk of dom.Part. The walk of dom.With. Numbers behind the statement DomParts. The walks of the reference's State and SameInts. The walks of the reference's With and Part. -/
import Derived.Test.YtbppdalfcldodaaGreatGNum
import Derived.Test.YtbppdalfcldodaaGreatGRef
import Derived.Lib.QuietBelow
namespace Go.Proofs.YtbppdalfcldodaaGreat.Dom
open Go.RowKit Go.WideMaps Go.Maps
set_option linter.unusedSimpArgs false
set_option linter.unusedVariables false

theorem has_vals : ∀ (l : List V) (s : Int), (∀ v ∈ l, v.may = 0) → hasAll l (valsL l s) = true
  | [], _, _ => by simp [hasAll, valsL]
  | v :: r, s, h => by
    have h1 : 1 ≤ v.size := size_pos (h v (by simp))
    rw [valsL, hasAll, has_vals r _ (fun u hu => h u (by simp [hu])), Bool.and_true]
    unfold hasB
    have h2 := Int.emod_nonneg s (show v.size ≠ 0 by omega)
    have h3 := Int.emod_lt_of_pos s (show 0 < v.size by omega)
    have h4 : sizeOfV v.srt v.lo v.hi = v.size := rfl
    rw [h4]; simp; omega
theorem num_vals : ∀ (l : List V) (s : Int), (∀ v ∈ l, v.may = 0) → 0 ≤ s → s < prodV l → numL l (valsL l s) = s
  | [], s, _, h0, h1 => by simp [prodV] at h1; simp [numL, valsL]; omega
  | v :: r, s, h, h0, h1 => by
    have h2 : 1 ≤ v.size := size_pos (h v (by simp))
    rw [prodV] at h1
    have h3 : 0 ≤ s / v.size := Int.ediv_nonneg h0 (by omega)
    have h4 : s / v.size < prodV r := by
      rw [Int.ediv_lt_iff_lt_mul (by omega), Int.mul_comm]; exact h1
    rw [valsL, numL, num_vals r _ (fun u hu => h u (by simp [hu])) h3 h4]
    have := Int.mul_ediv_add_emod s v.size
    omega
end Go.Proofs.YtbppdalfcldodaaGreat.Dom
namespace Go.Proofs.YtbppdalfcldodaaGreat.Dom
open Go.RowKit Go.WideMaps Go.Maps
set_option linter.unusedSimpArgs false
set_option linter.unusedVariables false

def pickL (env : Bool) : List V → List Int → List Int
  | v :: r, x :: xs => (if v.env = env then x else v.lo) :: pickL env r xs
  | _, _ => []
theorem pickL_length (env : Bool) : ∀ (l : List V) (xs : List Int), xs.length = l.length → (pickL env l xs).length = l.length
  | [], [], _ => rfl
  | [], _ :: _, h => by simp at h
  | _ :: _, [], h => by simp at h
  | v :: r, x :: xs, h => by simp [pickL, pickL_length env r xs (by simpa using h)]
theorem pickL_at (env : Bool) : ∀ (l : List V) (xs : List Int) (k : Nat) (v : V) (x : Int), l[k]? = some v → xs[k]? = some x → (pickL env l xs)[k]? = some (if v.env = env then x else v.lo)
  | [], _, k, v, x, h, _ => by simp at h
  | _ :: _, [], k, v, x, _, h => by simp at h
  | u :: r, y :: ys, 0, v, x, h1, h2 => by simp at h1 h2; subst h1; subst h2; simp [pickL]
  | u :: r, y :: ys, k + 1, v, x, h1, h2 => by
    simp only [pickL, List.getElem?_cons_succ]
    exact pickL_at env r ys k v x (by simpa using h1) (by simpa using h2)
theorem has_pick (env : Bool) : ∀ (l : List V) (xs : List Int), (∀ v ∈ l, v.may = 0) → hasAll l xs = true → hasAll l (pickL env l xs) = true
  | [], _, _, _ => by simp [hasAll]
  | _ :: _, [], _, _ => by simp [hasAll, pickL]
  | v :: r, x :: xs, h, ha => by
    rw [hasAll, Bool.and_eq_true] at ha
    rw [pickL, hasAll, has_pick env r xs (fun u hu => h u (by simp [hu])) ha.2, Bool.and_true]
    split
    · exact ha.1
    · have := size_pos (h v (by simp))
      simp [hasB]; omega
def goodS (l : List V) (s : Int) : Bool := decide (mayL l = 0 ∧ 0 ≤ s ∧ s < totL l)
def partL (l : List V) (s : Int) (env : Bool) : Int := if goodS l s = true then numL l (pickL env l (valsL l s)) else -1
theorem goodS_true {l : List V} {s : Int} (h : goodS l s = true) : mayL l = 0 ∧ 0 ≤ s ∧ s < totL l := by simpa [goodS] using h
theorem goodS_false {l : List V} {s : Int} (h : goodS l s = false) : mayL l ≠ 0 ∨ s < 0 ∨ totL l ≤ s := by
  have : ¬ (mayL l = 0 ∧ 0 ≤ s ∧ s < totL l) := by simpa [goodS] using h
  omega

def mixV (ys xs : List Int) (k i : Nat) : Value := .int .i64 (if i < k then ys.getD i 0 else xs.getD i 0)
theorem mix_step {ys xs : List Int} {k : Nat} {y : Int} (h : ys[k]? = some y) (i : Nat) : (if i = k then Value.int .i64 y else mixV ys xs k i) = mixV ys xs (k + 1) i := by
  unfold mixV
  by_cases e : i = k
  · subst e; simp [List.getD, h]
  · rw [if_neg e]
    by_cases e2 : i < k
    · rw [if_pos e2, if_pos (by omega)]
    · rw [if_neg e2, if_neg (by omega)]
theorem mix_same {ys xs : List Int} {k : Nat} {y : Int} (h : ys[k]? = some y) (h2 : xs[k]? = some y) (i : Nat) : mixV ys xs k i = mixV ys xs (k + 1) i := by
  unfold mixV
  by_cases e : i = k
  · subst e; simp [List.getD, h, h2]
  · by_cases e2 : i < k
    · rw [if_pos e2, if_pos (by omega)]
    · rw [if_neg e2, if_neg (by omega)]

set_option maxHeartbeats 1000000 in
theorem part_any (A : Option Addr) (n c B : Nat) (l : List V) (s : Int) (env : Bool) (w : World) (hm : n ≤ maxLen) (hB : B ≤ w.heap.size) (hv : RV w B A n l) (hnm : ∀ v ∈ l, v.nm.size ≤ maxLen) :
    Calls Tryz.prog 62 #[.slice A n c, .int .i64 s, .bool env] w fun e w' => e = .returned (.int .i64 (partL l s env)) ∧ Below w.heap.size w w' := by
  have Hm := hide hm
  have Hn := hide hv.1
  have Hv := hide hv; clear hv
  have Hnm := hide hnm; clear hnm
  cases hg : goodS l s
  · have Hr : Hid (partL l s env = -1) := hide (by unfold partL; rw [hg]; rfl)
    have Hg := hide (goodS_false hg)
    clear hg hm
    go_enter Tryz.func62, Tryz.ntmps62
    go_wp2_with fail
    refine (vals_bad A n c B l s _ Hm.out hB Hv.out Hnm.out Hg.out).mono ?_
    rintro e w1 ⟨rfl, hb1⟩
    go_wp2_with fail
    go_ret
    exact ⟨ret_int Hr.out.symm, hb1⟩
  · obtain ⟨hM, hs0, hs1⟩ := goodS_true hg
    have Hr : Hid (partL l s env = numL l (pickL env l (valsL l s))) := hide (by unfold partL; rw [hg]; rfl)
    have ht := (mayL_zero hM).2
    have hn6 : n ≤ 6 := by have := totL_len ht; rw [Hn.out] at this; exact this
    have Ht := hide ht
    have Hall := hide (mayL_all hM)
    have Hha := hide (has_pick env l _ Hall.out (has_vals l s Hall.out))
    have Hl1 := hide ((valsL_length l s).trans Hn.out)
    have Hl2 := hide ((pickL_length env l _ (valsL_length l s)).trans Hn.out)
    have HM := hide hM
    clear hg hm ht hM
    go_enter Tryz.func62, Tryz.ntmps62
    go_wp2_with fail
    refine (vals_good A n c B l s _ hB Hv.out Hnm.out HM.out hs0 hs1).mono ?_
    rintro e w1 ⟨g, rfl, hg, hrow, hb1⟩
    have Hpk := hide (fun (k : Nat) (v : V) (x : Int) (h1 : l[k]? = some v) (h2 : (valsL l s)[k]? = some x) => pickL_at env l _ k v x h1 h2)
    generalize valsL l s = xs at *
    generalize hys : pickL env l xs = ys at *
    have Hys := hide hys; clear hys
    go_wp2_with fail
    go_loopw [21] (fun i wr => ∃ (k : Nat), k ≤ n ∧ i = .int .i64 k ∧ wr.rowIs g 3 n (mixV ys xs k) ∧ Below w.heap.size w wr) (fun i _ => n - (intOf i).toNat)
    case atStart => exact ⟨0, Nat.zero_le _, rfl, hrow.congr (fun i hi => by simp [mixV]), hb1⟩
    case round =>
      obtain ⟨k, hk, rfl, hrw, hb⟩ := hrel
      by_cases hlt : k < n
      · have hlt' : ((k : Int) < (n : Int)) := by omega
        obtain ⟨b, off, v, rfl, hbB, hlk, c0, c1, c2, c3, c4⟩ := (Hv.out.below (hb.mono hB)).at_ hlt
        obtain ⟨x, hx⟩ : ∃ x, xs[k]? = some x := ⟨xs[k]'(by rw [Hl1.out]; exact hlt), List.getElem?_eq_getElem _⟩
        have hyk := Hpk.out k v x hlk hx
        have hsz := hb.size
        have hglt := hrw.lt
        by_cases he : v.env = env
        · rw [if_pos he] at hyk
          have heb : (!(v.env == env)) = false := by simp [he]
          have hrw2 : (wr.alloc (.cells #[.string v.nm, .bool v.env, .int .i64 v.srt, .int .i64 v.lo, .int .i64 v.hi] 103)).rowIs g 3 n (mixV ys xs (k + 1)) := (hrw.alloc _).congr (fun i _ => mix_same hyk hx i)
          have Hrw2 := hide hrw2
          have hbx : Below w.heap.size w (wr.alloc (.cells #[.string v.nm, .bool v.env, .int .i64 v.srt, .int .i64 v.lo, .int .i64 v.hi] 103)) := hb.alloc hsz _
          clear he hyk hlk hx hrw hrw2
          go_wp2_with fail
          go_roundw
          case rel => exact ⟨k + 1, by omega, by go_num, Hrw2.out, hbx⟩
          case measure => simp [intOf]; omega
        · rw [if_neg he] at hyk
          have heb : (!(v.env == env)) = true := by simp [he]
          have hrw1 := hrw.alloc (.cells #[.string v.nm, .bool v.env, .int .i64 v.srt, .int .i64 v.lo, .int .i64 v.hi] 103)
          obtain ⟨u, hu⟩ : ∃ u, (wr.alloc (.cells #[.string v.nm, .bool v.env, .int .i64 v.srt, .int .i64 v.lo, .int .i64 v.hi] 103)).cell? ⟨g, k, none⟩ = some u := ⟨_, hrw1.cell hlt⟩
          have hfz := hrw1.frozen k
          have Hrw2 := hide (((hrw.set k (.int .i64 v.lo)).congr (fun i _ => mix_step (xs := xs) hyk i)).alloc (.cells #[.string v.nm, .bool v.env, .int .i64 v.srt, .int .i64 v.lo, .int .i64 v.hi] 103))
          have hbx : Below w.heap.size w ((wr.setCell ⟨g, k, none⟩ (.int .i64 v.lo)).alloc (.cells #[.string v.nm, .bool v.env, .int .i64 v.srt, .int .i64 v.lo, .int .i64 v.hi] 103)) := (hb.setCell (by show w.heap.size ≤ g; omega) _).alloc (by simp [World.setCell]; omega) _
          clear he hyk hlk hx hrw hrw1
          go_wp2_with fail
          go_roundw
          case rel => exact ⟨k + 1, by omega, by go_num, Hrw2.out, hbx⟩
          case measure => simp [intOf]; omega
      · have hlt' : ¬ ((k : Int) < (n : Int)) := by omega
        have hsz := hb.size
        have hri : RI wr wr.heap.size (some ⟨g, 0, none⟩) n ys := row_ri (hrw.congr (fun i hi => by simp [mixV, show i < k by omega])) Hl2.out
        have Hri := hide hri
        clear hri hrw
        go_wp2_with fail
        refine (num_any A n c wr.heap.size l _ n ys _ (Nat.le_refl _) ((Hv.out.below (hb.mono hB)).more (by omega)) Hri.out Hall.out Ht.out Hha.out).mono ?_
        rintro e w3 ⟨rfl, hb3⟩
        have hbw3 := hb.trans (hb3.mono hsz)
        go_wp2_with fail
        go_ret
        exact ⟨ret_int Hr.out.symm, hbw3⟩
end Go.Proofs.YtbppdalfcldodaaGreat.Dom
namespace Go.Proofs.YtbppdalfcldodaaGreat.Dom
open Go.RowKit Go.WideMaps Go.Maps
set_option linter.unusedSimpArgs false
set_option linter.unusedVariables false

def hasAt (l : List V) (i x : Int) : Bool := if i < 0 then false else match l[i.toNat]? with
  | some v => hasB v.srt v.lo v.hi x
  | none => false
def withOk (l : List V) (s i x : Int) : Bool := goodS l s && hasAt l i x
def withV (l : List V) (s i x : Int) : Int := if withOk l s i x = true then numL l ((valsL l s).set i.toNat x) else 0
theorem has_set : ∀ (l : List V) (xs : List Int) (k : Nat) (v : V) (x : Int), hasAll l xs = true → l[k]? = some v → hasB v.srt v.lo v.hi x = true → hasAll l (xs.set k x) = true
  | [], _, k, v, x, _, _, _ => by simp [hasAll]
  | _ :: _, [], k, v, x, _, _, _ => by simp [hasAll]
  | u :: r, y :: ys, 0, v, x, ha, h1, h2 => by
    simp at h1; subst h1
    rw [hasAll, Bool.and_eq_true] at ha
    simp [hasAll, h2, ha.2]
  | u :: r, y :: ys, k + 1, v, x, ha, h1, h2 => by
    rw [hasAll, Bool.and_eq_true] at ha
    simp only [List.set_cons_succ, hasAll, ha.1, Bool.true_and]
    exact has_set r ys k v x ha.2 (by simpa using h1) h2
theorem set_val {xs : List Int} {k n : Nat} {x : Int} (hl : xs.length = n) (hk : k < n) (i : Nat) (hi : i < n) : (if i = k then Value.int .i64 x else .int .i64 (xs.getD i 0)) = .int .i64 ((xs.set k x).getD i 0) := by
  by_cases e : i = k
  · subst e; simp [List.getD, hl, hk]
  · rw [if_neg e]; simp [List.getD, List.getElem?_set, Ne.symm e]

set_option maxHeartbeats 1000000 in
theorem with_any (A : Option Addr) (n c B : Nat) (l : List V) (s i x : Int) (w : World) (hm : n ≤ maxLen) (hB : B ≤ w.heap.size) (hv : RV w B A n l) (hnm : ∀ v ∈ l, v.nm.size ≤ maxLen) :
    Calls Tryz.prog 112 #[.slice A n c, .int .i64 s, .int .i64 i, .int .i64 x] w fun e w' => e = .returned (.tuple #[.int .i64 (withV l s i x), .bool (withOk l s i x)]) ∧ Below w.heap.size w w' := by
  have Hm := hide hm
  have Hn := hide hv.1
  have Hv := hide hv; clear hv
  have Hnm := hide hnm; clear hnm
  have Hno : Hid (withOk l s i x = false → Value.tuple #[.int .i64 (withV l s i x), .bool (withOk l s i x)] = Value.tuple #[.int .i64 0, .bool false]) := hide (fun h => by unfold withV; rw [h]; rfl)
  cases hg : goodS l s
  · have Hr : Hid (withOk l s i x = false) := hide (by unfold withOk; rw [hg]; rfl)
    have Hg := hide (goodS_false hg)
    clear hg hm
    go_enter Tryz.func112, Tryz.ntmps112
    go_wp2_with fail
    refine (vals_bad A n c B l s _ Hm.out hB Hv.out Hnm.out Hg.out).mono ?_
    rintro e w1 ⟨rfl, hb1⟩
    go_wp2_with fail
    go_ret2
    exact ⟨by rw [Hno.out Hr.out]; rfl, hb1⟩
  · obtain ⟨hM, hs0, hs1⟩ := goodS_true hg
    have ht := (mayL_zero hM).2
    have hn6 : n ≤ 6 := by have := totL_len ht; rw [Hn.out] at this; exact this
    have Ht := hide ht
    have Hall := hide (mayL_all hM)
    have Hl1 := hide ((valsL_length l s).trans Hn.out)
    have Hha := hide (has_vals l s Hall.out)
    have HM := hide hM
    clear hm ht hM
    by_cases hi0 : i < 0
    · have hi0b : decide (i < 0) = true := by simp [hi0]
      have Hr : Hid (withOk l s i x = false) := hide (by simp [withOk, hasAt, hi0])
      clear hg hi0
      go_enter Tryz.func112, Tryz.ntmps112
      go_wp2_with fail
      refine (vals_good A n c B l s _ hB Hv.out Hnm.out HM.out hs0 hs1).mono ?_
      rintro e w1 ⟨g, rfl, hg, hrow, hb1⟩
      go_wp2_with fail
      go_ret2
      exact ⟨by rw [Hno.out Hr.out]; rfl, hb1⟩
    · have hi0b : decide (i < 0) = false := by simp; omega
      by_cases hin : (n : Int) ≤ i
      · have hinb : decide ((n : Int) ≤ i) = true := by simp [hin]
        have Hr : Hid (withOk l s i x = false) := hide (by
          have : l[i.toNat]? = none := List.getElem?_eq_none (by rw [Hn.out]; omega)
          simp [withOk, hasAt, hi0, this])
        clear hg hi0
        go_enter Tryz.func112, Tryz.ntmps112
        go_wp2_with fail
        refine (vals_good A n c B l s _ hB Hv.out Hnm.out HM.out hs0 hs1).mono ?_
        rintro e w1 ⟨g, rfl, hg, hrow, hb1⟩
        go_wp2_with fail
        go_ret2
        exact ⟨by rw [Hno.out Hr.out]; rfl, hb1⟩
      · have hinb : decide ((n : Int) ≤ i) = false := by simp; omega
        obtain ⟨k, rfl⟩ := Int.eq_ofNat_of_zero_le (show 0 ≤ i by omega)
        have hk : k < n := by omega
        obtain ⟨v, hlk⟩ : ∃ v, l[k]? = some v := ⟨l[k]'(by rw [Hn.out]; exact hk), List.getElem?_eq_getElem _⟩
        have Hok : Hid (withOk l s k x = hasB v.srt v.lo v.hi x) := hide (by simp [withOk, hasAt, hg, hlk, show ¬ (k : Int) < 0 by omega])
        have Hmay := hide (Hall.out v (List.mem_of_getElem? hlk))
        have Hlk := hide hlk
        clear hg hi0 hlk
        have hk' : (k : Int) < (n : Int) := by omega
        go_enter Tryz.func112, Tryz.ntmps112
        go_wp2_with fail
        refine (vals_good A n c B l s _ hB Hv.out Hnm.out HM.out hs0 hs1).mono ?_
        rintro e w1 ⟨g, rfl, hg, hrow, hb1⟩
        have Hrow := hide hrow; clear hrow
        obtain ⟨b, off, v', rfl, hbB, hlk', c0, c1, c2, c3, c4⟩ := (Hv.out.below (hb1.mono hB)).at_ hk
        obtain rfl : v' = v := by have h1 := Hlk.out; rw [hlk'] at h1; injection h1
        clear hlk'
        have hz1 := hb1.size
        go_wp2_with fail
        refine (has_any _ _ _ _ _ _ _ Hmay.out).mono ?_
        rintro e w2 ⟨rfl, hb2⟩
        have hz2 := hb2.size
        have hbw2 := hb1.trans (hb2.mono hz1)
        have Hv2 := hide (Hv.out.below (hbw2.mono hB))
        have hglt := Hrow.out.lt
        have hrow2 : w2.rowIs g 3 n (fun i => .int .i64 ((valsL l s).getD i 0)) := Hrow.out.of_block (hb2.block g hglt)
        clear c0 c1 c2 c3 c4 Hrow hb2
        cases hh : hasB v'.srt v'.lo v'.hi x
        · have Hr : Hid (withOk l s k x = false) := hide (by rw [Hok.out, hh])
          clear hh hrow2
          go_wp2_with fail
          go_ret2
          exact ⟨by rw [Hno.out Hr.out]; rfl, hbw2⟩
        · have Hr : Hid (Value.tuple #[.int .i64 (withV l s k x), .bool (withOk l s k x)] = Value.tuple #[.int .i64 (numL l ((valsL l s).set k x)), .bool true]) := hide (by unfold withV; rw [Hok.out, hh]; rfl)
          have Hs := hide (has_set l _ k v' x Hha.out Hlk.out hh)
          obtain ⟨u, hu⟩ : ∃ u, w2.cell? ⟨g, k, none⟩ = some u := ⟨_, hrow2.cell hk⟩
          have hfz := hrow2.frozen k
          have hri : RI (w2.setCell ⟨g, k, none⟩ (.int .i64 x)) w2.heap.size (some ⟨g, 0, none⟩) n ((valsL l s).set k x) := by
            have := row_ri ((hrow2.set k (.int .i64 x)).congr (fun i hi => set_val Hl1.out hk i hi)) (by simp [Hl1.out])
            simpa [World.setCell] using this
          have Hri := hide hri
          have hbw3 : Below w.heap.size w (w2.setCell ⟨g, k, none⟩ (.int .i64 x)) := hbw2.setCell (by exact hg) _
          have Hv3 := hide (((Hv.out.below (hbw3.mono hB))).more (show B ≤ w2.heap.size by omega))
          have hz3 : w2.heap.size ≤ (w2.setCell ⟨g, k, none⟩ (.int .i64 x)).heap.size := by simp [World.setCell]
          clear hh hrow2 hri
          go_wp2_with fail
          refine (num_any _ n c w2.heap.size l _ n _ _ hz3 Hv3.out Hri.out Hall.out Ht.out Hs.out).mono ?_
          rintro e w4 ⟨rfl, hb4⟩
          have hbw4 := hbw3.trans (hb4.mono (by omega))
          go_wp2_with fail
          go_ret2
          exact ⟨by rw [Hr.out]; rfl, hbw4⟩
end Go.Proofs.YtbppdalfcldodaaGreat.Dom
namespace Go.Proofs.YtbppdalfcldodaaGreat.Dom
open Go.RowKit
set_option linter.unusedSimpArgs false

theorem num_range : ∀ (l : List V) (xs : List Int), (∀ v ∈ l, v.may = 0) → hasAll l xs = true → xs.length = l.length → 0 ≤ numL l xs ∧ numL l xs < prodV l
  | [], [], _, _, _ => by simp [numL, prodV]
  | [], _ :: _, _, _, h => by simp at h
  | _ :: _, [], _, _, h => by simp at h
  | v :: r, x :: xs, h, ha, hl => by
    rw [hasAll, Bool.and_eq_true] at ha
    obtain ⟨h1, h2⟩ := num_range r xs (fun u hu => h u (by simp [hu])) ha.2 (by simpa using hl)
    obtain ⟨h3, h4⟩ := has_bd ha.1
    have h5 : 1 ≤ v.size := size_pos (h v (by simp))
    have h6 : sizeOfV v.srt v.lo v.hi = v.size := rfl
    rw [h6] at h4
    rw [numL, prodV]
    have h7 : 0 ≤ v.size * numL r xs := Int.mul_nonneg (by omega) h1
    have h8 : v.size * numL r xs ≤ v.size * (prodV r - 1) := Int.mul_le_mul_of_nonneg_left (by omega) (by omega)
    have h9 : v.size * (prodV r - 1) = v.size * prodV r - v.size := by rw [Int.mul_sub, Int.mul_one]
    omega
theorem vals_num : ∀ (l : List V) (xs : List Int), (∀ v ∈ l, v.may = 0) → hasAll l xs = true → xs.length = l.length → valsL l (numL l xs) = xs
  | [], [], _, _, _ => by simp [numL, valsL]
  | [], _ :: _, _, _, h => by simp at h
  | _ :: _, [], _, _, h => by simp at h
  | v :: r, x :: xs, h, ha, hl => by
    rw [hasAll, Bool.and_eq_true] at ha
    obtain ⟨h3, h4⟩ := has_bd ha.1
    have h5 : 1 ≤ v.size := size_pos (h v (by simp))
    have h6 : sizeOfV v.srt v.lo v.hi = v.size := rfl
    rw [h6] at h4
    rw [numL, valsL]
    have e1 : (x - v.lo + v.size * numL r xs) % v.size = x - v.lo := by
      rw [Int.add_mul_emod_self_left, Int.emod_eq_of_lt (by omega) (by omega)]
    have e2 : (x - v.lo + v.size * numL r xs) / v.size = numL r xs := by
      rw [Int.add_mul_ediv_left _ _ (by omega), Int.ediv_eq_zero_of_lt (by omega) (by omega), Int.zero_add]
    rw [e1, e2, vals_num r xs (fun u hu => h u (by simp [hu])) ha.2 (by simpa using hl)]
    congr 1; omega
/- what Part makes of a state is a state, with these values -/
theorem with_good {l : List V} {m i x : Int} (h : withOk l m i x = true) :
    0 ≤ withV l m i x ∧ withV l m i x < totL l ∧ valsL l (withV l m i x) = (valsL l m).set i.toNat x ∧ 0 ≤ i ∧ i < l.length ∧ goodS l m = true := by
  have hv : withV l m i x = numL l ((valsL l m).set i.toNat x) := by unfold withV; rw [h]; rfl
  simp only [withOk, Bool.and_eq_true] at h
  obtain ⟨hg, ha⟩ := h
  obtain ⟨hM, h0, h1⟩ := goodS_true hg
  have hall := mayL_all hM
  unfold hasAt at ha
  split at ha
  · cases ha
  · rename_i hi
    split at ha
    · rename_i v hlv
      have hh := has_set l _ i.toNat v x (has_vals l m hall) hlv ha
      have hl : ((valsL l m).set i.toNat x).length = l.length := by simp [valsL_length]
      obtain ⟨r1, r2⟩ := num_range l _ hall hh hl
      have hlt : i.toNat < l.length := (List.getElem?_eq_some_iff.1 hlv).1
      rw [hv, totL_prod (mayL_zero hM).2]
      exact ⟨r1, r2, vals_num l _ hall hh hl, by omega, by omega, hg⟩
    · cases ha
end Go.Proofs.YtbppdalfcldodaaGreat.Dom
namespace Go.Proofs.YtbppdalfcldodaaGreat.Dom
open Go.RowKit Go.WideMaps Go.Maps
set_option linter.unusedSimpArgs false
set_option linter.unusedVariables false

set_option maxRecDepth 100000 in
set_option maxHeartbeats 1000000 in
theorem rstate_any (A : Option Addr) (n c B : Nat) (l : List V) (Ai : Option Addr) (m ci : Nat) (xs : List Int) (w : World) (hm : n ≤ maxLen) (hnc : n ≤ c) (hc : c ≤ maxLen) (hm2 : m ≤ maxLen) (hB : B ≤ w.heap.size) (hv : RV w B A n l) (hi : RI w B Ai m xs) (hnm : ∀ v ∈ l, v.nm.size ≤ maxLen) :
    Calls Tryz.prog 109 #[.slice A n c, .slice Ai m ci] w fun e w' => e = .returned (.tuple #[.int .i64 (stateV l xs), .bool (stateOk l xs)]) ∧ Below w.heap.size w w' := by
  have Hm := hide hm
  have Hc := hide hc
  unfold maxLen at hm hm2
  have Hn := hide hv.1
  have Hx := hide hi.1
  have Hv := hide hv; clear hv
  have Hi := hide hi; clear hi
  have Hnm := hide hnm; clear hnm
  clear hc
  by_cases h1 : mayL l = 0
  · have h1b : (mayL l != 0) = false := by simp [h1]
    by_cases h2 : m = n
    · subst h2
      have h2b : ((m : Int) != (m : Int)) = false := by simp
      have ht := (mayL_zero h1).2
      have hn6 : m ≤ 6 := by have := totL_len ht; rw [Hn.out] at this; exact this
      have Hall := hide (mayL_all h1)
      have hP : prodV l ≤ 512 := by rw [← totL_prod ht]; exact (totL_bd l).2
      have Hso : Hid (stateOk l xs = hasAll l xs) := hide (by simp [stateOk, h1, Hn.out, Hx.out])
      have H1 := hide h1; have Ht := hide ht; clear h1 ht
      go_enter Tryz.func109, Tryz.ntmps109
      go_wp2_with fail
      refine (rmay_any A m c B l _ Hm.out hnc Hc.out hB Hv.out Hnm.out).mono ?_
      rintro e w1 ⟨rfl, hb1⟩
      go_wp2_with fail
      go_loopw [6, 7, 23] (fun a b i wr => ∃ (k : Nat) (st wt : Int), k ≤ m ∧ i = .int .i64 k ∧ a = .int .i64 st ∧ b = .int .i64 wt ∧ 0 ≤ st ∧ st < wt ∧ 1 ≤ wt ∧ Hid (st + wt * numL (l.drop k) (xs.drop k) = numL l xs) ∧ Hid (wt * prodV (l.drop k) = prodV l) ∧ Hid (hasAll l xs = hasAll (l.drop k) (xs.drop k)) ∧ Below w.heap.size w wr) (fun _ _ i _ => m - (intOf i).toNat)
      case atStart => exact ⟨0, 0, 1, Nat.zero_le _, rfl, rfl, rfl, by omega, by omega, by omega, hide (by simp), hide (by simp), hide rfl, hb1⟩
      case round =>
        obtain ⟨k, st, wt, hk, rfl, rfl, rfl, hs0, hs1, hw1, HN, HP, HA, hb⟩ := hrel
        have hw2 := wt_bd k Hall.out hw1 HP.out hP
        by_cases hlt : k < m
        · have hlt' : ((k : Int) < (m : Int)) := by omega
          obtain ⟨b, off, v, rfl, hbB, hlk, c0, c1, c2, c3, c4⟩ := (Hv.out.below (hb.mono hB)).at_ hlt
          obtain ⟨bi, offi, x, rfl, hbi, hlx, cx⟩ := (Hi.out.below (hb.mono hB)).at_ hlt
          have hmay := Hall.out v (List.mem_of_getElem? hlk)
          have sz1 := size_pos hmay
          have sz2 := (size_bd v.srt v.lo v.hi).2
          obtain ⟨lo1, lo2⟩ := may_lo hmay
          have Hst := hide (num_step hlk hlx HN.out HP.out)
          have Hst2 : Hid (hasAll l xs = (hasB v.srt v.lo v.hi x && hasAll (l.drop (k + 1)) (xs.drop (k + 1)))) := hide (by rw [HA.out, drop_at hlk, drop_at hlx, hasAll])
          clear hlk hlx hmay
          have hsz := hb.size
          have cx' : (wr.alloc (.cells #[.string v.nm, .bool v.env, .int .i64 v.srt, .int .i64 v.lo, .int .i64 v.hi] 103)).cell? ⟨bi, offi + k, none⟩ = some (.int .i64 x) := (World.cell?_alloc_lt wr _ _ (by show bi < _; omega)).trans cx
          clear cx
          go_wp2_with fail
          clear c0 c1 c2 c3 c4 cx'
          have hbox := box_new wr v 103
          have hbx : Below w.heap.size w (wr.alloc (.cells #[.string v.nm, .bool v.env, .int .i64 v.srt, .int .i64 v.lo, .int .i64 v.hi] 103)) := hb.alloc hsz _
          have hbz : (wr.alloc (.cells #[.string v.nm, .bool v.env, .int .i64 v.srt, .int .i64 v.lo, .int .i64 v.hi] 103)).heap.size = wr.heap.size + 1 := by simp
          generalize wr.alloc (.cells #[.string v.nm, .bool v.env, .int .i64 v.srt, .int .i64 v.lo, .int .i64 v.hi] 103) = w2 at *
          have hbz2 : w.heap.size ≤ w2.heap.size := by omega
          have hbz3 : wr.heap.size < w2.heap.size := by omega
          generalize wr.heap.size = bx at *
          clear hbz
          have Hbx := hide hbx
          have Hbox := hide hbox
          clear hbx hb hbox
          obtain ⟨d0, d1, d2, d3, d4⟩ := Hbox.out
          have C0 := cell_regrown d0
          have C1 := cell_regrown d1
          have C2 := cell_regrown d2
          have C3 := cell_regrown d3
          have C4 := cell_regrown d4
          clear d0 d1 d2 d3 d4
          by_cases hx : x < v.lo
          · have hxb : decide (x < v.lo) = true := by simp [hx]
            have Hfin : Hid (stateOk l xs = false) := hide (by
              have : hasB v.srt v.lo v.hi x = false := by simp [hasB]; omega
              rw [Hso.out, Hst2.out, this]; rfl)
            refine wp_region_quiet_below (by kernel_rfl) (by kernel_rfl) ?_
            repeat (go_big_quiet_step (fail))
            refine wpQuiet_nil ?_
            intro w14 hw14
            obtain ⟨p, rfl⟩ := hw14
            have hfin := Hbx.out.trans ((below_regrown w2 p.d p.os).mono (by omega))
            go_wp2_with fail
            go_ret2
            refine ⟨?_, hfin⟩
            unfold stateV; rw [Hfin.out]; rfl
          · have hxb : decide (x < v.lo) = false := by simp; omega
            have hwr : IntKind.i64.wrap (v.lo + sizeOfV v.srt v.lo v.hi) = v.lo + sizeOfV v.srt v.lo v.hi := IntWalk.i64_in _ (by omega)
            by_cases hy : v.lo + sizeOfV v.srt v.lo v.hi ≤ x
            · have hyb : decide (v.lo + sizeOfV v.srt v.lo v.hi ≤ x) = true := by simp [hy]
              have Hfin : Hid (stateOk l xs = false) := hide (by
                have : hasB v.srt v.lo v.hi x = false := by simp [hasB]; omega
                rw [Hso.out, Hst2.out, this]; rfl)
              refine wp_region_quiet_below (by kernel_rfl) (by kernel_rfl) ?_
              repeat (go_big_quiet_step ((go_at_call 72; exact Calls.regrown_of (rsize_any _ _ _ _ _ _))))
              refine wpQuiet_nil ?_
              intro w14 hw14
              obtain ⟨p, rfl⟩ := hw14
              have hfin := Hbx.out.trans ((below_regrown w2 p.d p.os).mono (by omega))
              clear hwr
              go_wp2_with fail
              go_ret2
              refine ⟨?_, hfin⟩
              unfold stateV; rw [Hfin.out]; rfl
            · have hyb : decide (v.lo + sizeOfV v.srt v.lo v.hi ≤ x) = false := by simp; omega
              have HA2 : Hid (hasAll l xs = hasAll (l.drop (k + 1)) (xs.drop (k + 1))) := hide (by
                have : hasB v.srt v.lo v.hi x = true := by simp [hasB]; omega
                rw [Hst2.out, this]; rfl)
              refine wp_region_quiet_below (by kernel_rfl) (by kernel_rfl) ?_
              repeat (go_big_quiet_step ((go_at_call 72; exact Calls.regrown_of (rsize_any _ _ _ _ _ _))))
              refine wpQuiet_nil ?_
              intro w14 hw14
              obtain ⟨p, hp⟩ := hw14
              have hb14 : Below w2.heap.size w2 w14 := by rw [hp]; exact below_regrown w2 p.d p.os
              have hbw14 := Hbx.out.trans (hb14.mono (by omega))
              obtain ⟨d0, d1, d2, d3, d4⟩ := Hbox.out.below hb14 hbz3
              clear hp hwr C0 C1 C2 C3 C4
              obtain ⟨p1, p2, p3⟩ := num_bd hs0 hs1 hw1 hw2 (show v.lo ≤ x by omega) (show x < v.lo + sizeOfV v.srt v.lo v.hi by omega) sz2
              generalize hz : sizeOfV v.srt v.lo v.hi = z at *
              have Hz : Hid (v.size = z) := hide hz
              clear hz
              have q1 : 1 ≤ wt * z := by have := Int.mul_le_mul hw1 sz1 (by omega) (by omega); omega
              have q2 : wt * z ≤ 512 * 2001 := Int.mul_le_mul hw2 sz2 (by omega) (by omega)
              have Hst3 : Hid ((st + (x - v.lo) * wt) + (wt * z) * numL (l.drop (k + 1)) (xs.drop (k + 1)) = numL l xs ∧ (wt * z) * prodV (l.drop (k + 1)) = prodV l) := hide (by have := Hst.out; rw [Hz.out] at this; exact this)
              clear Hst HN HP
              have p0 : 0 ≤ st + (x - v.lo) * wt := by omega
              go_wp2_with fail
              refine (rsize_any v.nm v.env v.srt v.lo v.hi _).mono ?_
              rintro e w15 ⟨rfl, hb15⟩
              have hbw15 := hbw14.trans (hb15.mono hbw14.size)
              rw [show sizeOfV v.srt v.lo v.hi = z from Hz.out]
              clear d0 d1 d2 d3 d4 hb15
              go_wp2_with fail
              go_roundw
              case rel => exact ⟨k + 1, st + (x - v.lo) * wt, wt * z, by omega, by go_num, rfl, rfl, by omega, by omega, by omega, hide Hst3.out.1, hide Hst3.out.2, HA2, hbw15⟩
              case measure => simp [intOf]; omega
        · have hlt' : ¬ ((k : Int) < (m : Int)) := by omega
          have Hfin : Hid (hasAll l xs = true) := hide (by rw [HA.out, List.drop_of_length_le (by rw [Hn.out]; omega)]; rfl)
          have Hend := hide (num_end (by rw [Hn.out]; omega) HN.out)
          clear HN HP
          go_wp2_with fail
          go_ret2
          refine ⟨?_, hb⟩
          unfold stateV; rw [Hso.out, Hfin.out, ← Hend.out]; rfl
    · have h2b : ((m : Int) != (n : Int)) = true := by simp; omega
      have Hso : Hid (stateOk l xs = false) := hide (by simp [stateOk, Hn.out, Hx.out, h2])
      clear h1 h2
      go_enter Tryz.func109, Tryz.ntmps109
      go_wp2_with fail
      refine (rmay_any A n c B l _ Hm.out hnc Hc.out hB Hv.out Hnm.out).mono ?_
      rintro e w1 ⟨rfl, hb1⟩
      go_wp2_with fail
      go_ret2
      refine ⟨?_, hb1⟩
      unfold stateV; rw [Hso.out]; rfl
  · have h1b : (mayL l != 0) = true := by simp [h1]
    have Hso : Hid (stateOk l xs = false) := hide (by simp [stateOk, h1])
    clear h1
    go_enter Tryz.func109, Tryz.ntmps109
    go_wp2_with fail
    refine (rmay_any A n c B l _ Hm.out hnc Hc.out hB Hv.out Hnm.out).mono ?_
    rintro e w1 ⟨rfl, hb1⟩
    go_wp2_with fail
    go_ret2
    refine ⟨?_, hb1⟩
    unfold stateV; rw [Hso.out]; rfl

set_option maxHeartbeats 400000 in
theorem same_any (A D : Option Addr) (n c d B : Nat) (xs : List Int) (w : World) (hm : n ≤ maxLen) (hB : B ≤ w.heap.size) (ha : RI w B A n xs) (hd : RI w B D n xs) : Calls Tryz.prog 20 #[.slice A n c, .slice D n d] w fun e w' => e = .returned (.bool true) ∧ Below w.heap.size w w' := by
  unfold maxLen at hm
  have Ha := hide ha; have Hd := hide hd
  clear ha hd
  have hnn : ((n : Int) != (n : Int)) = false := by simp
  go_enter Tryz.func20, Tryz.ntmps20
  go_wp2_with fail
  go_loopw [13] (fun i wr => ∃ (k : Nat), k ≤ n ∧ i = .int .i64 k ∧ Below w.heap.size w wr) (fun i _ => n - (intOf i).toNat)
  case atStart => exact ⟨0, Nat.zero_le _, rfl, Below.refl _ _⟩
  case round =>
    obtain ⟨k, hk, rfl, hb⟩ := hrel
    by_cases hlt : k < n
    · have hlt' : ((k : Int) < (n : Int)) := by omega
      obtain ⟨b1, o1, x, rfl, _, hx, c1⟩ := (Ha.out.below (hb.mono hB)).at_ hlt
      obtain ⟨b2, o2, y, rfl, _, hy, c2⟩ := (Hd.out.below (hb.mono hB)).at_ hlt
      obtain rfl : x = y := by rw [hx] at hy; injection hy
      clear hx hy
      go_wp2_with fail
      go_quiet (fail)
      go_wp2_with fail
      go_roundw
      case rel => exact ⟨k + 1, by omega, by go_num, below_drewN hb _⟩
      case measure => simp [intOf]; omega
    · have hlt' : ¬ ((k : Int) < (n : Int)) := by omega
      go_wp2_with fail
      go_ret
      exact ⟨rfl, hb⟩
end Go.Proofs.YtbppdalfcldodaaGreat.Dom
namespace Go.Proofs.YtbppdalfcldodaaGreat.Dom
open Go.RowKit Go.WideMaps Go.Maps
set_option linter.unusedSimpArgs false
set_option linter.unusedVariables false

theorem own_ri {w : World} {base n c : Nat} {A : Option Addr} {xs : List Int} (h : w.ownsRow base 3 1 (.slice A n c) n (ints xs)) : RI w w.heap.size A n xs := by
  have hl : xs.length = n := by have := h.1; simpa [ints] using this
  refine ⟨hl, fun hn => ?_⟩
  obtain ⟨g, cap, hv, hb, hlt⟩ := h.form hn
  have hA : A = some ⟨g, 0, none⟩ := by injection hv
  subst hA
  refine ⟨g, 0, rfl, hlt, fun k x hx => ?_⟩
  have := h.cells (g := g) rfl k (.int .i64 x) (by simp [ints, hx])
  rw [Nat.zero_add]
  by_cases hk : k = 0
  · subst hk; simpa [Addr.add] using this
  · simpa [Addr.add, hk] using this
theorem ints_set (xs : List Int) (k : Nat) (x : Int) : ints (xs.set k x) = (ints xs).set k (.int .i64 x) := by simp [ints, List.map_set]

theorem part_state {l : List V} {s : Int} {env : Bool} (hg : goodS l s = true) : stateV l (pickL env l (valsL l s)) = partL l s env := by
  obtain ⟨hM, _, _⟩ := goodS_true hg
  have hall := mayL_all hM
  have h1 : stateOk l (pickL env l (valsL l s)) = true := by
    simp [stateOk, hM, pickL_length env l _ (valsL_length l s), has_pick env l _ hall (has_vals l s hall)]
  unfold stateV partL; rw [h1, hg]; rfl
theorem mix_list {ys xs : List Int} {k n : Nat} (h1 : ys.length = n) (h2 : xs.length = n) (hk : k < n) (y : Int) (hy : ys[k]? = some y) : (ys.take k ++ xs.drop k).set k y = ys.take (k + 1) ++ xs.drop (k + 1) := by
  obtain ⟨hky, rfl⟩ := List.getElem?_eq_some_iff.1 hy
  have hlen : (ys.take k).length = k := by simp; omega
  rw [List.set_append_right _ _ (by omega), hlen, Nat.sub_self, List.drop_eq_getElem_cons (by omega), List.set_cons_zero, List.take_succ_eq_append_getElem hky, List.append_assoc]
  rfl
theorem mix_list_same {ys xs : List Int} {k n : Nat} (h1 : ys.length = n) (h2 : xs.length = n) (hk : k < n) (y : Int) (hy : ys[k]? = some y) (hx : xs[k]? = some y) : ys.take k ++ xs.drop k = ys.take (k + 1) ++ xs.drop (k + 1) := by
  obtain ⟨hky, e1⟩ := List.getElem?_eq_some_iff.1 hy
  obtain ⟨hkx, e2⟩ := List.getElem?_eq_some_iff.1 hx
  rw [List.take_succ_eq_append_getElem hky, List.drop_eq_getElem_cons hkx, e1, e2]; simp

set_option maxHeartbeats 1000000 in
theorem rpart_any (A : Option Addr) (n c B : Nat) (l : List V) (s : Int) (env : Bool) (w : World) (hm : n ≤ maxLen) (hnc : n ≤ c) (hc : c ≤ maxLen) (hB : B ≤ w.heap.size) (hv : RV w B A n l) (hnm : ∀ v ∈ l, v.nm.size ≤ maxLen) :
    Calls Tryz.prog 84 #[.slice A n c, .int .i64 s, .bool env] w fun e w' => e = .returned (.int .i64 (partL l s env)) ∧ Below w.heap.size w w' := by
  have Hm := hide hm
  have Hc := hide hc
  have Hn := hide hv.1
  have Hv := hide hv; clear hv
  have Hnm := hide hnm; clear hnm
  clear hc
  cases hg : goodS l s
  · have Hr : Hid (partL l s env = -1) := hide (by unfold partL; rw [hg]; rfl)
    have Hg := hide (goodS_false hg)
    clear hg hm
    go_enter Tryz.func84, Tryz.ntmps84
    go_wp2_with fail
    refine (rvals_bad A n c B l s _ Hm.out hnc Hc.out hB Hv.out Hnm.out Hg.out).mono ?_
    rintro e w1 ⟨rfl, hb1⟩
    go_wp2_with fail
    go_ret
    exact ⟨ret_int Hr.out.symm, hb1⟩
  · obtain ⟨hM, hs0, hs1⟩ := goodS_true hg
    have ht := (mayL_zero hM).2
    have hn6 : n ≤ 6 := by have := totL_len ht; rw [Hn.out] at this; exact this
    have Hr := hide (part_state (env := env) hg)
    have HM := hide hM
    have Hl1 := hide ((valsL_length l s).trans Hn.out)
    have Hl2 := hide ((pickL_length env l _ (valsL_length l s)).trans Hn.out)
    clear hg hm ht hM
    go_enter Tryz.func84, Tryz.ntmps84
    go_wp2_with fail
    refine (rvals_good A n c B l s _ hnc Hc.out hB Hv.out Hnm.out HM.out hs0 hs1).mono ?_
    rintro e w1 ⟨D, cd, rfl, hown, hb1⟩
    have Hpk := hide (fun (k : Nat) (v : V) (x : Int) (h1 : l[k]? = some v) (h2 : (valsL l s)[k]? = some x) => pickL_at env l _ k v x h1 h2)
    generalize valsL l s = xs at *
    generalize hys : pickL env l xs = ys at *
    have Hys := hide hys; clear hys
    go_wp2_with fail
    go_loopw [23] (fun i wr => ∃ (k : Nat), k ≤ n ∧ i = .int .i64 k ∧ wr.ownsRow w.heap.size 3 1 (.slice D n cd) n (ints (ys.take k ++ xs.drop k)) ∧ Below w.heap.size w wr) (fun i _ => n - (intOf i).toNat)
    case atStart => exact ⟨0, Nat.zero_le _, rfl, by simpa using hown, hb1⟩
    case round =>
      obtain ⟨k, hk, rfl, hrw, hb⟩ := hrel
      by_cases hlt : k < n
      · have hlt' : ((k : Int) < (n : Int)) := by omega
        obtain ⟨b, off, v, rfl, hbB, hlk, c0, c1, c2, c3, c4⟩ := (Hv.out.below (hb.mono hB)).at_ hlt
        obtain ⟨x, hx⟩ : ∃ x, xs[k]? = some x := ⟨xs[k]'(by rw [Hl1.out]; exact hlt), List.getElem?_eq_getElem _⟩
        have hyk := Hpk.out k v x hlk hx
        have hsz := hb.size
        obtain ⟨g, cap, hv, hgb, hglt⟩ := hrw.form (by omega)
        injection hv with hD _ hcd
        subst hD; subst hcd
        by_cases he : v.env = env
        · rw [if_pos he] at hyk
          have heb : (!(v.env == env)) = false := by simp [he]
          have Hrw2 : Hid ((wr.alloc (.cells #[.string v.nm, .bool v.env, .int .i64 v.srt, .int .i64 v.lo, .int .i64 v.hi] 103)).ownsRow w.heap.size 3 1 (.slice (some ⟨g, 0, none⟩) n cd) n (ints (ys.take (k + 1) ++ xs.drop (k + 1)))) := hide (by
            rw [← mix_list_same Hl2.out Hl1.out hlt x hyk hx]; exact hrw.alloc _)
          have hbx : Below w.heap.size w (wr.alloc (.cells #[.string v.nm, .bool v.env, .int .i64 v.srt, .int .i64 v.lo, .int .i64 v.hi] 103)) := hb.alloc hsz _
          clear he hyk hlk hx hrw
          go_wp2_with fail
          go_roundw
          case rel => exact ⟨k + 1, by omega, by go_num, Hrw2.out, hbx⟩
          case measure => simp [intOf]; omega
        · rw [if_neg he] at hyk
          have heb : (!(v.env == env)) = true := by simp [he]
          have hrw1 := hrw.alloc (.cells #[.string v.nm, .bool v.env, .int .i64 v.srt, .int .i64 v.lo, .int .i64 v.hi] 103)
          obtain ⟨u, hu⟩ : ∃ u, (wr.alloc (.cells #[.string v.nm, .bool v.env, .int .i64 v.srt, .int .i64 v.lo, .int .i64 v.hi] 103)).cell? ⟨g, k, none⟩ = some u := by
            obtain ⟨b', o', x', e', _, _, hc'⟩ := (own_ri hrw1).at_ hlt
            injection e' with e'
            injection e' with e1 e2
            subst e1; subst e2
            rw [Nat.zero_add] at hc'
            exact ⟨_, hc'⟩
          have hfz := hrw1.frozenAt k
          have Hrw2 : Hid (((wr.setCell ⟨g, k, none⟩ (.int .i64 v.lo)).alloc (.cells #[.string v.nm, .bool v.env, .int .i64 v.srt, .int .i64 v.lo, .int .i64 v.hi] 103)).ownsRow w.heap.size 3 1 (.slice (some ⟨g, 0, none⟩) n cd) n (ints (ys.take (k + 1) ++ xs.drop (k + 1)))) := hide (by
            rw [← mix_list Hl2.out Hl1.out hlt v.lo hyk, ints_set]; exact (hrw.stored k (.int .i64 v.lo)).1.alloc _)
          have hbx : Below w.heap.size w ((wr.setCell ⟨g, k, none⟩ (.int .i64 v.lo)).alloc (.cells #[.string v.nm, .bool v.env, .int .i64 v.srt, .int .i64 v.lo, .int .i64 v.hi] 103)) := (hb.setCell (by show w.heap.size ≤ g; omega) _).alloc (by simp [World.setCell]; omega) _
          clear he hyk hlk hx hrw hrw1
          go_wp2_with fail
          go_roundw
          case rel => exact ⟨k + 1, by omega, by go_num, Hrw2.out, hbx⟩
          case measure => simp [intOf]; omega
      · have hlt' : ¬ ((k : Int) < (n : Int)) := by omega
        have hsz := hb.size
        have hri : RI wr wr.heap.size D n ys := own_ri (by
          obtain rfl : k = n := by omega
          rw [List.take_of_length_le (by rw [Hl2.out]; omega), List.drop_of_length_le (by rw [Hl1.out]; omega), List.append_nil] at hrw; exact hrw)
        have Hri := hide hri
        clear hri hrw
        go_wp2_with fail
        refine (rstate_any A n c wr.heap.size l _ n cd ys _ Hm.out hnc Hc.out Hm.out (Nat.le_refl _) ((Hv.out.below (hb.mono hB)).more (by omega)) Hri.out Hnm.out).mono ?_
        rintro e w3 ⟨rfl, hb3⟩
        rw [Hr.out]
        have hbw3 := hb.trans (hb3.mono hsz)
        go_wp2_with fail
        go_ret
        exact ⟨rfl, hbw3⟩
end Go.Proofs.YtbppdalfcldodaaGreat.Dom
