/- The walk of dom.With. -/
import Derived.Test.YtjfomoehedhodaaPart
namespace Go.Proofs.Ytjfomoehedhodaa
open Go.RowKit Go.WideMaps Go.Maps
set_option linter.unusedSimpArgs false
set_option linter.unusedVariables false

def hasAt (l : List V) (i x : Int) : Bool := if i < 0 then false else match l[i.toNat]? with
  | some v => hasB v.srt v.lo v.hi x
  | none => false
def withOk (l : List V) (s i x : Int) : Bool := goodS l s && hasAt l i x
def withV (l : List V) (s i x : Int) : Int := if withOk l s i x = true then numL l ((valsL l s).set i.toNat x) else 0
theorem has_set : ∀ (l : List V) (xs : List Int) (k : Nat) (v : V) (x : Int), hasAll l xs = true → l[k]? = some v → hasB v.srt v.lo v.hi x = true → hasAll l (xs.set k x) = true
  | [], _, k, v, x, _, _, _ => by simp [hasAll]
  | _ :: _, [], k, v, x, _, _, _ => by simp [hasAll]
  | u :: r, y :: ys, 0, v, x, ha, h1, h2 => by
    simp at h1; subst h1
    rw [hasAll, Bool.and_eq_true] at ha
    simp [hasAll, h2, ha.2]
  | u :: r, y :: ys, k + 1, v, x, ha, h1, h2 => by
    rw [hasAll, Bool.and_eq_true] at ha
    simp only [List.set_cons_succ, hasAll, ha.1, Bool.true_and]
    exact has_set r ys k v x ha.2 (by simpa using h1) h2
theorem set_val {xs : List Int} {k n : Nat} {x : Int} (hl : xs.length = n) (hk : k < n) (i : Nat) (hi : i < n) : (if i = k then Value.int .i64 x else .int .i64 (xs.getD i 0)) = .int .i64 ((xs.set k x).getD i 0) := by
  by_cases e : i = k
  · subst e; simp [List.getD, hl, hk]
  · rw [if_neg e]; simp [List.getD, List.getElem?_set, Ne.symm e]

set_option maxHeartbeats 1000000 in
theorem with_any (A : Option Addr) (n c B : Nat) (l : List V) (s i x : Int) (w : World) (hm : n ≤ maxLen) (hB : B ≤ w.heap.size) (hv : RV w B A n l) (hnm : ∀ v ∈ l, v.nm.size ≤ maxLen) :
    Calls Try.prog 15 #[.slice A n c, .int .i64 s, .int .i64 i, .int .i64 x] w fun e w' => e = .returned (.tuple #[.int .i64 (withV l s i x), .bool (withOk l s i x)]) ∧ Below w.heap.size w w' := by
  have Hm := hide hm
  have Hn := hide hv.1
  have Hv := hide hv; clear hv
  have Hnm := hide hnm; clear hnm
  have Hno : Hid (withOk l s i x = false → Value.tuple #[.int .i64 (withV l s i x), .bool (withOk l s i x)] = Value.tuple #[.int .i64 0, .bool false]) := hide (fun h => by unfold withV; rw [h]; rfl)
  cases hg : goodS l s
  · have Hr : Hid (withOk l s i x = false) := hide (by unfold withOk; rw [hg]; rfl)
    have Hg := hide (goodS_false hg)
    clear hg hm
    go_enter Try.func15, Try.ntmps15
    go_wp2_with fail
    refine (vals_bad A n c B l s _ Hm.out hB Hv.out Hnm.out Hg.out).mono ?_
    rintro e w1 ⟨rfl, hb1⟩
    go_wp2_with fail
    go_ret2
    exact ⟨by rw [Hno.out Hr.out]; rfl, hb1⟩
  · obtain ⟨hM, hs0, hs1⟩ := goodS_true hg
    have ht := (mayL_zero hM).2
    have hn6 : n ≤ 6 := by have := totL_len ht; rw [Hn.out] at this; exact this
    have Ht := hide ht
    have Hall := hide (mayL_all hM)
    have Hl1 := hide ((valsL_length l s).trans Hn.out)
    have Hha := hide (has_vals l s Hall.out)
    have HM := hide hM
    clear hm ht hM
    by_cases hi0 : i < 0
    · have hi0b : decide (i < 0) = true := by simp [hi0]
      have Hr : Hid (withOk l s i x = false) := hide (by simp [withOk, hasAt, hi0])
      clear hg hi0
      go_enter Try.func15, Try.ntmps15
      go_wp2_with fail
      refine (vals_good A n c B l s _ hB Hv.out Hnm.out HM.out hs0 hs1).mono ?_
      rintro e w1 ⟨g, rfl, hg, hrow, hb1⟩
      go_wp2_with fail
      go_ret2
      exact ⟨by rw [Hno.out Hr.out]; rfl, hb1⟩
    · have hi0b : decide (i < 0) = false := by simp; omega
      by_cases hin : (n : Int) ≤ i
      · have hinb : decide ((n : Int) ≤ i) = true := by simp [hin]
        have Hr : Hid (withOk l s i x = false) := hide (by
          have : l[i.toNat]? = none := List.getElem?_eq_none (by rw [Hn.out]; omega)
          simp [withOk, hasAt, hi0, this])
        clear hg hi0
        go_enter Try.func15, Try.ntmps15
        go_wp2_with fail
        refine (vals_good A n c B l s _ hB Hv.out Hnm.out HM.out hs0 hs1).mono ?_
        rintro e w1 ⟨g, rfl, hg, hrow, hb1⟩
        go_wp2_with fail
        go_ret2
        exact ⟨by rw [Hno.out Hr.out]; rfl, hb1⟩
      · have hinb : decide ((n : Int) ≤ i) = false := by simp; omega
        obtain ⟨k, rfl⟩ := Int.eq_ofNat_of_zero_le (show 0 ≤ i by omega)
        have hk : k < n := by omega
        obtain ⟨v, hlk⟩ : ∃ v, l[k]? = some v := ⟨l[k]'(by rw [Hn.out]; exact hk), List.getElem?_eq_getElem _⟩
        have Hok : Hid (withOk l s k x = hasB v.srt v.lo v.hi x) := hide (by simp [withOk, hasAt, hg, hlk, show ¬ (k : Int) < 0 by omega])
        have Hmay := hide (Hall.out v (List.mem_of_getElem? hlk))
        have Hlk := hide hlk
        clear hg hi0 hlk
        have hk' : (k : Int) < (n : Int) := by omega
        go_enter Try.func15, Try.ntmps15
        go_wp2_with fail
        refine (vals_good A n c B l s _ hB Hv.out Hnm.out HM.out hs0 hs1).mono ?_
        rintro e w1 ⟨g, rfl, hg, hrow, hb1⟩
        have Hrow := hide hrow; clear hrow
        obtain ⟨b, off, v', rfl, hbB, hlk', c0, c1, c2, c3, c4⟩ := (Hv.out.below (hb1.mono hB)).at_ hk
        obtain rfl : v' = v := by have h1 := Hlk.out; rw [hlk'] at h1; injection h1
        clear hlk'
        have hz1 := hb1.size
        go_wp2_with fail
        refine (has_any _ _ _ _ _ _ _ Hmay.out).mono ?_
        rintro e w2 ⟨rfl, hb2⟩
        have hz2 := hb2.size
        have hbw2 := hb1.trans (hb2.mono hz1)
        have Hv2 := hide (Hv.out.below (hbw2.mono hB))
        have hglt := Hrow.out.lt
        have hrow2 : w2.rowIs g 3 n (fun i => .int .i64 ((valsL l s).getD i 0)) := Hrow.out.of_block (hb2.block g hglt)
        clear c0 c1 c2 c3 c4 Hrow hb2
        cases hh : hasB v'.srt v'.lo v'.hi x
        · have Hr : Hid (withOk l s k x = false) := hide (by rw [Hok.out, hh])
          clear hh hrow2
          go_wp2_with fail
          go_ret2
          exact ⟨by rw [Hno.out Hr.out]; rfl, hbw2⟩
        · have Hr : Hid (Value.tuple #[.int .i64 (withV l s k x), .bool (withOk l s k x)] = Value.tuple #[.int .i64 (numL l ((valsL l s).set k x)), .bool true]) := hide (by unfold withV; rw [Hok.out, hh]; rfl)
          have Hs := hide (has_set l _ k v' x Hha.out Hlk.out hh)
          obtain ⟨u, hu⟩ : ∃ u, w2.cell? ⟨g, k, none⟩ = some u := ⟨_, hrow2.cell hk⟩
          have hfz := hrow2.frozen k
          have hri : RI (w2.setCell ⟨g, k, none⟩ (.int .i64 x)) w2.heap.size (some ⟨g, 0, none⟩) n ((valsL l s).set k x) := by
            have := row_ri ((hrow2.set k (.int .i64 x)).congr (fun i hi => set_val Hl1.out hk i hi)) (by simp [Hl1.out])
            simpa [World.setCell] using this
          have Hri := hide hri
          have hbw3 : Below w.heap.size w (w2.setCell ⟨g, k, none⟩ (.int .i64 x)) := hbw2.setCell (by exact hg) _
          have Hv3 := hide (((Hv.out.below (hbw3.mono hB))).more (show B ≤ w2.heap.size by omega))
          have hz3 : w2.heap.size ≤ (w2.setCell ⟨g, k, none⟩ (.int .i64 x)).heap.size := by simp [World.setCell]
          clear hh hrow2 hri
          go_wp2_with fail
          refine (num_any _ n c w2.heap.size l _ n _ _ hz3 Hv3.out Hri.out Hall.out Ht.out Hs.out).mono ?_
          rintro e w4 ⟨rfl, hb4⟩
          have hbw4 := hbw3.trans (hb4.mono (by omega))
          go_wp2_with fail
          go_ret2
          exact ⟨by rw [Hr.out]; rfl, hbw4⟩
end Go.Proofs.Ytjfomoehedhodaa
