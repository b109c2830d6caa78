/- The walk of dom.May. -/
import Derived.Test.YtddbplgcglgloaaMLeaf
import Derived.Maps.OwnSet
namespace Go.Proofs.Ytddbplgcglgloaa.Dom
open Go.RowKit Go.WideMaps Go.Maps
set_option linter.unusedSimpArgs false
set_option linter.unusedVariables false

def V.key (v : V) : List UInt8 := v.nm.data.toList
def mayGo (seen : List (List UInt8)) : List V → Int
  | [] => 0
  | v :: r => if nameB v.nm = false ∨ v.key ∈ seen then 3 else if v.may ≠ 0 then v.may else mayGo (seen ++ [v.key]) r
def mayL (l : List V) : Int := if mayGo [] l ≠ 0 then mayGo [] l else if totL l = 0 then 7 else 0
def namesTo (l : List V) (k : Nat) : List (List UInt8) := (l.take k).map V.key
def MapIs (D : DataW Unit) (seen : List (List UInt8)) : Prop := ∀ s : List UInt8, Maps.has D (.string s) = decide (s ∈ seen)

theorem namesTo_snoc {l : List V} {k : Nat} {v : V} (h : l[k]? = some v) : namesTo l (k + 1) = namesTo l k ++ [v.key] := by
  obtain ⟨hk, rfl⟩ := List.getElem?_eq_some_iff.1 h
  unfold namesTo; rw [List.take_succ_eq_append_getElem hk, List.map_append]; rfl
theorem mayGo_name {l : List V} {k : Nat} {v : V} (h : l[k]? = some v) (hb : nameB v.nm = false ∨ v.key ∈ namesTo l k) : mayGo (namesTo l k) (l.drop k) = 3 := by
  rw [drop_at h, mayGo, if_pos hb]
theorem mayGo_bad {l : List V} {k : Nat} {v : V} (h : l[k]? = some v) (hb : ¬ (nameB v.nm = false ∨ v.key ∈ namesTo l k)) (hm : ¬ v.may = 0) : mayGo (namesTo l k) (l.drop k) = v.may := by
  rw [drop_at h, mayGo, if_neg hb, if_pos hm]
theorem mayGo_on {l : List V} {k : Nat} {v : V} (h : l[k]? = some v) (hb : ¬ (nameB v.nm = false ∨ v.key ∈ namesTo l k)) (hm : v.may = 0) : mayGo (namesTo l k) (l.drop k) = mayGo (namesTo l (k + 1)) (l.drop (k + 1)) := by
  rw [drop_at h, mayGo, if_neg hb, if_neg (by simp [hm]), namesTo_snoc h]
theorem mayGo_end {l : List V} {k : Nat} (h : l.length ≤ k) : mayGo (namesTo l k) (l.drop k) = 0 := by
  rw [List.drop_of_length_le h, mayGo]
theorem MapIs.start : MapIs (.map []) [] := fun s => by simp [Maps.has]
theorem MapIs.put {D : DataW Unit} {seen : List (List UInt8)} (h : MapIs D seen) (hD : IsMap D) (s : List UInt8) (d : DataW Unit) : MapIs (D.put (.string s) d) (seen ++ [s]) := by
  intro t
  by_cases e : t = s
  · subst e
    rw [has_put_same hD (by simp [WideAt.IsKeyLit])]; simp
  · rw [has_put_other (fun hh => e (by injection hh))]
    rw [h t]; simp [e]

theorem law9 : Keyed Try.prog 9 := string_keyed Try.underlying9
theorem zero3 (w : World) : (zeroValue 3).run Try.prog w = .ok (.int .i64 0) w := by kernel_rfl
theorem owns_below {k e : TypeId} {w w' : World} {B b n : Nat} {D : DataW Unit} (h : w.ownsMap Try.prog k (plainElem Try.prog e) b n D) (hb : Below B w w') (hB : b < B) : w'.ownsMap Try.prog k (plainElem Try.prog e) b n D := by
  obtain ⟨es, clock, h1, h2⟩ := h
  exact ⟨es, clock, (hb.block b hB).trans h1, h2⟩
theorem owns_lt {k e : TypeId} {w : World} {b n : Nat} {D : DataW Unit} (h : w.ownsMap Try.prog k (plainElem Try.prog e) b n D) : b < w.heap.size := by
  obtain ⟨es, clock, h1, h2⟩ := h
  exact (Array.getElem?_eq_some_iff.1 h1).1

set_option maxHeartbeats 1000000 in
theorem may_any (A : Option Addr) (n c B : Nat) (l : List V) (w : World) (hm : n ≤ maxLen) (hB : B ≤ w.heap.size) (hv : RV w B A n l) (hnm : ∀ v ∈ l, v.nm.size ≤ maxLen) : Calls Try.prog 17 #[.slice A n c] w fun e w' => e = .returned (.int .i64 (mayL l)) ∧ Below w.heap.size w w' := by
  have Hm := hide hm
  have Hn := hide hv.1
  have Hnm := hide hnm; clear hnm
  unfold maxLen at hm
  have Hv := hide hv; clear hv
  have hmm := @run_makeMap Try.prog
  go_enter Try.func17, Try.ntmps17
  go_wp2_with fail
  clear hmm
  go_loopw [12] (fun i wr => ∃ (k : Nat) (D : DataW Unit), k ≤ n ∧ i = .int .i64 k ∧ wr.ownsMap Try.prog 9 (plainElem Try.prog 3) w.heap.size k D ∧ Hid (MapIs D (namesTo l k)) ∧ Hid (mayGo (namesTo l k) (l.drop k) = mayGo [] l) ∧ Below w.heap.size w wr) (fun i _ => n - (intOf i).toNat)
  case atStart => exact ⟨0, .map [], Nat.zero_le _, rfl, World.ownsMap_made _ _ _ _, hide MapIs.start, hide rfl, (Below.refl _ _).alloc (Nat.le_refl _) _⟩
  case round =>
    obtain ⟨k, D, hk, rfl, hown, HM, HT, hb⟩ := hrel
    by_cases hlt : k < n
    · have hlt' : ((k : Int) < (n : Int)) := by omega
      obtain ⟨b, off, v, rfl, hbB, hlk, c0, c1, c2, c3, c4⟩ := (Hv.out.below (hb.mono hB)).at_ hlt
      have Hlk := hide hlk
      have hvl : v.nm.size ≤ maxLen := Hnm.out v (List.mem_of_getElem? hlk)
      clear hlk
      have hkey : keyOf Try.prog 9 (.string v.nm) = some (.string v.key) := keyOf_string_mk Try.underlying9 hvl
      have hwlt := owns_lt hown
      have Hown := hide hown; clear hown
      have Hkey := hide hkey; clear hkey
      by_cases hin : v.key ∈ namesTo l k
      · have Hhas := hide ((HM.out v.key).trans (decide_eq_true hin))
        have Hfin := hide (HT.out.symm.trans (mayGo_name Hlk.out (.inr hin)))
        clear hin
        go_wp2_with (at_lookup; refine wpList_lookup_own_ok_int _ rfl _ _ 71 rfl 9 3 .i64 law9 Try.underlying71 Try.underlying3 (zero3 _) w.heap.size k D rfl (Hown.out.alloc _) _ _ rfl Hkey.out ?_; intro cL hat hwc; rw [Hhas.out]; clear hat hwc)
        go_ret
        refine ⟨ret_int ?_, hb.alloc hb.size _⟩
        unfold mayL; rw [Hfin.out]; rfl
      · have Hhas := hide ((HM.out v.key).trans (decide_eq_false hin))
        have Hin := hide hin; clear hin
        go_wp2_with (at_lookup; refine wpList_lookup_own_ok_int _ rfl _ _ 71 rfl 9 3 .i64 law9 Try.underlying71 Try.underlying3 (zero3 _) w.heap.size k D rfl (Hown.out.alloc _) _ _ rfl Hkey.out ?_; intro cL hat hwc; rw [Hhas.out]; clear hat hwc)
        refine (name_any _ _ hvl).mono ?_
        rintro e w1 ⟨rfl, rfl⟩
        cases hN : nameB v.nm
        · have Hfin := hide (HT.out.symm.trans (mayGo_name Hlk.out (.inl hN)))
          clear hN
          go_wp2_with fail
          go_ret
          refine ⟨ret_int ?_, hb.alloc hb.size _⟩
          unfold mayL; rw [Hfin.out]; rfl
        · have Hok : Hid (¬ (nameB v.nm = false ∨ v.key ∈ namesTo l k)) := hide (by rw [hN]; simp [Hin.out])
          clear hN
          go_wp2_with fail
          refine (mayv_any _ _ _ _ _ _).mono ?_
          rintro e w1 ⟨rfl, hb1⟩
          have hbw1 := below_box hb (Nat.le_refl _) hb1
          obtain ⟨d0, d1, d2, d3, d4⟩ := (box_new wr v 42).below hb1 (by simp)
          have Hown1 := hide (owns_below (Hown.out.alloc _) hb1 (by simp; omega))
          clear c0 c1 c2 c3 c4 Hown
          by_cases hmay : mayOfV v.srt v.lo v.hi = 0
          · have hmb : (mayOfV v.srt v.lo v.hi != 0) = false := by simp [hmay]
            have Hon := hide ((mayGo_on Hlk.out Hok.out hmay).symm.trans HT.out)
            clear hmay
            go_wp2_with (at_mapUpdate; refine wpList_mapUpdate_own _ rfl _ _ _ 71 rfl 9 3 law9 Try.underlying71 _ w.heap.size k D rfl Hown1.out (by have := Hm.out; omega) _ _ _ rfl rfl Hkey.out _ [] (plainElem_int Try.underlying3 (WalkArith.wf_i64 (by omega))) ?_; intro w2 hown2 hg2)
            have hbw2 := hbw1.grown hg2 hbw1.size (fun j hj => by cases hj; exact Nat.le_refl _)
            have HM2 : Hid (MapIs _ (namesTo l (k + 1))) := hide (by rw [namesTo_snoc Hlk.out]; exact HM.out.put (Hown1.out.isMap) v.key (.lit (.int .i64 k)))
            clear hg2 d0 d1 d2 d3 d4
            go_wp2_with fail
            go_roundw
            case rel => exact ⟨k + 1, _, by omega, by go_num, hown2, HM2, Hon, hbw2⟩
            case measure => simp [intOf]; omega
          · have hmb : (mayOfV v.srt v.lo v.hi != 0) = true := by simp [hmay]
            have Hfin := hide (HT.out.symm.trans (mayGo_bad Hlk.out Hok.out hmay))
            have Hmay : Hid (¬ v.may = 0) := hide hmay
            clear hmay
            go_wp2_with fail
            go_ret
            refine ⟨ret_int ?_, hbw1⟩
            unfold mayL; rw [Hfin.out, if_pos Hmay.out]; rfl
    · have Hfin := hide (HT.out.symm.trans (mayGo_end (l := l) (k := k) (by rw [Hn.out]; omega)))
      have hlt' : ¬ ((k : Int) < (n : Int)) := by omega
      have Hv1 := hide (Hv.out.below (hb.mono hB))
      have hsz := hb.size
      clear Hv
      go_wp2_with fail
      refine (total_any A n c B l _ Hm.out (by omega) Hv1.out).mono ?_
      rintro e w1 ⟨rfl, hb1⟩
      have hbw1 := hb.trans (hb1.mono hsz)
      by_cases hz : totL l = 0
      · have hzb : (totL l == 0) = true := by simp [hz]
        have Hz := hide hz; clear hz
        go_wp2_with fail
        go_ret
        refine ⟨ret_int ?_, hbw1⟩
        unfold mayL; rw [Hfin.out, Hz.out]; rfl
      · have hzb : (totL l == 0) = false := by simp [hz]
        have Hz := hide hz; clear hz
        go_wp2_with fail
        go_ret
        refine ⟨ret_int ?_, hbw1⟩
        unfold mayL; rw [Hfin.out, if_neg Hz.out]; rfl
end Go.Proofs.Ytddbplgcglgloaa.Dom
