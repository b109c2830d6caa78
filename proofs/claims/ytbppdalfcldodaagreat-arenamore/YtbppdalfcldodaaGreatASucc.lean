/- inStates, owner: the vertices of states; whose a vertex is. -/
import Derived.Test.YtbppdalfcldodaaGreatANum
import Derived.Deep.AppendLies
set_option maxRecDepth 100000
namespace Go.Proofs.YtbppdalfcldodaaGreat
open Go.RowKit Ex
set_option linter.unusedSimpArgs false
set_option linter.unusedVariables false

def VxPost (w : World) (l : List Vx) (e : Ending) (w' : World) : Prop := ∃ O n c, e = .returned (.slice O n c) ∧ w'.ownsRow w.heap.size 57 3 (.slice O n c) n (vxs l) ∧ l.length = n ∧ Below w.heap.size w w'
theorem ri_of_own {w : World} {base n c : Nat} {O : Option Addr} {xs : List Int} (h : w.ownsRow base 3 1 (.slice O n c) n (ints xs)) : Gr.RI w w.heap.size ⟨O, n, c⟩ xs := Gr.own_ri h
theorem take_map {α β : Type} (f : α → β) {xs : List α} {k : Nat} {p : α} (h : xs[k]? = some p) : (xs.take (k + 1)).map f = (xs.take k).map f ++ [f p] := by
  rw [List.take_add_one, h]; simp
theorem kept_new {w : World} {base e sz n : Nat} {v : Value} {xs : List Value} (h : w.ownsRow base e sz v n xs) (o : Obj) : (w.alloc o).ownsRow base e sz v n xs :=
  h.kept (World.grownBy_alloc w o none) (by cases v.ownBlock <;> simp)
set_option maxHeartbeats 1000000 in
theorem inStates_any (B n c : Nat) (O : Option Addr) (xs : List Int) (w : World) (hB : B ≤ w.heap.size) (h : Gr.RI w B ⟨O, n, c⟩ xs) (hl : xs.length ≤ 4096) :
    Calls Tryz.prog 81 #[.slice O n c] w (VxPost w (xs.map envV)) := by
  have Hr := hide h
  have hn : xs.length = n := h.1
  have Hn := hide hn
  obtain ⟨i0, hi0, hz0, hz1, hz2⟩ := info57
  have Hi0 := hide hi0; have Hz0 := hide hz0; have Hz1 := hide hz1; have Hz2 := hide hz2
  clear hi0 hz0 hz1 hz2 h hn
  have hnl : n ≤ 4096 := by rw [← Hn.out]; exact hl
  go_enter Tryz.func81, Tryz.ntmps81
  go_wp2_with fail
  go_loopw [3, 8] (fun ov i wr => ∃ (k cc : Nat) (O2 : Option Addr), k ≤ n ∧ i = .int .i64 k ∧ ov = .slice O2 k cc ∧ wr.ownsRow w.heap.size 57 3 (.slice O2 k cc) k (vxs ((xs.take k).map envV)) ∧ Below w.heap.size w wr) (fun ov i _ => n - (intOf i).toNat)
  case atStart => exact ⟨0, 0, none, by omega, rfl, rfl, World.ownsRow_nil _ _ _ _, Below.refl _ _⟩
  case round =>
    obtain ⟨k, cc, O2, hk, rfl, rfl, hown, hb⟩ := hrel
    have Hown := hide hown
    have Hb := hide hb
    have hzr := hb.size
    clear hown hb
    by_cases hlt : k < n
    · have hlt' : ((k : Int) < (n : Int)) := by omega
      obtain ⟨pb, po, p, ePs, hpb, hpk, cp⟩ := Gr.RI.at_ (Gr.RI.below Hr.out (Hb.out.mono hB)) hlt
      subst ePs
      have Htk := hide (take_map envV hpk)
      clear hpk
      go_wp2_with (at_builtin; refine wpList_append_lies _ rfl _ _ _ rfl w.heap.size 57 i0 _ 3 24 Tryz.underlying36 Hi0.out Hz0.out Hz1.out Hz2.out rfl (by omega) (.slice O2 k cc) k (vxs ((xs.take k).map envV)) rfl (kept_new Hown.out _) ⟨wr.heap.size, 0, none⟩ 1 1 [.int .i64 3, .int .i64 p, .int .i64 0] (by rfl) rfl (World.news_of_block (cs := #[.int .i64 3, .int .i64 p, .int .i64 0]) (t := 57) (fr := (0, 0)) (heap_alloc_new wr _)) (by simp [Value.oneCell']) (by omega) (by unfold maxLen; omega) (by omega) (by simp; omega) _ rfl ?_; intro gg cap w7 hown7 hgrow hat hlt7)
      have Hown7 : Hid (w7.ownsRow w.heap.size 57 3 (.slice (some ⟨gg, 0, none⟩) (k + 1) cap) (k + 1) (vxs ((xs.take (k + 1)).map envV))) := hide (by rw [Htk.out, ← vxs_snoc]; exact hown7)
      have Hb7 := hide ((Hb.out.alloc hzr _).grown hgrow (by simp; omega) (fun z hz => (Hown.out.lt z hz).1))
      clear hown7 hgrow hat hlt7
      go_wp2_with fail
      go_roundw
      case rel => exact ⟨k + 1, cap, some ⟨gg, 0, none⟩, by omega, by go_num, rfl, Hown7.out, Hb7.out⟩
      case measure => simp [intOf]; omega
    · have hlt' : ¬ ((k : Int) < (n : Int)) := by omega
      obtain rfl : k = n := by omega
      go_wp2_with fail
      go_ret
      refine ⟨O2, k, cc, rfl, ?_, by simpa using Hn.out, Hb.out⟩
      have h := Hown.out
      rw [← Hn.out, List.take_length] at h
      rw [← Hn.out]; exact h
theorem owner_any (x : Vx) (w : World) : Calls Tryz.prog 42 #[.int .i64 x.1] w fun e w' => e = .returned (.int .i64 (ownV x)) ∧ Below w.heap.size w w' := by
  have Ho : Hid (ownV x = if x.1 = 2 ∨ x.1 = 4 then 1 else 0) := hide rfl
  obtain ⟨a, b, c⟩ := x
  simp only at Ho ⊢
  by_cases h2 : a = 2
  · subst h2
    go_enter Tryz.func42, Tryz.ntmps42
    go_wp2_with fail
    go_ret
    exact ⟨by rw [Ho.out]; rfl, Below.refl _ _⟩
  · by_cases h4 : a = 4
    · subst h4
      go_enter Tryz.func42, Tryz.ntmps42
      go_wp2_with fail
      go_ret
      exact ⟨by rw [Ho.out]; rfl, Below.refl _ _⟩
    · have h2b : (a == 2) = false := by simp [h2]
      have h4b : (a == 4) = false := by simp [h4]
      have Ho2 : Hid (ownV (a, b, c) = 0) := hide (by rw [Ho.out, if_neg (by simp [h2, h4])])
      clear h2 h4 Ho
      go_enter Tryz.func42, Tryz.ntmps42
      go_wp2_with fail
      go_ret
      exact ⟨by rw [Ho2.out]; rfl, Below.refl _ _⟩
end Go.Proofs.YtbppdalfcldodaaGreat
