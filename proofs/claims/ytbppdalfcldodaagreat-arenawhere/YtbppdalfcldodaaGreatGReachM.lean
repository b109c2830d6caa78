/- What can be reached, as data. -/
import Derived.Test.YtbppdalfcldodaaGreatGBef
set_option maxRecDepth 100000
namespace Go.Proofs.YtbppdalfcldodaaGreat.Gr
open Go.RowKit
set_option linter.unusedSimpArgs false
set_option linter.unusedVariables false

inductive Rch (nxt : List (List Int)) (fr : Nat → Bool) (n : Nat) : Nat → Prop
  | base {v : Nat} : v < n → fr v = true → Rch nxt fr n v
  | step {u v : Nat} {r : List Int} : Rch nxt fr n u → nxt[u]? = some r → (v : Int) ∈ r → Rch nxt fr n v
noncomputable def reachAt (g : GT) (fr : Nat → Bool) (v : Nat) : Bool := @decide (Rch g.nxt fr g.own.length v) (Classical.propDecidable _)
noncomputable def reachL (g : GT) (l : List Bool) : List Bool := if mayG g = 0 then (List.range g.own.length).map (reachAt g fun v => l.getD v false) else []
def Closed (nxt : List (List Int)) (F : Nat → Bool) : Prop := ∀ (u : Nat) (r : List Int), F u = true → nxt[u]? = some r → ∀ v : Nat, (v : Int) ∈ r → F v = true
def upd (F : Nat → Bool) (q : Nat) : Nat → Bool := fun i => if i = q then true else F i
def cnt : Nat → (Nat → Bool) → Nat
  | 0, _ => 0
  | n + 1, F => cnt n F + (if F n = true then 1 else 0)
theorem cnt_le : ∀ (n : Nat) (F : Nat → Bool), cnt n F ≤ n
  | 0, _ => Nat.le_refl _
  | n + 1, F => by have := cnt_le n F; rw [cnt]; split <;> omega
theorem cnt_eq : ∀ (n : Nat) {F G : Nat → Bool}, (∀ i, i < n → F i = G i) → cnt n F = cnt n G
  | 0, _, _, _ => rfl
  | n + 1, F, G, h => by rw [cnt, cnt, cnt_eq n (fun i hi => h i (by omega)), h n (by omega)]
def pickTo (f : Nat → Bool) : Nat → List Int
  | 0 => []
  | k + 1 => if f k = true then pickTo f k ++ [(k : Int)] else pickTo f k
theorem pick_len (f : Nat → Bool) : ∀ k, (pickTo f k).length = cnt k f
  | 0 => rfl
  | k + 1 => by
    rw [pickTo, cnt]; split
    · rw [List.length_append, pick_len f k]; rfl
    · rw [pick_len f k]; rfl
theorem pick_mem (f : Nat → Bool) : ∀ k x, x ∈ pickTo f k ↔ ∃ i : Nat, i < k ∧ x = (i : Int) ∧ f i = true
  | 0, x => by simp [pickTo]
  | k + 1, x => by
    rw [pickTo]
    split
    · rename_i hf
      rw [List.mem_append, pick_mem f k x]
      constructor
      · rintro (⟨i, h1, h2, h3⟩ | h)
        · exact ⟨i, by omega, h2, h3⟩
        · exact ⟨k, by omega, by simpa using h, hf⟩
      · rintro ⟨i, h1, h2, h3⟩
        by_cases e : i = k
        · subst e; exact .inr (by simp [h2])
        · exact .inl ⟨i, by omega, h2, h3⟩
    · rename_i hf
      rw [pick_mem f k x]
      constructor
      · rintro ⟨i, h1, h2, h3⟩; exact ⟨i, by omega, h2, h3⟩
      · rintro ⟨i, h1, h2, h3⟩
        by_cases e : i = k
        · subst e; exact absurd h3 hf
        · exact ⟨i, by omega, h2, h3⟩
def boolV (F : Nat → Bool) : Nat → Value := fun i => .bool (F i)
set_option maxHeartbeats 1000000 in
theorem listed_any (B : Nat) (A : Option Addr) (n c : Nat) (l : List Bool) (w : World) (hB : B ≤ w.heap.size) (hm : n ≤ 1000000) (hr : RB w B ⟨A, n, c⟩ l) :
    Calls Tryz.prog 56 #[.slice A n c] w fun e w' => ∃ v, e = .returned v ∧ w'.ownsRow w.heap.size 3 1 v (pickTo (fun i => l.getD i false) n).length (ints (pickTo (fun i => l.getD i false) n)) ∧ Below w.heap.size w w' := by
  have Hr := hide hr
  have Hl := hide hr.len
  obtain ⟨i0, hi0, hq0, hq1, hq2⟩ := info_parts info3
  have Hi0 := hide hi0; have Hq0 := hide hq0; have Hq1 := hide hq1; have Hq2 := hide hq2
  clear hr hi0 hq0 hq1 hq2
  obtain ⟨P, hP⟩ : ∃ P, P = pickTo (fun i => l.getD i false) := ⟨_, rfl⟩
  have HPs : Hid (∀ k, P (k + 1) = if l.getD k false = true then P k ++ [(k : Int)] else P k) := hide (fun k => by rw [hP]; rfl)
  have HP0 : Hid (P 0 = []) := hide (by rw [hP]; rfl)
  have HPl : Hid (∀ k, (P k).length ≤ k) := hide (fun k => by rw [hP, pick_len]; exact cnt_le _ _)
  rw [← hP]
  clear hP
  go_enter Tryz.func56, Tryz.ntmps56
  go_wp2_with fail
  go_loopw [3, 8] (fun o i wr => ∃ (k m cc : Nat) (O : Option Addr), k ≤ n ∧ i = .int .i64 k ∧ o = .slice O m cc ∧ m ≤ k ∧ Hid ((P k).length = m) ∧ wr.ownsRow w.heap.size 3 1 (.slice O m cc) m (ints (P k)) ∧ Below w.heap.size w wr) (fun _ i _ => n - (intOf i).toNat)
  case atStart => exact ⟨0, 0, 0, none, Nat.zero_le _, rfl, rfl, Nat.le_refl _, hide (by rw [HP0.out]; rfl), by rw [HP0.out]; exact World.ownsRow_nil _ _ _ _, Below.refl _ _⟩
  case round =>
    obtain ⟨k, m, cc, O, hk, rfl, rfl, hmk, HL, hown, hb⟩ := hrel
    have hsz := hb.size
    have Hown := hide hown
    clear hown
    by_cases hlt : k < n
    · have hlt' : (k : Int) < (n : Int) := by omega
      obtain ⟨b, off, x, rfl, hbB, hx, hc⟩ := (Hr.out.below (hb.mono hB)).at_ hlt
      have Hx : Hid (l.getD k false = x) := hide (getD_at hx)
      clear hx
      cases x
      · have Hp2 : Hid (P (k + 1) = P k) := hide (by rw [HPs.out, Hx.out]; rfl)
        go_wp2_with fail
        go_roundw
        case rel => exact ⟨k + 1, m, cc, O, by omega, by go_num, rfl, by omega, by rw [Hp2.out]; exact HL, by rw [Hp2.out]; exact Hown.out, hb⟩
        case measure => simp [intOf]; omega
      · have Hp2 : Hid (P (k + 1) = P k ++ [(k : Int)]) := hide (by rw [HPs.out, Hx.out]; rfl)
        go_wp2_with (at_builtin; refine wpList_append_lies _ rfl _ _ _ rfl w.heap.size 3 i0 _ 1 8 Tryz.underlying32 Hi0.out Hq0.out Hq1.out Hq2.out rfl (by omega) (.slice O m cc) m (ints (P k)) rfl (Hown.out.alloc _) ⟨wr.heap.size, 0, none⟩ 1 1 [.int .i64 (k : Int)] rfl rfl (World.news_of_block (cs := #[.int .i64 (k : Int)]) (t := 3) (fr := (0, 0)) (heap_alloc_new wr _)) (by simp [Value.oneCell']) (by omega) (by unfold maxLen; omega) (by omega) (by simp; omega) _ rfl ?_; intro gg cap w5 hown5 hgrow hat hlt5)
        have hbw5 : Below w.heap.size w w5 := (hb.alloc hsz _).grown hgrow (by simp; omega) (fun q hq => (Hown.out.lt q hq).1)
        have Hown5 : Hid (w5.ownsRow w.heap.size 3 1 (.slice (some ⟨gg, 0, none⟩) (m + 1) cap) (m + 1) (ints (P (k + 1)))) := hide (by rw [Hp2.out, ints, List.map_append]; exact hown5)
        have HL2 : Hid ((P (k + 1)).length = m + 1) := hide (by rw [Hp2.out, List.length_append, HL.out]; rfl)
        clear hown5 hgrow hat hlt5
        go_wp2_with fail
        go_roundw
        case rel => exact ⟨k + 1, m + 1, cap, some ⟨gg, 0, none⟩, by omega, by go_num, rfl, by omega, HL2, Hown5.out, hbw5⟩
        case measure => simp [intOf]; omega
    · have hlt' : ¬ (k : Int) < (n : Int) := by omega
      obtain rfl : k = n := by omega
      go_wp2_with fail
      go_ret
      exact ⟨_, rfl, by rw [HL.out]; exact Hown.out, hb⟩
end Go.Proofs.YtbppdalfcldodaaGreat.Gr
