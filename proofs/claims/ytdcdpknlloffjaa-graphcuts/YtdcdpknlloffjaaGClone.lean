/- slices.Clone over numbers; 'append' onto an empty row of one's own. -/
import Derived.Test.YtdcdpknlloffjaaGReachR
import Derived.Laws.AppendOwn
import Derived.OwnWalk
import Derived.KernelRfl
namespace Go.Proofs.Ytdcdpknlloffjaa.Gr
open Go.RowKit
set_option linter.unusedSimpArgs false
set_option linter.unusedVariables false

theorem own_empty {w : World} {g e size base : Nat} (h : w.heap[g]? = some (.cells #[] e (0, 0))) (hb : base ≤ g) : w.ownsRow base e size (.slice (some ⟨g, 0, none⟩) 0 0) 0 [] :=
  ⟨by simp, .inr ⟨g, 0, #[], rfl, hb, h, Nat.le_refl _, by unfold maxLen; omega, by simp, by simp⟩⟩
theorem wpList_append_row {ops : Array Oper} {rest : List Oper} {o : Oper} {a : Act} {Q : Exit → Act → World → Prop} {w : World} (hgd : o.guard = none) (s x : Operand) (t : TypeId)
    (ho : o.op = .call { callee := .builtin .append, args := #[s, x], argTypes := #[t, t] })
    (base : Nat) (e : TypeId) (i : TypeInfo) (z : Value) (size bytes : Nat) (ht : Try.prog.underlying t = some (.slice e)) (hi : Try.prog.info? e = some i) (hz : i.zero = some z)
    (hsize : i.size = size) (hby : i.bytes = bytes) (hzs : z.cells.size = size) (hsz : 0 < size)
    (g k cap0 : Nat) (xs : List Value) (hs : a.eval s = .slice (some ⟨g, 0, none⟩) k cap0) (hown : w.ownsRow base e size (.slice (some ⟨g, 0, none⟩) k cap0) k xs)
    (A : Option Addr) (n c : Nat) (news : List Value) (hx : a.eval x = .slice A n c) (hl : news.length = n * size) (hnil : A = none → n = 0 ∧ c = 0) (hnews : ∀ ad, A = some ad → ∀ j u, news[j]? = some u → w.cell? (ad.add j) = some u) (h1 : ∀ u ∈ news, u.oneCell' = true)
    (h63 : k + n ≤ maxLen) (hbytes : (k + n) * bytes ≤ 140737488355328) (hbase : base ≤ w.heap.size)
    (h : ∀ O cap w', w'.ownsRow base e size (.slice O (k + n) cap) (k + n) (xs ++ news) → w.grownBy w' (some g) → wpList Try.prog ops Q rest (a.put o.dst (.slice O (k + n) cap)) w') : wpList Try.prog ops Q (o :: rest) a w := by
  cases A with
  | some ad =>
    refine wpList_append_own w hgd s x t ho base e i z size bytes ht hi hz hsize hby hzs hsz _ k xs hs hown ad n c news hx hl (hnews ad rfl) h1 h63 hbytes hbase (fun v' w' h2 h3 _ => ?_)
    obtain ⟨O, cap, rfl⟩ := own_sl h2
    exact h O cap w' h2 h3
  | none =>
    obtain ⟨rfl, rfl⟩ := hnil rfl
    have hcap : k ≤ cap0 := by
      rcases hown.2 with ⟨e1, _⟩ | ⟨g2, cap, cur, e1, _, _, h2, _⟩
      · cases e1
      · injection e1 with _ _ e3; subst e3; exact h2
    exact wpList_append_fits_any w hgd s x t ho base e i size ht hi hsize g k cap0 xs hs hown none 0 0 news hx hl (fun _ => ⟨rfl, rfl⟩) (fun ad h => by cases h) h1 (by omega) (fun w' h2 h3 => h _ _ w' h2 h3)

def IntsNew (w : World) (l : List Int) (e : Ending) (w' : World) : Prop := ∃ O c, e = .returned (.slice O l.length c) ∧ RI w' w'.heap.size ⟨O, l.length, c⟩ l ∧ (∀ b o s, O = some ⟨b, o, s⟩ → w.heap.size ≤ b ∧ b < w'.heap.size) ∧ Below w.heap.size w w'
theorem ints_at {w : World} {B b off : Nat} {A : Option Addr} {n c : Nat} {l : List Int} (h : RI w B ⟨A, n, c⟩ l) : ∀ ad, A = some ad → ∀ (j : Nat) u, (ints l)[j]? = some u → w.cell? (ad.add j) = some u := fun ad e j u hu => by
  unfold ints at hu
  rw [List.getElem?_map] at hu
  obtain ⟨x, hx, rfl⟩ := Option.map_eq_some_iff.1 hu
  have hj : 0 < n := by have h1 := h.len; have h2 := (List.getElem?_eq_some_iff.1 hx).1; simp only at h1; omega
  obtain ⟨b, off, e2, hb, hc⟩ := h.2.2.2.1 hj
  simp only at e2
  rw [e] at e2
  injection e2 with e2
  subst e2
  rw [add_zero_at]
  exact hc j x hx
theorem ints_one (l : List Int) : ∀ u ∈ ints l, u.oneCell' = true := fun u hu => by
  obtain ⟨x, _, rfl⟩ := List.mem_map.1 hu
  rfl
theorem own_blk {w : World} {base e size n c : Nat} {O : Option Addr} {xs : List Value} (h : w.ownsRow base e size (.slice O n c) n xs) : ∀ b o s, O = some ⟨b, o, s⟩ → base ≤ b ∧ b < w.heap.size := fun b o s e => h.lt b (by rw [e]; rfl)
theorem eq_nil (w : World) : (binOp .eql 22 (.slice none 0 0) (.slice none 0 0)).run Try.prog w = .ok (.bool true) w := by kernel_rfl
theorem eq_some (ad : Addr) (n c : Nat) (w : World) : (binOp .eql 22 (.slice (some ad) n c) (.slice none 0 0)).run Try.prog w = .ok (.bool false) w := by kernel_rfl
set_option maxHeartbeats 1000000 in
theorem clone_any (B : Nat) (A : Option Addr) (n c : Nat) (l : List Int) (w : World) (hB : B ≤ w.heap.size) (hm : n ≤ 1000000) (hr : RI w B ⟨A, n, c⟩ l) :
    Calls Try.prog 39 #[.slice A n c] w (IntsNew w l) := by
  obtain ⟨i0, hi0, hq0, hq1, hq2⟩ := info_parts info3
  have Hi0 := hide hi0; have Hq0 := hide hq0; have Hq1 := hide hq1; have Hq2 := hide hq2
  have hl := hr.len
  simp only at hl
  have Hl := hide hl
  have Hr := hide hr
  clear hi0 hq0 hq1 hq2 hl
  cases A with
  | none =>
    have hc0 : c = 0 := hr.2.2.2.2 rfl
    have hn0 : n = 0 := by have := hr.2.1; simp only at this; omega
    subst hc0; subst hn0
    have Hnil : Hid (l = []) := hide (List.eq_nil_of_length_eq_zero Hl.out)
    clear hr
    have hq := eq_nil w
    go_enter Try.func39, Try.ntmps39
    go_wp2_with fail
    go_ret
    rw [Hnil.out]
    exact ⟨none, 0, rfl, rows_nil _ _ _, (fun b o s h => by cases h), Below.refl _ _⟩
  | some ad =>
    have hnc := hr.2.1
    simp only at hnc
    have Hat := hide (ints_at (b := 0) (off := 0) (hr.below ((Below.refl B w).alloc hB (.cells #[] 3))) (A := some ad))
    have He := hide (own_empty (w := w.alloc (.cells #[] 3)) (g := w.heap.size) (e := 3) (size := 1) (base := w.heap.size) (heap_alloc_new w _) (Nat.le_refl _))
    have Hlen : Hid ((ints l).length = n * 1) := hide (by simp [ints, Hl.out])
    have Hone := hide (ints_one l)
    have hbw : Below w.heap.size w (w.alloc (.cells #[] 3)) := (Below.refl _ _).alloc (Nat.le_refl _) _
    have Hbw := hide hbw
    clear hr hbw
    have hq := eq_some ad n c w
    go_enter Try.func39, Try.ntmps39
    go_wp2_with (at_builtin; refine wpList_append_row rfl _ _ _ rfl w.heap.size 3 i0 _ 1 8 Try.underlying22 Hi0.out Hq0.out Hq1.out Hq2.out rfl (by omega) w.heap.size 0 0 [] (by rfl) He.out (some ad) n c (ints l) (by rfl) Hlen.out (fun h => by cases h) (fun ad2 h2 => Hat.out ad2 h2) Hone.out (by unfold maxLen; omega) (by omega) (by simp) ?_; intro O2 cap2 w5 hown5 hgrow)
    have hown6 : w5.ownsRow w.heap.size 3 1 (.slice O2 n cap2) n (ints l) := by simpa using hown5
    have Hown6 := hide hown6
    have Hb5 := hide (Hbw.out.grown hgrow (by simp) (fun z hz => by cases hz; exact Nat.le_refl _))
    clear hown5 hown6 hgrow
    go_wp2_with fail
    go_ret
    refine ⟨O2, cap2, by rw [Hl.out]; simp, by rw [Hl.out]; exact own_ri Hown6.out, own_blk Hown6.out, Hb5.out⟩
end Go.Proofs.Ytdcdpknlloffjaa.Gr
