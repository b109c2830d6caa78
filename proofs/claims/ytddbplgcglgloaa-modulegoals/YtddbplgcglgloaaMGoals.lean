/- The walk of ModuleGoals. -/
import Derived.Test.YtddbplgcglgloaaMCopy
import Derived.Test.YtddbplgcglgloaaMLaw
namespace Go.Proofs.Ytddbplgcglgloaa
open Go.RowKit Ex
set_option linter.unusedSimpArgs false
set_option linter.unusedVariables false

theorem c_hvy {W w' : World} {B : Nat} {x : M8} {m : MT} (hB : B ≤ W.heap.size) (Hrm : Hid (RM W B x m)) (hs : Hid (Below W.heap.size W w')) : Calls Try.prog 7 #[.agg x.cells] w' fun e w'' => ∃ k : Int, e = .returned (.int .i64 k) ∧ 0 ≤ k ∧ k ≤ 1000000 ∧ Hid (Below W.heap.size W w'') :=
  (hvy_any B x m w' (Nat.le_trans hB hs.out.size) (Hrm.out.below (hs.out.mono hB))).mono fun _ _ ⟨k, he, h0, h1, hb⟩ => ⟨k, he, h0, h1, hide (hs.out.trans (hb.mono hs.out.size))⟩
theorem nil_rows {α : Type} (P : World → Nat → Nat → Nat → α → Prop) (sz : Nat) (w : World) (B : Nat) : Rows P sz w B ⟨none, 0, 0⟩ [] := ⟨rfl, Nat.le_refl _, by show 0 ≤ maxLen; unfold maxLen; omega, fun h => absurd h (by show ¬ 0 < 0; omega), fun _ => rfl⟩
theorem ie_rm {w : World} {B : Nat} {y : E5} {t : T} (h : EX w B y t) : RM w B ⟨⟨none, 0, 0⟩, y, ⟨0, 0, none, 0, 0⟩, ⟨none, 0, 0⟩, ⟨none, 0, 0⟩, ⟨none, 0, 0⟩, ⟨none, 0, 0⟩, ⟨none, 0, 0⟩⟩ ⟨[], t, .mk 0 0 [], [], [], [], [], []⟩ :=
  ⟨⟨by show 0 ≤ maxLen; unfold maxLen; omega, Nat.le_refl _, by show 0 ≤ maxLen; unfold maxLen; omega, fun v hv => by simp at hv⟩, ⟨rfl, fun h => absurd h (by show ¬ 0 < 0; omega)⟩, h, leaf_ex _ _ _ _, nil_rows _ _ _ _, nil_rows _ _ _ _, nil_rows _ _ _ _, nil_rows _ _ _ _, nil_rows _ _ _ _⟩
theorem keep15 {W w' : World} {N1 N2 : Nat} {x : M8} {op n : Int} {A : Option Addr} {len cap : Nat} (H1 : Hid (BoxM W N1 x)) (H2 : Hid (Box3 W N2 op n A len cap)) (h1 : N1 < W.heap.size) (h2 : N2 < W.heap.size) (hs : Hid (Below W.heap.size W w')) : (∀ (i : Nat) v, x.cells[i]? = some v → w'.cell? ⟨N1, i, none⟩ = some v) ∧ w'.cell? ⟨N2, 0, none⟩ = some (.int .i64 op) ∧ w'.cell? ⟨N2, 1, none⟩ = some (.int .i64 n) ∧ w'.cell? ⟨N2, 2, none⟩ = some (.slice A len cap) :=
  ⟨H1.out.below hs.out h1, H2.out.below hs.out h2⟩

def noG (x : M8) : M8 := { x with asm := ⟨none, 0, 0⟩, ens := ⟨none, 0, 0⟩, prio := ⟨none, 0, 0⟩ }
theorem nil3 {w : World} {b : Nat} {x : M8} (h : w.rowIs b 28 12 (mV x)) : (((w.setCell ⟨b, 9, none⟩ (.slice none 0 0)).setCell ⟨b, 10, none⟩ (.slice none 0 0)).setCell ⟨b, 11, none⟩ (.slice none 0 0)).rowIs b 28 12 (mV (noG x)) :=
  (((h.set 9 _).set 10 _).set 11 _).congr (fun i hi => by
    have h : i = 0 ∨ i = 1 ∨ i = 2 ∨ i = 3 ∨ i = 4 ∨ i = 5 ∨ i = 6 ∨ i = 7 ∨ i = 8 ∨ i = 9 ∨ i = 10 ∨ i = 11 := by omega
    rcases h with rfl | rfl | rfl | rfl | rfl | rfl | rfl | rfl | rfl | rfl | rfl | rfl <;> rfl)
theorem set3_below (w : World) (b : Nat) (u v z : Value) : (∀ c, c ≠ b → ∀ i, (((w.setCell ⟨b, 9, none⟩ u).setCell ⟨b, 10, none⟩ v).setCell ⟨b, 11, none⟩ z).cell? ⟨c, i, none⟩ = w.cell? ⟨c, i, none⟩) ∧ ∀ B, B ≤ b → Below B w (((w.setCell ⟨b, 9, none⟩ u).setCell ⟨b, 10, none⟩ v).setCell ⟨b, 11, none⟩ z) :=
  ⟨fun c hc i => World.cell?_of_block (by
    show _ = _
    rw [Below.heap_setCell _ _ _ _ (by exact hc), Below.heap_setCell _ _ _ _ (by exact hc), Below.heap_setCell _ _ _ _ (by exact hc)]), fun B hB => (((Below.refl B w).setCell (by exact hB) _).setCell (by exact hB) _).setCell (by exact hB) _⟩
theorem RM.nogoals {w : World} {B : Nat} {x : M8} {m : MT} (h : RM w B x m) : RM w B (noG x) { m with asm := [], ens := [], prio := [] } :=
  ⟨h.1, h.2.1, h.2.2.1, h.2.2.2.1, h.2.2.2.2.1, h.2.2.2.2.2.1, nil_rows _ _ _ _, nil_rows _ _ _ _, nil_rows _ _ _ _⟩
theorem infoE : (Try.prog.info? 25).map (fun i => (i.zero, i.size, i.bytes)) = some (some (.agg #[.int .i64 0, .int .i64 0, .slice none 0 0]), 3, 40) := by kernel_rfl
def cps (v : List Value) : Nat → List Value
  | 0 => []
  | k + 1 => cps v k ++ v
theorem cps_len (v : List Value) : ∀ k, (cps v k).length = k * v.length
  | 0 => by simp [cps]
  | k + 1 => by rw [cps, List.length_append, cps_len v k, Nat.succ_mul]
theorem cps_at {v : List Value} {i : Nat} (hi : i < v.length) : ∀ (k j : Nat), j < k → (cps v k)[j * v.length + i]? = v[i]?
  | 0, j, h => by omega
  | k + 1, j, h => by
    rw [cps]
    by_cases hj : j < k
    · rw [List.getElem?_append_left (by rw [cps_len]; have := Nat.mul_le_mul_right v.length (show j + 1 ≤ k by omega); rw [Nat.succ_mul] at this; omega)]
      exact cps_at hi k j hj
    · have e : j = k := by omega
      subst e
      rw [List.getElem?_append_right (by rw [cps_len]; omega), cps_len]
      congr 1; omega
theorem rows_of_own {w : World} {base k cc B : Nat} {O : Option Addr} {op n : Int} {A : Option Addr} {len cap : Nat} {t : T} (h : w.ownsRow base 25 3 (.slice O k cc) k (cps [.int .i64 op, .int .i64 n, .slice A len cap] k)) (he : EX w B ⟨op, n, A, len, cap⟩ t) (hB : B ≤ w.heap.size) : Rows ExAt 3 w w.heap.size ⟨O, k, cc⟩ (List.replicate k t) := by
  have hcap : k ≤ cc ∧ cc ≤ maxLen := by
    rcases h.2 with ⟨e, _⟩ | ⟨g, cap, cur, e, _, _, h1, h2, _⟩
    · injection e with e1 e2 e3; subst e2; subst e3; unfold maxLen; omega
    · injection e with e1 e2 e3; subst e3; exact ⟨h1, h2⟩
  have hnil : O = none → cc = 0 := fun e => by
    rcases h.2 with ⟨e1, _⟩ | ⟨g, cap, cur, e1, _⟩
    · injection e1
    · injection e1 with e1; rw [e] at e1; cases e1
  refine ⟨by simp, hcap.1, hcap.2, fun hn => ?_, hnil⟩
  obtain ⟨g, cap2, hv, hb, hlt⟩ := h.form hn
  have hA : O = some ⟨g, 0, none⟩ := by injection hv
  subst hA
  refine ⟨g, 0, rfl, hlt, fun j u hu => ?_⟩
  obtain ⟨hj, e⟩ := List.getElem?_eq_some_iff.1 hu
  simp at hj e
  subst e
  have cell : ∀ j v, (cps [.int .i64 op, .int .i64 n, .slice A len cap] k)[j]? = some v → w.cell? ⟨g, j, none⟩ = some v := fun j v hv => by
    have := h.cells (g := g) rfl j v hv
    by_cases hj : j = 0
    · subst hj; simpa [Addr.add] using this
    · simpa [Addr.add, hj] using this
  refine ⟨⟨op, n, A, len, cap⟩, ⟨?_, ?_, ?_⟩, he.more hB⟩
  · rw [Nat.zero_add]; exact cell _ _ (cps_at (i := 0) (by simp) k j hj)
  · rw [Nat.zero_add]; exact cell _ _ (cps_at (i := 1) (by simp) k j hj)
  · rw [Nat.zero_add]; exact cell _ _ (cps_at (i := 2) (by simp) k j hj)
def acOk (ops : Array Oper) : Bool := (List.range ops.size).all (fun j => match ops[j]? with
  | some o => o.after.all (fun e => !(Region.binds .any e) || decide (e.on < j))
  | none => true)
theorem acOk_spec {ops : Array Oper} (h : acOk ops = true) : ∀ (j : Nat) (o : Oper), ops[j]? = some o → ∀ e ∈ o.after, Region.binds .any e = true → e.on < j := fun j o ho e he hb => by
  unfold acOk at h
  rw [List.all_eq_true] at h
  have hj : j < ops.size := (Array.getElem?_eq_some_iff.1 ho).1
  have := h j (by simpa using hj)
  rw [ho] at this
  simp only [Array.all_eq_true'] at this
  have h2 := this e he
  rw [hb] at h2
  simpa using h2
def gA (x : M8) (s : SL) : M8 := { x with asm := s, ens := ⟨none, 0, 0⟩, prio := ⟨none, 0, 0⟩ }
def gB (x : M8) (s : SL) : M8 := { x with asm := ⟨none, 0, 0⟩, ens := ⟨none, 0, 0⟩, prio := s }
def gC (x : M8) (s u : SL) : M8 := { x with asm := ⟨none, 0, 0⟩, ens := s, prio := u }
theorem twelve {i : Nat} (hi : i < 12) : i = 0 ∨ i = 1 ∨ i = 2 ∨ i = 3 ∨ i = 4 ∨ i = 5 ∨ i = 6 ∨ i = 7 ∨ i = 8 ∨ i = 9 ∨ i = 10 ∨ i = 11 := by omega
theorem row_gA {w : World} {g : Nat} {x : M8} {s : SL} (h : w.rowIs g 28 12 (fun i => if i = 9 then s.v else mV (noG x) i)) : w.rowIs g 28 12 (mV (gA x s)) :=
  h.congr (fun i hi => by rcases twelve hi with rfl | rfl | rfl | rfl | rfl | rfl | rfl | rfl | rfl | rfl | rfl | rfl <;> rfl)
theorem row_gB {w : World} {g : Nat} {x : M8} {s : SL} (h : w.rowIs g 28 12 (fun i => if i = 11 then s.v else mV (noG x) i)) : w.rowIs g 28 12 (mV (gB x s)) :=
  h.congr (fun i hi => by rcases twelve hi with rfl | rfl | rfl | rfl | rfl | rfl | rfl | rfl | rfl | rfl | rfl | rfl <;> rfl)
theorem row_gC {w : World} {g : Nat} {x : M8} {s u : SL} (h : w.rowIs g 28 12 (fun i => if i = 11 then u.v else if i = 10 then s.v else mV (noG x) i)) : w.rowIs g 28 12 (mV (gC x s u)) :=
  h.congr (fun i hi => by rcases twelve hi with rfl | rfl | rfl | rfl | rfl | rfl | rfl | rfl | rfl | rfl | rfl | rfl <;> rfl)
theorem one_row {w : World} {M : Nat} {op n : Int} {A : Option Addr} {len cap : Nat} {t : T} (hn : w.heap[M]? = some (.cells #[.int .i64 op, .int .i64 n, .slice A len cap] 25 (0, 0))) (he : EX w (M + 1) ⟨op, n, A, len, cap⟩ t) : Rows ExAt 3 w (M + 1) ⟨some ⟨M, 0, none⟩, 1, 1⟩ [t] := by
  refine ⟨rfl, Nat.le_refl _, by show 1 ≤ maxLen; unfold maxLen; omega, fun _ => ⟨M, 0, rfl, by omega, fun j u hu => ?_⟩, fun h => by simp at h⟩
  obtain ⟨hj, e⟩ := List.getElem?_eq_some_iff.1 hu
  simp at hj
  subst hj
  simp at e
  subst e
  exact ⟨⟨op, n, A, len, cap⟩, ⟨blk hn rfl, blk hn rfl, blk hn rfl⟩, he⟩
theorem rm_three {w : World} {B : Nat} {x : M8} {m : MT} {s u : SL} {l : List T} {t : T} (h : RM w B (noG x) { m with asm := [], ens := [], prio := [] }) (hs : Rows ExAt 3 w B s l) (hu : Rows ExAt 3 w B u [t]) :
    RM w B (gA x s) { m with asm := l, ens := [], prio := [] } ∧ RM w B (gB x s) { m with asm := [], ens := [], prio := l } ∧ RM w B (gC x s u) { m with asm := [], ens := l, prio := [t] } :=
  ⟨⟨h.1, h.2.1, h.2.2.1, h.2.2.2.1, h.2.2.2.2.1, h.2.2.2.2.2.1, hs, nil_rows _ _ _ _, nil_rows _ _ _ _⟩, ⟨h.1, h.2.1, h.2.2.1, h.2.2.2.1, h.2.2.2.2.1, h.2.2.2.2.2.1, nil_rows _ _ _ _, nil_rows _ _ _ _, hs⟩, ⟨h.1, h.2.1, h.2.2.1, h.2.2.2.1, h.2.2.2.2.1, h.2.2.2.2.2.1, nil_rows _ _ _ _, hs, hu⟩⟩
set_option maxRecDepth 100000 in
set_option maxHeartbeats 8000000 in
theorem mgoals_any (B : Nat) (x : M8) (m : MT) (y : E5) (t : T) (k : Int) (w : World) (hB : B ≤ w.heap.size) (hrm : RM w B x m) (hex : EX w B y t) :
    Calls Try.prog 5 #[.agg x.cells, y.v, .int .i64 k] w fun e w' => e = .returned (.bool true) ∧ Below w.heap.size w w' := by
  obtain ⟨q, hq8, hqe⟩ : ∃ q : Nat, q < 8 ∧ (IntKind.u64.wrap k).tmod 8 = (q : Int) := by
    have h0 : 0 ≤ IntKind.u64.wrap k := by rw [IntKind.wrap_u64]; omega
    refine ⟨((IntKind.u64.wrap k).tmod 8).toNat, ?_, ?_⟩
    · rw [Int.tmod_eq_emod_of_nonneg h0]; omega
    · rw [Int.tmod_eq_emod_of_nonneg h0]; omega
  have hqw : IntKind.i64.wrap (q : Int) = (q : Int) := by rw [IntKind.wrap_i64]; omega
  obtain ⟨yo, yn, yA, yl, yc⟩ := y
  have hbx := ((Below.refl w.heap.size w).alloc (Nat.le_refl _) (.cells x.cells 28)).alloc (by simp) (.cells #[.int .i64 yo, .int .i64 yn, .slice yA yl yc] 25)
  have hz0 : ((w.alloc (.cells x.cells 28)).alloc (.cells #[.int .i64 yo, .int .i64 yn, .slice yA yl yc] 25)).heap.size = w.heap.size + 2 := by simp
  have e1 : (w.alloc (.cells x.cells 28)).heap.size = w.heap.size + 1 := by simp
  have hr0 := (mV_new w x).alloc (.cells #[.int .i64 yo, .int .i64 yn, .slice yA yl yc] 25)
  have hb3 := box_new (w.alloc (.cells x.cells 28)) yo yn yA yl yc 25
  rw [e1] at hb3
  have Hr0 := hide hr0
  have Hb3 := hide hb3
  have Hrm := hide (hrm.below (hbx.mono hB))
  have Hex := hide (hex.below (hbx.mono hB))
  have Hb0 := hide hbx
  have Hm0 := hide (mV_box hr0)
  clear hrm hex hbx hr0 hb3 e1
  obtain ⟨⟨vA, vn, vc⟩, ⟨io, im, iA, il, ic⟩, ⟨jo, jm, jA, jl, jc⟩, ⟨eA, en, ec⟩, ⟨sA, sn, sc⟩, ⟨aA, an, ac⟩, ⟨nA, nn, nc⟩, ⟨pA, pn, pc⟩⟩ := x
  simp only [M8.cells, SL.v, E5.v] at *
  go_enter Try.func5, Try.ntmps5
  go_wp2_with fail
  generalize (w.alloc (.cells #[.slice vA vn vc, .int .i64 io, .int .i64 im, .slice iA il ic, .int .i64 jo, .int .i64 jm, .slice jA jl jc, .slice eA en ec, .slice sA sn sc, .slice aA an ac, .slice nA nn nc, .slice pA pn pc] 28)).alloc (.cells #[.int .i64 yo, .int .i64 yn, .slice yA yl yc] 25) = W at *
  generalize hN : w.heap.size = N at *
  have hBW : B ≤ W.heap.size := by omega
  have Hc : Hid (∀ (v : Value) w', (v = .agg #[.slice vA vn vc, .int .i64 io, .int .i64 im, .slice iA il ic, .int .i64 jo, .int .i64 jm, .slice jA jl jc, .slice eA en ec, .slice sA sn sc, .slice aA an ac, .slice nA nn nc, .slice pA pn pc] ∨ v = .agg #[.slice none 0 0, .int .i64 yo, .int .i64 yn, .slice yA yl yc, .int .i64 0, .int .i64 0, .slice none 0 0, .slice none 0 0, .slice none 0 0, .slice none 0 0, .slice none 0 0, .slice none 0 0]) → Hid (Below W.heap.size W w') → Calls Try.prog 7 #[v] w' fun e w'' => ∃ k : Int, e = .returned (.int .i64 k) ∧ 0 ≤ k ∧ k ≤ 1000000 ∧ Hid (Below W.heap.size W w'')) := hide (fun v w' hv hs => by
    rcases hv with rfl | rfl
    · exact c_hvy (x := ⟨⟨vA, vn, vc⟩, ⟨io, im, iA, il, ic⟩, ⟨jo, jm, jA, jl, jc⟩, ⟨eA, en, ec⟩, ⟨sA, sn, sc⟩, ⟨aA, an, ac⟩, ⟨nA, nn, nc⟩, ⟨pA, pn, pc⟩⟩) hBW Hrm hs
    · exact c_hvy (x := ⟨⟨none, 0, 0⟩, ⟨yo, yn, yA, yl, yc⟩, ⟨0, 0, none, 0, 0⟩, ⟨none, 0, 0⟩, ⟨none, 0, 0⟩, ⟨none, 0, 0⟩, ⟨none, 0, 0⟩, ⟨none, 0, 0⟩⟩) hBW (hide (ie_rm Hex.out)) hs)
  have Hkp : Hid (∀ w', Hid (Below W.heap.size W w') → w'.cell? ⟨N, 0, none⟩ = some (.slice vA vn vc) ∧ w'.cell? ⟨N, 1, none⟩ = some (.int .i64 io) ∧ w'.cell? ⟨N, 2, none⟩ = some (.int .i64 im) ∧ w'.cell? ⟨N, 3, none⟩ = some (.slice iA il ic) ∧ w'.cell? ⟨N, 4, none⟩ = some (.int .i64 jo) ∧ w'.cell? ⟨N, 5, none⟩ = some (.int .i64 jm) ∧ w'.cell? ⟨N, 6, none⟩ = some (.slice jA jl jc) ∧ w'.cell? ⟨N, 7, none⟩ = some (.slice eA en ec) ∧ w'.cell? ⟨N, 8, none⟩ = some (.slice sA sn sc) ∧ w'.cell? ⟨N, 9, none⟩ = some (.slice aA an ac) ∧ w'.cell? ⟨N, 10, none⟩ = some (.slice nA nn nc) ∧ w'.cell? ⟨N, 11, none⟩ = some (.slice pA pn pc) ∧ w'.cell? ⟨N + 1, 0, none⟩ = some (.int .i64 yo) ∧ w'.cell? ⟨N + 1, 1, none⟩ = some (.int .i64 yn) ∧ w'.cell? ⟨N + 1, 2, none⟩ = some (.slice yA yl yc)) := hide (fun w' hs => by
    obtain ⟨a, b0, b1, b2⟩ := keep15 Hm0 Hb3 (by omega) (by omega) hs
    exact ⟨a 0 _ rfl, a 1 _ rfl, a 2 _ rfl, a 3 _ rfl, a 4 _ rfl, a 5 _ rfl, a 6 _ rfl, a 7 _ rfl, a 8 _ rfl, a 9 _ rfl, a 10 _ rfl, a 11 _ rfl, b0, b1, b2⟩)
  have Hdr : Hid (Below W.heap.size W W.drew) := hide (Below.refl _ _).drew
  go_region_held3 (fun w' => w'.cell? ⟨N, 0, none⟩ = some (.slice vA vn vc) ∧ w'.cell? ⟨N, 1, none⟩ = some (.int .i64 io) ∧ w'.cell? ⟨N, 2, none⟩ = some (.int .i64 im) ∧ w'.cell? ⟨N, 3, none⟩ = some (.slice iA il ic) ∧ w'.cell? ⟨N, 4, none⟩ = some (.int .i64 jo) ∧ w'.cell? ⟨N, 5, none⟩ = some (.int .i64 jm) ∧ w'.cell? ⟨N, 6, none⟩ = some (.slice jA jl jc) ∧ w'.cell? ⟨N, 7, none⟩ = some (.slice eA en ec) ∧ w'.cell? ⟨N, 8, none⟩ = some (.slice sA sn sc) ∧ w'.cell? ⟨N, 9, none⟩ = some (.slice aA an ac) ∧ w'.cell? ⟨N, 10, none⟩ = some (.slice nA nn nc) ∧ w'.cell? ⟨N, 11, none⟩ = some (.slice pA pn pc) ∧ w'.cell? ⟨N + 1, 0, none⟩ = some (.int .i64 yo) ∧ w'.cell? ⟨N + 1, 1, none⟩ = some (.int .i64 yn) ∧ w'.cell? ⟨N + 1, 2, none⟩ = some (.slice yA yl yc))
    (first | exact Hkp.out _ (by assumption))
    (first
      | (go_at_call 7; refine (Hc.out _ _ (by first | exact Or.inl rfl | exact Or.inr rfl) (by assumption)).mono ?_; rintro e v1 ⟨k1, rfl, k10, k11, hp1⟩))
  rename_i va ka ka0 ka1 hpa hheld
  clear hheld hpa va Hc Hkp Hdr Hm0
  have hws : IntKind.i64.wrap (ka + k1) = ka + k1 := by rw [IntKind.wrap_i64]; omega
  rw [hws]
  clear hws
  have hz1 := hp1.out.size
  have Hb1 := hide (Hb0.out.trans (hp1.out.mono (by omega)))
  by_cases hh : 0 < ka + k1
  · have hhb : decide (0 < ka + k1) = true := by simp [hh]
    go_wp2_with (go_at_call 9; refine (awake_any _).mono ?_; rintro e w2 ⟨rfl, hb2⟩)
    go_ret
    exact ⟨rfl, by rw [hN]; exact Hb1.out.trans (hb2.mono (by omega))⟩
  · have hhb : decide (0 < ka + k1) = false := by simp; omega

    have hr1 := Hr0.out.of_block (hp1.out.block _ (by omega))
    have Hrm1 := hide (Hrm.out.below (hp1.out.mono hBW))
    have Hex1 := hide (Hex.out.below (hp1.out.mono hBW))
    obtain ⟨y0, y1, y2⟩ := Hb3.out.below hp1.out (by omega)
    have hr2 := nil3 hr1
    obtain ⟨c0, c1, c2, c3, c4, c5, c6, c7, c8, c9, c10, c11⟩ := box12 (mV_box hr2)
    simp only [noG, SL.v] at c0 c1 c2 c3 c4 c5 c6 c7 c8 c9 c10 c11
    have c9b := mV_box hr1 9 _ rfl
    have c10b := mV_box hr1 10 _ rfl
    have c11b := mV_box hr1 11 _ rfl
    have z9 := hr1.frozen 9
    have z10 := hr1.frozen 10
    have z11 := hr1.frozen 11
    have hbs := set3_below v1 N (.slice none 0 0) (.slice none 0 0) (.slice none 0 0)
    have Hy2 : Hid (Box3 _ (N + 1) yo yn yA yl yc) := hide ⟨(hbs.1 (N + 1) (by omega) 0).trans y0, (hbs.1 (N + 1) (by omega) 1).trans y1, (hbs.1 (N + 1) (by omega) 2).trans y2⟩
    have y0' := (hbs.1 (N + 1) (by omega) 0).trans y0
    have y1' := (hbs.1 (N + 1) (by omega) 1).trans y1
    have y2' := (hbs.1 (N + 1) (by omega) 2).trans y2
    have hbs2 := hbs.2 N (Nat.le_refl _)
    have hzs : (((v1.setCell ⟨N, 9, none⟩ (.slice none 0 0)).setCell ⟨N, 10, none⟩ (.slice none 0 0)).setCell ⟨N, 11, none⟩ (.slice none 0 0)).heap.size = v1.heap.size := by simp [World.setCell]
    have Hr2 := hide hr2
    have Hrm2 := hide (RM.nogoals (Hrm1.out.below (hbs2.mono (by omega))))
    have Hex2 := hide (Hex1.out.below (hbs2.mono (by omega)))
    have Hb2 := hide (Hb1.out.trans (hbs2.mono (by omega)))
    clear hr1 hr2 hbs hbs2 Hrm1 Hex1 y0 y1 y2 Hr0 Hb3 Hrm Hex Hb0 Hb1
    go_wp2_with fail
    clear hh hhb k10 k11 ka0 ka1 c0 c1 c2 c3 c4 c5 c6 c7 c8 c9 c10 c11 c9b c10b c11b z9 z10 z11 y0' y1' y2'
    generalize (((v1.setCell ⟨N, 9, none⟩ (.slice none 0 0)).setCell ⟨N, 10, none⟩ (.slice none 0 0)).setCell ⟨N, 11, none⟩ (.slice none 0 0)) = w2 at *
    have hz2 : N + 2 ≤ w2.heap.size := by omega
    clear hzs hz1 hp1 v1 hBW hz0 W
    refine (dmod_any B (noG ⟨⟨vA, vn, vc⟩, ⟨io, im, iA, il, ic⟩, ⟨jo, jm, jA, jl, jc⟩, ⟨eA, en, ec⟩, ⟨sA, sn, sc⟩, ⟨aA, an, ac⟩, ⟨nA, nn, nc⟩, ⟨pA, pn, pc⟩⟩) _ w2 (by omega) Hrm2.out).mono ?_
    rintro e w3 ⟨rfl, hb3⟩
    have hz3 := hb3.size
    have Hr3 := hide (Hr2.out.of_block (hb3.block _ (by omega)))
    have Hrm3 := hide (Hrm2.out.below (hb3.mono (by omega)))
    have Hex3 := hide (Hex2.out.below (hb3.mono (by omega)))
    have Hy3 := hide (Hy2.out.below hb3 (by omega))
    have Hb3 := hide (Hb2.out.trans (hb3.mono (by omega)))
    clear hb3 Hr2 Hrm2 Hex2 Hb2 Hy2
    generalize hmo : modE { m with asm := [], ens := [], prio := [] } = r at *
    have Hmo := hide hmo
    clear hmo
    obtain ⟨y0, y1, y2⟩ := Hy3.out
    have v0 : w3.cell? ⟨N, 0, none⟩ = some (.slice vA vn vc) := mV_box Hr3.out 0 _ rfl
    by_cases hr : r = 0
    · subst hr
      have Hne : Hid (∀ w', Below w3.heap.size w3 w' → Calls Try.prog 12 #[.slice vA vn vc, .agg #[.int .i64 yo, .int .i64 yn, .slice yA yl yc], .int .i64 1, .bool true, .bool false, .bool false] w' fun e w'' => e = .returned (.int .i64 (needE m.vars t 1 true false false)) ∧ Below w'.heap.size w' w'') := hide (fun w' hb => by
        obtain ⟨d, hre⟩ := Hex3.out
        have h1 := Hrm3.out
        exact rneeds_any B vA vn vc m.vars d yo yn yA yl yc t 1 true false false w' h1.1.1 h1.1.2.1 h1.1.2.2.1 (by have := hb.size; omega) (hre.below (hb.mono (by omega))) (h1.2.1.below (hb.mono (by omega))) h1.1.2.2.2)
      go_wp2_with fail
      refine (Hne.out w3 (Below.refl _ _)).mono ?_
      rintro e w4 ⟨rfl, hb4⟩
      clear y0 y1 y2 v0
      have hz4 := hb4.size
      have Hr4 := hide (Hr3.out.of_block (hb4.block _ (by omega)))
      have Hrm4 := hide (Hrm3.out.below (hb4.mono (by omega)))
      have Hex4 := hide (Hex3.out.below (hb4.mono (by omega)))
      have Hy4 := hide (Hy3.out.below hb4 (by omega))
      have Hb4 := hide (Hb3.out.trans (hb4.mono (by omega)))
      clear hb4 Hr3 Hrm3 Hex3 Hb3 Hy3 Hne
      generalize hnd : needE m.vars t 1 true false false = r at *
      have Hnd := hide hnd
      clear hnd
      by_cases hr : r = 0
      · subst hr
        have hz4' : N + 2 ≤ w4.heap.size := by omega
        clear hz3 hz4 hz2
        obtain ⟨i0, hi0, hi1, hi2, hi3⟩ := info_parts infoE
        have Hi0 := hide hi0; have Hi1 := hide hi1; have Hi2 := hide hi2; have Hi3 := hide hi3
        clear hi0 hi1 hi2 hi3
        go_wp2_with fail
        go_loopw [7, 41] (fun l i wr => ∃ (k cc : Nat) (O : Option Addr), k ≤ q ∧ i = .int .i64 k ∧ l = .slice O k cc ∧ wr.ownsRow w4.heap.size 25 3 (.slice O k cc) k (cps [.int .i64 yo, .int .i64 yn, .slice yA yl yc] k) ∧ Below w4.heap.size w4 wr) (fun _ i _ => q - (intOf i).toNat)
        case atStart => exact ⟨0, 0, none, by omega, rfl, rfl, World.ownsRow_nil _ _ _ _, Below.refl _ _⟩
        case round =>
          obtain ⟨k, cc, O, hk, rfl, rfl, hown, hb⟩ := hrel
          have hsz := hb.size
          have Hown := hide hown
          have Hb := hide hb
          clear hown hb
          by_cases hlt : k < q
          · have hlt' : ((k : Int) < (q : Int)) := by omega
            obtain ⟨y0, y1, y2⟩ := Hy4.out.below Hb.out (by omega)
            have Hb5 : Hid (∀ w5 : World, (wr.alloc (.cells #[.int .i64 yo, .int .i64 yn, .slice yA yl yc] 25)).grownBy w5 (Value.slice O k cc).ownBlock → Below w4.heap.size w4 w5) := hide (fun w5 hgrow => (Hb.out.alloc (by omega) _).grown hgrow (by simp; omega) (fun j hj => by have := (Hown.out.lt j hj).1; omega))
            go_wp2_with (at_builtin; refine wpList_append_lies _ rfl _ _ _ rfl w4.heap.size 25 i0 _ 3 40 Try.underlying23 Hi0.out Hi1.out Hi2.out Hi3.out rfl (by omega) (.slice O k cc) k (cps [.int .i64 yo, .int .i64 yn, .slice yA yl yc] k) rfl (Hown.out.alloc _) ⟨wr.heap.size, 0, none⟩ 1 1 [.int .i64 yo, .int .i64 yn, .slice yA yl yc] rfl rfl (World.news_of_block (cs := #[.int .i64 yo, .int .i64 yn, .slice yA yl yc]) (t := 25) (fr := (0, 0)) (heap_alloc_new wr _)) (by simp [Value.oneCell']) (by omega) (by unfold maxLen; omega) (by omega) (by simp; omega) _ rfl ?_; intro gg cap w5 hown5 hgrow hat hlt5; have hb5 := Hb5.out w5 hgrow; clear hgrow hat hlt5)
            go_roundw
            case rel => exact ⟨k + 1, cap, some ⟨gg, 0, none⟩, by omega, by go_num, rfl, hown5, hb5⟩
            case measure => simp [intOf]; omega
          · have hlt' : ¬ ((k : Int) < (q : Int)) := by omega
            obtain rfl : k = q := by omega
            have Hrows := hide (rows_of_own Hown.out (Hex4.out.below (Hb.out.mono (by omega))) (by omega))
            have Hr5 := hide (Hr4.out.of_block (Hb.out.block _ (by omega)))
            have Hrm5 := hide (Hrm4.out.below (Hb.out.mono (by omega)))
            have Hex5 := hide (Hex4.out.below (Hb.out.mono (by omega)))
            have Hy5 := hide (Hy4.out.below Hb.out (by omega))
            have Hb5 := hide (Hb4.out.trans (Hb.out.mono (by omega)))
            have hz5 : N + 2 ≤ wr.heap.size := by omega
            clear Hown Hb Hr4 Hrm4 Hex4 Hy4 Hb4 hsz hlt hlt'
            obtain ⟨c0, c1, c2, c3, c4, c5, c6, c7, c8, c9, c10, c11⟩ := box12 (mV_box Hr5.out)
            simp only [noG, SL.v] at c0 c1 c2 c3 c4 c5 c6 c7 c8 c9 c10 c11
            go_wp2_with fail
            clear c0 c1 c2 c3 c4 c5 c6 c7 c8 c9 c10 c11
            refine copies (n := 3) (src := 3) (b := N) (x := noG ⟨⟨vA, vn, vc⟩, ⟨io, im, iA, il, ic⟩, ⟨jo, jm, jA, jl, jc⟩, ⟨eA, en, ec⟩, ⟨sA, sn, sc⟩, ⟨aA, an, ac⟩, ⟨nA, nn, nc⟩, ⟨pA, pn, pc⟩⟩) (fun j => 48 + j) (fun j => 8 + j) [48, 49, 50, 8, 9, 10] (by kernel_rfl) (by kernel_rfl) ?_ ?_ ?_ (acOk_spec (by kernel_rfl)) ?_ (by decide) (fun i j hi hj => by omega) (fun i j hi hj hne => by omega) rfl (mV_box Hr5.out) (by omega) ?_
            · intro j hj
              have h : j = 0 ∨ j = 1 ∨ j = 2 := by omega
              rcases h with rfl | rfl | rfl <;> exact ⟨_, _, _, rfl⟩
            · intro j hj
              have h : j = 0 ∨ j = 1 ∨ j = 2 := by omega
              rcases h with rfl | rfl | rfl <;> exact ⟨_, _, _, rfl⟩
            · intro j hj
              have h : j = 0 ∨ j = 1 ∨ j = 2 := by omega
              rcases h with rfl | rfl | rfl
              · exact ⟨_, _, _, rfl, ⟨⟨0, .data⟩, by simp, rfl, by kernel_rfl⟩, ⟨⟨3, .data⟩, by simp, rfl, by kernel_rfl⟩⟩
              · exact ⟨_, _, _, rfl, ⟨⟨1, .data⟩, by simp, rfl, by kernel_rfl⟩, ⟨⟨4, .data⟩, by simp, rfl, by kernel_rfl⟩⟩
              · exact ⟨_, _, _, rfl, ⟨⟨2, .data⟩, by simp, rfl, by kernel_rfl⟩, ⟨⟨5, .data⟩, by simp, rfl, by kernel_rfl⟩⟩
            · intro j hj
              have h : j = 0 ∨ j = 1 ∨ j = 2 := by omega
              rcases h with rfl | rfl | rfl <;> exact ⟨by simp, by simp, by simp, by simp⟩
            intro v p w6 hv hpp hb6
            obtain ⟨l0, d0, p00, p01, hp0⟩ := hv 0 (by omega)
            obtain ⟨l1, d1, p10, p11, hp1⟩ := hv 1 (by omega)
            obtain ⟨l2, d2, p20, p21, hp2⟩ := hv 2 (by omega)
            simp only [Nat.add_zero, Nat.reduceAdd] at l0 l1 l2 d0 d1 d2
            have n01 := hpp 0 1 (by omega) (by omega) (by omega)
            have n02 := hpp 0 2 (by omega) (by omega) (by omega)
            have n12 := hpp 1 2 (by omega) (by omega) (by omega)
            generalize p 0 = g0 at *
            generalize p 1 = g1 at *
            generalize p 2 = g2 at *
            rw [sel_cons, sel_cons, sel_cons, sel_cons, sel_cons, sel_cons, sel_nil, l0, l1, l2, d0, d1, d2]
            clear hv hpp l0 l1 l2 d0 d1 d2 v p
            have hz6 := hb6.size
            have Hp0 := hide hp0; have Hp1 := hide hp1; have Hp2 := hide hp2
            have Hrm6 := hide (Hrm5.out.below (hb6.mono (by omega)))
            have Hex6 := hide (Hex5.out.below (hb6.mono (by omega)))
            have Hy6 := hide (Hy5.out.below hb6 (by omega))
            have Hb6 := hide (Hb5.out.trans (hb6.mono (by omega)))
            have Hrows6 := hide (Rows.keep Hrows.out (fun b o x h1 hx => ExAt.keep h1 hx (fun _ hp => hb6.cell hp)))
            clear hp0 hp1 hp2 hb6 Hr5 Hrm5 Hex5 Hy5 Hb5 Hrows
            simp only [noG, M8.cells, SL.v]
            go_simp
            have Ha7 : Hid ((w6.setCell ⟨g0, 9, none⟩ (.slice O k cc)).rowIs g0 28 12 _) := hide (Hp0.out.set 9 (.slice O k cc))
            have Hp17 : Hid ((w6.setCell ⟨g0, 9, none⟩ (.slice O k cc)).rowIs g1 28 12 _) := hide (Hp1.out.of_block (Below.heap_setCell _ _ _ _ (by show g1 ≠ g0; omega)))
            have a9 := Hp0.out.cell (i := 9) (by omega)
            have z9 := Hp0.out.frozen 9
            have b11 := Hp17.out.cell (i := 11) (by omega)
            have z11 := Hp17.out.frozen 11
            go_wp2_with fail
            clear a9 z9 b11 z11
            have hf7 : ∀ c, c ≠ g0 → c ≠ g1 → ((w6.setCell ⟨g0, 9, none⟩ (.slice O k cc)).setCell ⟨g1, 11, none⟩ (.slice O k cc)).heap[c]? = w6.heap[c]? := fun c h0 h1 => (Below.heap_setCell _ _ _ _ (by exact h1)).trans (Below.heap_setCell _ _ _ _ (by exact h0))
            have hb7 : Below wr.heap.size w6 ((w6.setCell ⟨g0, 9, none⟩ (.slice O k cc)).setCell ⟨g1, 11, none⟩ (.slice O k cc)) := ((Below.refl _ _).setCell (by exact p00) _).setCell (by exact p10) _
            have hz7 : ((w6.setCell ⟨g0, 9, none⟩ (.slice O k cc)).setCell ⟨g1, 11, none⟩ (.slice O k cc)).heap.size = w6.heap.size := by simp [World.setCell]
            have hz7a := Nat.le_of_eq hz7
            have hz7b := Nat.le_of_eq hz7.symm
            clear hz7
            have Hq0 := hide (Ha7.out.of_block (w' := (w6.setCell ⟨g0, 9, none⟩ (.slice O k cc)).setCell ⟨g1, 11, none⟩ (.slice O k cc)) (Below.heap_setCell _ _ _ _ (by show g0 ≠ g1; omega)))
            have Hq1 := hide (Hp17.out.set 11 (.slice O k cc))
            have Hq2 := hide (Hp2.out.of_block (hf7 g2 (by omega) (by omega)))
            have Hrm7 := hide (Hrm6.out.below (hb7.mono (by omega)))
            have Hex7 := hide (Hex6.out.below (hb7.mono (by omega)))
            have Hy7 := hide (Hy6.out.below hb7 (by omega))
            have Hb7 := hide (Hb6.out.trans (hb7.mono (by omega)))
            have Hrows7 := hide (Rows.keep Hrows6.out (fun b o x h1 hx => ExAt.keep h1 hx (fun _ hp => hb7.cell hp)))
            clear hf7 hb7 Ha7 Hp17 Hp0 Hp1 Hp2 Hrm6 Hex6 Hy6 Hb6 Hrows6
            generalize (w6.setCell ⟨g0, 9, none⟩ (.slice O k cc)).setCell ⟨g1, 11, none⟩ (.slice O k cc) = w7 at *
            obtain ⟨y0, y1, y2⟩ := Hy7.out
            have Hs10 := hide (Hq2.out.set 10 (.slice O k cc))
            have far10 : ∀ i, (w7.setCell ⟨g2, 10, none⟩ (.slice O k cc)).cell? ⟨N + 1, i, none⟩ = w7.cell? ⟨N + 1, i, none⟩ := fun i => World.cell?_of_block (Below.heap_setCell _ _ _ _ (by show N + 1 ≠ g2; omega))
            have y0' := (far10 0).trans y0
            have y1' := (far10 1).trans y1
            have y2' := (far10 2).trans y2
            have d10 := Hq2.out.cell (i := 10) (by omega)
            have e10 := Hq2.out.frozen 10
            have d10a := (Hq2.out.alloc (.cells #[.int .i64 yo, .int .i64 yn, .slice yA yl yc] 25)).cell (i := 10) (by omega)
            have e10a := (Hq2.out.alloc (.cells #[.int .i64 yo, .int .i64 yn, .slice yA yl yc] 25)).frozen 10
            have d11 := (Hs10.out.alloc (.cells #[.int .i64 yo, .int .i64 yn, .slice yA yl yc] 25)).cell (i := 11) (by omega)
            have e11 := (Hs10.out.alloc (.cells #[.int .i64 yo, .int .i64 yn, .slice yA yl yc] 25)).frozen 11
            clear far10
            have hg27 : g2 < w7.heap.size := by omega
            go_region
            clear y0 y1 y2 y0' y1' y2' d10 e10 d10a e10a d11 e11
            have Hs11 := hide (((Hs10.out.set 11 (.slice (some ⟨w7.heap.size, 0, none⟩) 1 1)).alloc (.cells #[.int .i64 yo, .int .i64 yn, .slice yA yl yc] 25)).drew)
            have far8 : ∀ c, c ≠ g2 → c < w7.heap.size → (((w7.setCell ⟨g2, 10, none⟩ (.slice O k cc)).setCell ⟨g2, 11, none⟩ (.slice (some ⟨w7.heap.size, 0, none⟩) 1 1)).alloc (.cells #[.int .i64 yo, .int .i64 yn, .slice yA yl yc] 25)).drew.heap[c]? = w7.heap[c]? := fun c h1 h2 => (Below.heap_alloc _ _ _ (by simp [World.setCell]; exact h2)).trans ((Below.heap_setCell _ _ _ _ (by exact h1)).trans (Below.heap_setCell _ _ _ _ (by exact h1)))
            have new8 : (((w7.setCell ⟨g2, 10, none⟩ (.slice O k cc)).setCell ⟨g2, 11, none⟩ (.slice (some ⟨w7.heap.size, 0, none⟩) 1 1)).alloc (.cells #[.int .i64 yo, .int .i64 yn, .slice yA yl yc] 25)).drew.heap[w7.heap.size]? = some (.cells #[.int .i64 yo, .int .i64 yn, .slice yA yl yc] 25 (0, 0)) := by
              have := heap_alloc_new ((w7.setCell ⟨g2, 10, none⟩ (.slice O k cc)).setCell ⟨g2, 11, none⟩ (.slice (some ⟨w7.heap.size, 0, none⟩) 1 1)) (.cells #[.int .i64 yo, .int .i64 yn, .slice yA yl yc] 25)
              have e : ((w7.setCell ⟨g2, 10, none⟩ (.slice O k cc)).setCell ⟨g2, 11, none⟩ (.slice (some ⟨w7.heap.size, 0, none⟩) 1 1)).heap.size = w7.heap.size := by simp [World.setCell]
              rw [e] at this; exact this
            have hz8 : (((w7.setCell ⟨g2, 10, none⟩ (.slice O k cc)).setCell ⟨g2, 11, none⟩ (.slice (some ⟨w7.heap.size, 0, none⟩) 1 1)).alloc (.cells #[.int .i64 yo, .int .i64 yn, .slice yA yl yc] 25)).drew.heap.size = w7.heap.size + 1 := by show (World.heap _).size = _; simp [World.drew, World.setCell]
            have hz8a := Nat.le_of_eq hz8
            have hz8b := Nat.le_of_eq hz8.symm
            clear hz8
            have hb8 : Below wr.heap.size w7 (((w7.setCell ⟨g2, 10, none⟩ (.slice O k cc)).setCell ⟨g2, 11, none⟩ (.slice (some ⟨w7.heap.size, 0, none⟩) 1 1)).alloc (.cells #[.int .i64 yo, .int .i64 yn, .slice yA yl yc] 25)).drew := ((((Below.refl _ _).setCell (by exact p20) _).setCell (by exact p20) _).alloc (by simp [World.setCell]; omega) _).drew
            have Hr0 := hide (Hq0.out.of_block (far8 g0 (by omega) (by omega)))
            have Hr1 := hide (Hq1.out.of_block (far8 g1 (by omega) (by omega)))
            have Hrm8 := hide ((Hrm7.out.below (hb8.mono (by omega))).more (B' := w7.heap.size + 1) (by omega))
            have Hex8 := hide ((Hex7.out.below (hb8.mono (by omega))).more (B' := w7.heap.size + 1) (by omega))
            have Hb8 := hide (Hb7.out.trans (hb8.mono (by omega)))
            have Hrows8 := hide ((Rows.keep Hrows7.out (fun b o x h1 hx => ExAt.keep h1 hx (fun _ hp => hb8.cell hp))).more (B' := w7.heap.size + 1) (by omega) (fun b o x hx => ExAt.more hx (by omega)))
            have Hnew := hide new8
            clear far8 new8 hb8 Hs10 Hq0 Hq1 Hq2 Hrm7 Hex7 Hy7 Hb7 Hrows7
            generalize (((w7.setCell ⟨g2, 10, none⟩ (.slice O k cc)).setCell ⟨g2, 11, none⟩ (.slice (some ⟨w7.heap.size, 0, none⟩) 1 1)).alloc (.cells #[.int .i64 yo, .int .i64 yn, .slice yA yl yc] 25)).drew = w8 at *
            generalize w7.heap.size = M at *
            have Hla := hide (row_gA (x := ⟨⟨vA, vn, vc⟩, ⟨io, im, iA, il, ic⟩, ⟨jo, jm, jA, jl, jc⟩, ⟨eA, en, ec⟩, ⟨sA, sn, sc⟩, ⟨aA, an, ac⟩, ⟨nA, nn, nc⟩, ⟨pA, pn, pc⟩⟩) (s := ⟨O, k, cc⟩) Hr0.out)
            have Hlb := hide (row_gB (x := ⟨⟨vA, vn, vc⟩, ⟨io, im, iA, il, ic⟩, ⟨jo, jm, jA, jl, jc⟩, ⟨eA, en, ec⟩, ⟨sA, sn, sc⟩, ⟨aA, an, ac⟩, ⟨nA, nn, nc⟩, ⟨pA, pn, pc⟩⟩) (s := ⟨O, k, cc⟩) Hr1.out)
            have Hlc := hide (row_gC (x := ⟨⟨vA, vn, vc⟩, ⟨io, im, iA, il, ic⟩, ⟨jo, jm, jA, jl, jc⟩, ⟨eA, en, ec⟩, ⟨sA, sn, sc⟩, ⟨aA, an, ac⟩, ⟨nA, nn, nc⟩, ⟨pA, pn, pc⟩⟩) (s := ⟨O, k, cc⟩) (u := ⟨some ⟨M, 0, none⟩, 1, 1⟩) Hs11.out)
            have Hthree := hide (rm_three Hrm8.out Hrows8.out (one_row Hnew.out Hex8.out))
            have Hlaw := hide (goals_laws k Hmo.out Hnd.out)
            have hzM : M + 1 ≤ w8.heap.size := by omega
            clear hg27
            have hg0 : g0 < w8.heap.size := by omega
            have hg1 : g1 < w8.heap.size := by omega
            have hg2 : g2 < w8.heap.size := by omega
            have hNw : N ≤ w8.heap.size := by omega
            have hk8 : k < 8 := hq8
            clear Hr0 Hr1 Hs11 Hrm8 Hrows8 Hnew Hex8 Hmo Hnd hz8a hz8b hz7a hz7b hz6 p00 p01 p10 p11 p20 p21 n01 n02 n12 hz5 hz4' Hi0 Hi1 Hi2 Hi3 hq8 hqe hqw
            obtain ⟨A, Bv, Cv, Hval⟩ : ∃ A Bv Cv : Int, Hid ((if 4 < k then 7 else 0) = A ∧ (if 6 < k then 7 else 0) = Bv ∧ (if 4 < k then 7 else if k = 0 then 0 else 1) = Cv) := ⟨_, _, _, hide ⟨rfl, rfl, rfl⟩⟩
            have Hca : Hid (∀ w', Below w8.heap.size w8 w' → Calls Try.prog 8 #[.agg (gA ⟨⟨vA, vn, vc⟩, ⟨io, im, iA, il, ic⟩, ⟨jo, jm, jA, jl, jc⟩, ⟨eA, en, ec⟩, ⟨sA, sn, sc⟩, ⟨aA, an, ac⟩, ⟨nA, nn, nc⟩, ⟨pA, pn, pc⟩⟩ ⟨O, k, cc⟩).cells] w' fun e w'' => e = .returned (.int .i64 A) ∧ Below w'.heap.size w' w'') := hide (fun w' hb => by
              have := dmod_any (M + 1) _ _ w' (by have := hb.size; omega) (Hthree.out.1.below (hb.mono hzM))
              rw [Hlaw.out.1, Hval.out.1] at this; exact this)
            have Hcb : Hid (∀ w', Below w8.heap.size w8 w' → Calls Try.prog 8 #[.agg (gB ⟨⟨vA, vn, vc⟩, ⟨io, im, iA, il, ic⟩, ⟨jo, jm, jA, jl, jc⟩, ⟨eA, en, ec⟩, ⟨sA, sn, sc⟩, ⟨aA, an, ac⟩, ⟨nA, nn, nc⟩, ⟨pA, pn, pc⟩⟩ ⟨O, k, cc⟩).cells] w' fun e w'' => e = .returned (.int .i64 Bv) ∧ Below w'.heap.size w' w'') := hide (fun w' hb => by
              have := dmod_any (M + 1) _ _ w' (by have := hb.size; omega) (Hthree.out.2.1.below (hb.mono hzM))
              rw [Hlaw.out.2.1, Hval.out.2.1] at this; exact this)
            have Hcc : Hid (∀ w', Below w8.heap.size w8 w' → Calls Try.prog 8 #[.agg (gC ⟨⟨vA, vn, vc⟩, ⟨io, im, iA, il, ic⟩, ⟨jo, jm, jA, jl, jc⟩, ⟨eA, en, ec⟩, ⟨sA, sn, sc⟩, ⟨aA, an, ac⟩, ⟨nA, nn, nc⟩, ⟨pA, pn, pc⟩⟩ ⟨O, k, cc⟩ ⟨some ⟨M, 0, none⟩, 1, 1⟩).cells] w' fun e w'' => e = .returned (.int .i64 Cv) ∧ Below w'.heap.size w' w'') := hide (fun w' hb => by
              have := dmod_any (M + 1) _ _ w' (by have := hb.size; omega) (Hthree.out.2.2.below (hb.mono hzM))
              rw [Hlaw.out.2.2, Hval.out.2.2] at this; exact this)
            clear Hthree Hlaw
            have hkc : k = 0 ∨ (1 ≤ k ∧ k ≤ 4) ∨ (5 ≤ k ∧ k ≤ 6) ∨ k = 7 := by omega
            rcases hkc with hkc | hkc | hkc | hkc
            · obtain ⟨rfl, rfl, rfl⟩ : A = 0 ∧ Bv = 0 ∧ Cv = 0 := by
                obtain ⟨v1, v2, v3⟩ := Hval.out
                rw [← v1, ← v2, ← v3]
                refine ⟨?_, ?_, ?_⟩ <;> (repeat' split) <;> omega
              have t4 : decide ((4 : Int) < (k : Int)) = false := by simp; omega
              have t4n : decide (4 < k) = false := by simp; omega
              have t6 : decide ((6 : Int) < (k : Int)) = false := by simp; omega
              have t6n : decide (6 < k) = false := by simp; omega
              have t0 : ((k : Int) == 0) = true := by simp; omega
              have t0n : (k == 0) = true := by simp; omega
              clear hkc hk8 Hval
              obtain ⟨c0, c1, c2, c3, c4, c5, c6, c7, c8, c9, c10, c11⟩ := box12 (mV_box Hla.out)
              simp only [gA, SL.v] at c0 c1 c2 c3 c4 c5 c6 c7 c8 c9 c10 c11
              go_wp2_with fail
              clear c0 c1 c2 c3 c4 c5 c6 c7 c8 c9 c10 c11
              refine (Hca.out w8 (Below.refl _ _)).mono ?_
              rintro e w9 ⟨rfl, hb9⟩
              obtain ⟨c0, c1, c2, c3, c4, c5, c6, c7, c8, c9, c10, c11⟩ := box12 ((mV_box Hlb.out).below hb9 hg1)
              simp only [gB, SL.v] at c0 c1 c2 c3 c4 c5 c6 c7 c8 c9 c10 c11
              go_wp2_with fail
              clear c0 c1 c2 c3 c4 c5 c6 c7 c8 c9 c10 c11
              refine (Hcb.out w9 hb9).mono ?_
              rintro e w10 ⟨rfl, hb10⟩
              have hb10' := hb9.trans (hb10.mono hb9.size)
              clear hb9 hb10
              obtain ⟨c0, c1, c2, c3, c4, c5, c6, c7, c8, c9, c10, c11⟩ := box12 ((mV_box Hlc.out).below hb10' hg2)
              simp only [gC, SL.v] at c0 c1 c2 c3 c4 c5 c6 c7 c8 c9 c10 c11
              go_wp2_with fail
              clear c0 c1 c2 c3 c4 c5 c6 c7 c8 c9 c10 c11
              refine (Hcc.out w10 hb10').mono ?_
              rintro e w11 ⟨rfl, hb11⟩
              have hb11' := hb10'.trans (hb11.mono hb10'.size)
              clear hb10' hb11
              go_wp2_with fail
              refine (awake_any _).mono ?_
              rintro e w12 ⟨rfl, hb12⟩
              have hb12' := hb11'.trans (hb12.mono hb11'.size)
              go_wp2_with fail
              go_ret
              exact ⟨rfl, by rw [hN]; exact Hb8.out.trans (hb12'.mono hNw)⟩
            · obtain ⟨rfl, rfl, rfl⟩ : A = 0 ∧ Bv = 0 ∧ Cv = 1 := by
                obtain ⟨v1, v2, v3⟩ := Hval.out
                rw [← v1, ← v2, ← v3]
                refine ⟨?_, ?_, ?_⟩ <;> (repeat' split) <;> omega
              have t4 : decide ((4 : Int) < (k : Int)) = false := by simp; omega
              have t4n : decide (4 < k) = false := by simp; omega
              have t6 : decide ((6 : Int) < (k : Int)) = false := by simp; omega
              have t6n : decide (6 < k) = false := by simp; omega
              have t0 : ((k : Int) == 0) = false := by simp; omega
              have t0n : (k == 0) = false := by simp; omega
              clear hkc hk8 Hval
              obtain ⟨c0, c1, c2, c3, c4, c5, c6, c7, c8, c9, c10, c11⟩ := box12 (mV_box Hla.out)
              simp only [gA, SL.v] at c0 c1 c2 c3 c4 c5 c6 c7 c8 c9 c10 c11
              go_wp2_with fail
              clear c0 c1 c2 c3 c4 c5 c6 c7 c8 c9 c10 c11
              refine (Hca.out w8 (Below.refl _ _)).mono ?_
              rintro e w9 ⟨rfl, hb9⟩
              obtain ⟨c0, c1, c2, c3, c4, c5, c6, c7, c8, c9, c10, c11⟩ := box12 ((mV_box Hlb.out).below hb9 hg1)
              simp only [gB, SL.v] at c0 c1 c2 c3 c4 c5 c6 c7 c8 c9 c10 c11
              go_wp2_with fail
              clear c0 c1 c2 c3 c4 c5 c6 c7 c8 c9 c10 c11
              refine (Hcb.out w9 hb9).mono ?_
              rintro e w10 ⟨rfl, hb10⟩
              have hb10' := hb9.trans (hb10.mono hb9.size)
              clear hb9 hb10
              obtain ⟨c0, c1, c2, c3, c4, c5, c6, c7, c8, c9, c10, c11⟩ := box12 ((mV_box Hlc.out).below hb10' hg2)
              simp only [gC, SL.v] at c0 c1 c2 c3 c4 c5 c6 c7 c8 c9 c10 c11
              go_wp2_with fail
              clear c0 c1 c2 c3 c4 c5 c6 c7 c8 c9 c10 c11
              refine (Hcc.out w10 hb10').mono ?_
              rintro e w11 ⟨rfl, hb11⟩
              have hb11' := hb10'.trans (hb11.mono hb10'.size)
              clear hb10' hb11
              go_wp2_with fail
              refine (awake_any _).mono ?_
              rintro e w12 ⟨rfl, hb12⟩
              have hb12' := hb11'.trans (hb12.mono hb11'.size)
              go_wp2_with fail
              go_ret
              exact ⟨rfl, by rw [hN]; exact Hb8.out.trans (hb12'.mono hNw)⟩
            · obtain ⟨rfl, rfl, rfl⟩ : A = 7 ∧ Bv = 0 ∧ Cv = 7 := by
                obtain ⟨v1, v2, v3⟩ := Hval.out
                rw [← v1, ← v2, ← v3]
                refine ⟨?_, ?_, ?_⟩ <;> (repeat' split) <;> omega
              have t4 : decide ((4 : Int) < (k : Int)) = true := by simp; omega
              have t4n : decide (4 < k) = true := by simp; omega
              have t6 : decide ((6 : Int) < (k : Int)) = false := by simp; omega
              have t6n : decide (6 < k) = false := by simp; omega
              have t0 : ((k : Int) == 0) = false := by simp; omega
              have t0n : (k == 0) = false := by simp; omega
              clear hkc hk8 Hval
              obtain ⟨c0, c1, c2, c3, c4, c5, c6, c7, c8, c9, c10, c11⟩ := box12 (mV_box Hla.out)
              simp only [gA, SL.v] at c0 c1 c2 c3 c4 c5 c6 c7 c8 c9 c10 c11
              go_wp2_with fail
              clear c0 c1 c2 c3 c4 c5 c6 c7 c8 c9 c10 c11
              refine (Hca.out w8 (Below.refl _ _)).mono ?_
              rintro e w9 ⟨rfl, hb9⟩
              obtain ⟨c0, c1, c2, c3, c4, c5, c6, c7, c8, c9, c10, c11⟩ := box12 ((mV_box Hlb.out).below hb9 hg1)
              simp only [gB, SL.v] at c0 c1 c2 c3 c4 c5 c6 c7 c8 c9 c10 c11
              go_wp2_with fail
              clear c0 c1 c2 c3 c4 c5 c6 c7 c8 c9 c10 c11
              refine (Hcb.out w9 hb9).mono ?_
              rintro e w10 ⟨rfl, hb10⟩
              have hb10' := hb9.trans (hb10.mono hb9.size)
              clear hb9 hb10
              obtain ⟨c0, c1, c2, c3, c4, c5, c6, c7, c8, c9, c10, c11⟩ := box12 ((mV_box Hlc.out).below hb10' hg2)
              simp only [gC, SL.v] at c0 c1 c2 c3 c4 c5 c6 c7 c8 c9 c10 c11
              go_wp2_with fail
              clear c0 c1 c2 c3 c4 c5 c6 c7 c8 c9 c10 c11
              refine (Hcc.out w10 hb10').mono ?_
              rintro e w11 ⟨rfl, hb11⟩
              have hb11' := hb10'.trans (hb11.mono hb10'.size)
              clear hb10' hb11
              go_wp2_with fail
              refine (awake_any _).mono ?_
              rintro e w12 ⟨rfl, hb12⟩
              have hb12' := hb11'.trans (hb12.mono hb11'.size)
              go_wp2_with fail
              go_ret
              exact ⟨rfl, by rw [hN]; exact Hb8.out.trans (hb12'.mono hNw)⟩
            · obtain ⟨rfl, rfl, rfl⟩ : A = 7 ∧ Bv = 7 ∧ Cv = 7 := by
                obtain ⟨v1, v2, v3⟩ := Hval.out
                rw [← v1, ← v2, ← v3]
                refine ⟨?_, ?_, ?_⟩ <;> (repeat' split) <;> omega
              have t4 : decide ((4 : Int) < (k : Int)) = true := by simp; omega
              have t4n : decide (4 < k) = true := by simp; omega
              have t6 : decide ((6 : Int) < (k : Int)) = true := by simp; omega
              have t6n : decide (6 < k) = true := by simp; omega
              have t0 : ((k : Int) == 0) = false := by simp; omega
              have t0n : (k == 0) = false := by simp; omega
              clear hkc hk8 Hval
              obtain ⟨c0, c1, c2, c3, c4, c5, c6, c7, c8, c9, c10, c11⟩ := box12 (mV_box Hla.out)
              simp only [gA, SL.v] at c0 c1 c2 c3 c4 c5 c6 c7 c8 c9 c10 c11
              go_wp2_with fail
              clear c0 c1 c2 c3 c4 c5 c6 c7 c8 c9 c10 c11
              refine (Hca.out w8 (Below.refl _ _)).mono ?_
              rintro e w9 ⟨rfl, hb9⟩
              obtain ⟨c0, c1, c2, c3, c4, c5, c6, c7, c8, c9, c10, c11⟩ := box12 ((mV_box Hlb.out).below hb9 hg1)
              simp only [gB, SL.v] at c0 c1 c2 c3 c4 c5 c6 c7 c8 c9 c10 c11
              go_wp2_with fail
              clear c0 c1 c2 c3 c4 c5 c6 c7 c8 c9 c10 c11
              refine (Hcb.out w9 hb9).mono ?_
              rintro e w10 ⟨rfl, hb10⟩
              have hb10' := hb9.trans (hb10.mono hb9.size)
              clear hb9 hb10
              obtain ⟨c0, c1, c2, c3, c4, c5, c6, c7, c8, c9, c10, c11⟩ := box12 ((mV_box Hlc.out).below hb10' hg2)
              simp only [gC, SL.v] at c0 c1 c2 c3 c4 c5 c6 c7 c8 c9 c10 c11
              go_wp2_with fail
              clear c0 c1 c2 c3 c4 c5 c6 c7 c8 c9 c10 c11
              refine (Hcc.out w10 hb10').mono ?_
              rintro e w11 ⟨rfl, hb11⟩
              have hb11' := hb10'.trans (hb11.mono hb10'.size)
              clear hb10' hb11
              go_wp2_with fail
              refine (awake_any _).mono ?_
              rintro e w12 ⟨rfl, hb12⟩
              have hb12' := hb11'.trans (hb12.mono hb11'.size)
              go_wp2_with fail
              go_ret
              exact ⟨rfl, by rw [hN]; exact Hb8.out.trans (hb12'.mono hNw)⟩
      · have hrb : (r != 0) = true := by simp [hr]
        clear Hnd hr
        go_wp2_with (go_at_call 9; refine (awake_any _).mono ?_; rintro e w5 ⟨rfl, hb5⟩)
        go_ret
        exact ⟨rfl, by rw [hN]; exact Hb4.out.trans (hb5.mono (by omega))⟩
    · have hrb : (r != 0) = true := by simp [hr]
      clear Hmo hr
      go_wp2_with (go_at_call 9; refine (awake_any _).mono ?_; rintro e w5 ⟨rfl, hb5⟩)
      go_ret
      exact ⟨rfl, by rw [hN]; exact Hb3.out.trans (hb5.mono (by omega))⟩
end Go.Proofs.Ytddbplgcglgloaa
