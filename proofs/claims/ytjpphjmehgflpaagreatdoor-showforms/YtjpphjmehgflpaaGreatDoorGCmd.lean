/- A page's set: a name, and what it is set to. A page's command: a side, a guard, what is set. A page's commands: a line for each command. -/
import Derived.Test.YtjpphjmehgflpaaGreatDoorHRules
namespace Go.Proofs.YtjpphjmehgflpaaGreatDoor
open Go.RowKit Ex
set_option linter.unusedSimpArgs false
set_option linter.unusedVariables false
section
variable (B b : Nat) (s : SL) (bs : List UInt8) (w : World) (A : Option Addr) (len cap : Nat)
set_option maxRecDepth 100000 in
set_option maxHeartbeats 2000000 in
theorem set_of (k : Nat) (u : Dom.V) (vb off : Nat) (q : Bool) (o1 n1 : Int) (X : List UInt8) (hk : k < s.n) (hA : s.A = some ⟨vb, off, none⟩) (hvb : vb < B) (hc : w.cell? ⟨vb, off + k * 5, none⟩ = some (.string u.nm)) (hB : B ≤ w.heap.size) (hP : Pg B b s bs w)
    (hE : q = false → Ex35 B b s (.agg #[.int .i64 o1, .int .i64 n1, .slice A len cap]) X w) (hX : q = true → X = [97, 110, 121]) (hlen : bs.length + (u.nm.data.toList ++ ([32, 58, 61, 32] ++ X)).length ≤ 140737488355328) :
    Calls Tryz.prog 46 #[.pointer (some ⟨b, 0, none⟩), .agg #[.int .i64 (k : Int), .bool q, .int .i64 o1, .int .i64 n1, .slice A len cap]] w (Wr B b s (bs ++ (u.nm.data.toList ++ ([32, 58, 61, 32] ++ X))) w) := by
  have hlt := hP.lt
  have hge := hP.ge
  obtain ⟨sA, sn, sc⟩ := s
  simp only at hk hA
  subst hA
  have hv : w.cell? ⟨b, 0, none⟩ = some (.slice (some ⟨vb, off, none⟩) sn sc) := hP.vars
  have Hbx : Hid (KP B b w (w.alloc (.cells #[.int .i64 (k : Int), .bool q, .int .i64 o1, .int .i64 n1, .slice A len cap] 42))) := hide ((KP.refl _ _ _).alloc hB _)
  have Hp0 := hide (hP.alloc (.cells #[.int .i64 (k : Int), .bool q, .int .i64 o1, .int .i64 n1, .slice A len cap] 42))
  have HN : Hid ((w.alloc (.cells #[.int .i64 (k : Int), .bool q, .int .i64 o1, .int .i64 n1, .slice A len cap] 42)).heap.size = w.heap.size + 1) := hide (by simp)
  have Hblk : Hid ((w.alloc (.cells #[.int .i64 (k : Int), .bool q, .int .i64 o1, .int .i64 n1, .slice A len cap] 42)).heap[w.heap.size]? = some (.cells #[.int .i64 (k : Int), .bool q, .int .i64 o1, .int .i64 n1, .slice A len cap] 42 (0, 0))) := hide (heap_alloc_new _ _)
  have Hv1 : Hid ((w.alloc (.cells #[.int .i64 (k : Int), .bool q, .int .i64 o1, .int .i64 n1, .slice A len cap] 42)).cell? ⟨b, 0, none⟩ = some (.slice (some ⟨vb, off, none⟩) sn sc)) := hide ((World.cell?_of_block (Lib.alloc_old _ _ _ hlt)).trans hv)
  have Hc1 : Hid ((w.alloc (.cells #[.int .i64 (k : Int), .bool q, .int .i64 o1, .int .i64 n1, .slice A len cap] 42)).cell? ⟨vb, off + k * 5, none⟩ = some (.string u.nm)) := hide ((World.cell?_of_block (Lib.alloc_old _ _ _ (by show vb < _; omega))).trans hc)
  simp only [List.length_append] at hlen
  have Hlen := hide hlen
  have HE := hide hE
  have HX := hide hX
  clear hlen hv hc hP hE hX
  go_enter Tryz.func46, Tryz.ntmps46
  go_wp2_with fail
  generalize w.alloc (.cells #[.int .i64 (k : Int), .bool q, .int .i64 o1, .int .i64 n1, .slice A len cap] 42) = w1 at *
  have hz1 := HN.out
  refine abs_act ?_
  intro a0 ha0
  have e0 : a0.eval (.tmp 0) = .pointer (some ⟨b, 0, none⟩) := by rw [ha0]; rfl
  have e3 : a0.eval (.tmp 3) = .pointer (some ⟨w.heap.size, 0, none⟩) := by rw [ha0]; rfl
  have hsz : 4 + 12 ≤ a0.tmps.size := by rw [ha0]; simp
  have Ha0 := hide ha0
  clear ha0
  refine region_last (n := 11) 4 (PJ [.is (.pointer (some ⟨b, 0, none⟩)), .is (.pointer (some ⟨b, 0, none⟩)), .is (.pointer (some ⟨b, 0, none⟩)), .is (.pointer (some ⟨b, 0, none⟩)), .is (.slice (some ⟨vb, off, none⟩) sn sc), .is (.pointer (some ⟨w.heap.size, 0, none⟩)), .is (.int .i64 (k : Int)), .is (.pointer (some ⟨vb, off + k * 5, none⟩)), .is (.pointer (some ⟨vb, off + k * 5, none⟩)), .is (.string u.nm), .row [u.nm, ⟨#[32, 58, 61, 32]⟩]]) (by kernel_rfl) hsz (by kernel_rfl) (pj_mono _) ?_ ?_
  · clear Ha0
    intro j o v w8 hj ho hb hdep
    have hz8 := hb.out.size
    have hv8 : w8.cell? ⟨b, 0, none⟩ = some (.slice (some ⟨vb, off, none⟩) sn sc) := (hb.out.cell (by show b < _; omega)).trans Hv1.out
    have hx8 : w8.cell? ⟨w.heap.size, 0, none⟩ = some (.int .i64 (k : Int)) := (hb.out.cell (by show w.heap.size < _; omega)).trans (by rw [Lib.cell_of_heap Hblk.out]; rfl)
    have hn8 : w8.cell? ⟨vb, off + k * 5, none⟩ = some (.string u.nm) := (hb.out.cell (by show vb < _; omega)).trans Hc1.out
    have hj2 : j = 0 ∨ j = 1 ∨ j = 2 ∨ j = 3 ∨ j = 4 ∨ j = 5 ∨ j = 6 ∨ j = 7 ∨ j = 8 ∨ j = 9 ∨ j = 10 := by omega
    clear hj
    rcases hj2 with rfl | rfl | rfl | rfl | rfl | rfl | rfl | rfl | rfl | rfl | rfl
    · simp at ho; subst ho
      exact st_move ((over_out (by omega)).trans e0) ⟨_, rfl, rfl, Below.refl _ _⟩
    · simp at ho; subst ho
      exact st_move ((over_out (by omega)).trans e0) ⟨_, rfl, rfl, Below.refl _ _⟩
    · simp at ho; subst ho
      have d1 : v 1 = .pointer (some ⟨b, 0, none⟩) := hdep ⟨1, .data⟩ (by simp) rfl
      exact st_nil ((over_in (j := 1) (by omega) hsz).trans d1) ⟨_, rfl, rfl, Below.refl _ _⟩
    · simp at ho; subst ho
      have d2 : v 2 = .pointer (some ⟨b, 0, none⟩) := hdep ⟨2, .data⟩ (by simp) rfl
      exact st_f58 ((over_in (j := 2) (by omega) hsz).trans d2) ⟨_, rfl, rfl, Below.refl _ _⟩
    · simp at ho; subst ho
      have d3 : v 3 = .pointer (some ⟨b, 0, none⟩) := hdep ⟨3, .data⟩ (by simp) rfl
      exact st_l22 ((over_in (j := 3) (by omega) hsz).trans d3) hv8 ⟨_, rfl, rfl, Below.refl _ _⟩
    · simp at ho; subst ho
      exact st_f48 ((over_out (by omega)).trans e3) ⟨_, rfl, rfl, Below.refl _ _⟩
    · simp at ho; subst ho
      have d5 : v 5 = .pointer (some ⟨w.heap.size, 0, none⟩) := hdep ⟨5, .data⟩ (by simp) rfl
      exact st_l3 ((over_in (j := 5) (by omega) hsz).trans d5) hx8 ⟨_, rfl, rfl, Below.refl _ _⟩
    · simp at ho; subst ho
      have d4 : v 4 = .slice (some ⟨vb, off, none⟩) sn sc := hdep ⟨4, .data⟩ (by simp) rfl
      have d6 : v 6 = .int .i64 (k : Int) := hdep ⟨6, .data⟩ (by simp) rfl
      exact st_idx ((over_in (j := 4) (by omega) hsz).trans d4) ((over_in (j := 6) (by omega) hsz).trans d6) hk ⟨_, rfl, rfl, Below.refl _ _⟩
    · simp at ho; subst ho
      have d7 : v 7 = .pointer (some ⟨vb, off + k * 5, none⟩) := hdep ⟨7, .data⟩ (by simp) rfl
      exact st_f51 ((over_in (j := 7) (by omega) hsz).trans d7) ⟨_, rfl, rfl, Below.refl _ _⟩
    · simp at ho; subst ho
      have d8 : v 8 = .pointer (some ⟨vb, off + k * 5, none⟩) := hdep ⟨8, .data⟩ (by simp) rfl
      exact st_l9 ((over_in (j := 8) (by omega) hsz).trans d8) hn8 ⟨_, rfl, rfl, Below.refl _ _⟩
    · simp at ho; subst ho
      have d9 : v 9 = .string u.nm := hdep ⟨9, .data⟩ (by simp) rfl
      exact st_b2 ((over_in (j := 9) (by omega) hsz).trans d9) ⟨_, rfl, ⟨w8.heap.size, rfl, heap_alloc_new _ _⟩, (Below.refl _ _).alloc (Nat.le_refl _) _⟩
  · intro o v w8 ho hv hb
    simp at ho; subst ho
    have hz8 := hb.out.size
    have q0 : v 0 = .pointer (some ⟨b, 0, none⟩) := hv 0 (by omega)
    obtain ⟨g, q10, hg⟩ : RowP w8 (v 10) [u.nm, ⟨#[32, 58, 61, 32]⟩] := hv 10 (by omega)
    have hP8 : Hid (Pg B b ⟨some ⟨vb, off, none⟩, sn, sc⟩ bs w8) := hide (Hp0.out.below hb.out)
    have Hk8 : Hid (KP B b w w8) := hide (Hbx.out.trans (KP.of_below hb.out (by omega)))
    have Hx8 := hide ((hb.out.block w.heap.size (by omega)).trans Hblk.out)
    have hgb : g ≠ b := fun e => by
      subst e
      rcases hP8.out with ⟨_, _, h, _⟩ | ⟨_, _, h, _⟩ <;> (rw [hg] at h; injection h with h; injection h with _ h; exact absurd h (by decide))
    refine st_put (ss := [u.nm, ⟨#[32, 58, 61, 32]⟩]) ((over_in (j := 0) (by omega) hsz).trans q0) ((over_in (j := 10) (by omega) hsz).trans q10) rfl (by simp) hg hgb hP8.out (by rw [cat2]; have := Hlen.out; simp only [List.length_append]; simp at this ⊢; omega) (by omega) ?_
    intro w9 hp9 hk9
    rw [cat2] at hp9
    have Hp9 := hide hp9
    have Hk9 := hide (Hk8.out.trans hk9)
    have Hx9 := hide (hk9.at_ Hx8.out (by decide) (by omega))
    clear hp9 hk9 hP8 Hk8 hv hg q0 q10 Hx8
    have x1 : w9.cell? ⟨w.heap.size, 1, none⟩ = some (.bool q) := by rw [Lib.cell_of_heap Hx9.out]; rfl
    have x2 : w9.cell? ⟨w.heap.size, 2, none⟩ = some (.int .i64 o1) := by rw [Lib.cell_of_heap Hx9.out]; rfl
    have x3 : w9.cell? ⟨w.heap.size, 3, none⟩ = some (.int .i64 n1) := by rw [Lib.cell_of_heap Hx9.out]; rfl
    have x4 : w9.cell? ⟨w.heap.size, 4, none⟩ = some (.slice A len cap) := by rw [Lib.cell_of_heap Hx9.out]; rfl
    have hz9 := Hk9.out.size
    rw [over_puts, Ha0.out]
    simp only [putsV]
    cases q
    · have HE2 := hide (HE.out rfl)
      clear HE HX
      go_wp2_with fail
      refine (HE2.out _ _ Hk9.out.1 Hp9.out (by have := Hlen.out; simp at this ⊢; omega)).mono ?_
      rintro e w4 ⟨rfl, hp4, hk4⟩
      have Hk4 : Hid (KP B b w w4) := hide (Hk9.out.trans hk4)
      have Hp4 := hide hp4; clear hp4 hk4
      go_wp2_with fail
      go_end0
      refine ⟨rfl, ?_, Hk4.out⟩
      have := Hp4.out
      simp only [List.append_assoc] at this ⊢
      exact this
    · have e := HX.out rfl
      subst e
      go_wp2_with fail
      refine (put_any B b w9.heap.size ⟨some ⟨vb, off, none⟩, sn, sc⟩ _ [bytesOf [97, 110, 121]] 1 _ rfl (by decide) (heap_alloc_new _ _) (by omega) (Hp9.out.alloc _) (by rw [cat1]; have := Hlen.out; simp [bytesOf] at this ⊢; omega) (by simp; omega)).mono ?_
      rintro e w4 ⟨rfl, hp4, hk4⟩
      rw [cat1] at hp4
      have Hk4 : Hid (KP B b w w4) := hide ((Hk9.out.alloc (by omega) _).trans hk4)
      have Hp4 := hide hp4; clear hp4 hk4
      go_wp2_with fail
      go_end0
      refine ⟨rfl, ?_, Hk4.out⟩
      have := Hp4.out
      simp only [bytesOf, List.append_assoc] at this ⊢
      exact this
end
end Go.Proofs.YtjpphjmehgflpaaGreatDoor
namespace Go.Proofs.YtjpphjmehgflpaaGreatDoor
open Go.RowKit Ex
set_option linter.unusedSimpArgs false
set_option linter.unusedVariables false

theorem sets_snoc (l : List Dom.V) : ∀ {ss : List ST} {k : Nat} {x : ST} {pre : List UInt8}, ss[k]? = some x → setsT l pre (ss.take (k + 1)) = setsT l pre (ss.take k) ++ ((if k = 0 then pre else [44, 32]) ++ setT l x)
  | [], k, x, pre, h => by simp at h
  | y :: r, 0, x, pre, h => by simp at h; subst h; simp [setsT]
  | y :: r, k + 1, x, pre, h => by
    simp only [List.getElem?_cons_succ] at h
    simp only [List.take_succ_cons, setsT, List.append_assoc]
    rw [sets_snoc l h]
    simp
theorem sets_le (l : List Dom.V) : ∀ (ss : List ST) (k : Nat) (pre : List UInt8), (setsT l pre (ss.take k)).length ≤ (setsT l pre ss).length
  | [], k, pre => by simp
  | y :: r, 0, pre => by simp [setsT]
  | y :: r, k + 1, pre => by
    simp only [List.take_succ_cons, setsT, List.length_append]
    have := sets_le l r k [44, 32]; omega
def befB (k : Nat) : ByteArray := if k = 0 then ⟨#[32, 100, 111, 32]⟩ else ⟨#[44, 32]⟩
theorem bef_list (k : Nat) : (befB k).data.toList = if k = 0 then [32, 100, 111, 32] else [44, 32] := by
  unfold befB; split <;> rfl

set_option maxHeartbeats 2000000 in
theorem command_any (B b : Nat) (s : SL) (l : List Dom.V) (x : C2) (c : CT) (env : Bool) (bs : List UInt8) (w : World) (hB : B ≤ w.heap.size) (hV : Dom.RV w B s.A s.n l) (hT : TB B w) (hC : RC w B x c) (hok : CmdOk l c) (hP : Pg B b s bs w) (hlen : bs.length + (cmdT l env c).length ≤ 140737488355328) :
    Calls Tryz.prog 21 #[.pointer (some ⟨b, 0, none⟩), .agg x.cells, .bool env] w (Wr B b s (bs ++ cmdT l env c) w) := by
  obtain ⟨⟨go, gn, gA, gl, gc⟩, ⟨rA, rn, rc⟩⟩ := x
  obtain ⟨⟨gd, hge⟩, hR⟩ := hC
  simp only at hge hR
  simp only [C2.cells, SL.v]
  have hnm : rn ≤ maxLen := Nat.le_trans hR.2.1 hR.2.2.1
  unfold maxLen at hnm
  have Hrl := hide hR.1
  simp only at Hrl
  have hlt := hP.lt
  have HEg := hide (expr_any B b s l w hB hV hT gd go gn gA gl gc c.guard hge (sort_gt hok.guard).2.2)
  have HP := hide hP; clear hP hge
  have HV := hide hV; clear hV
  have HT := hide hT; clear hT
  have HR := hide hR; clear hR
  have Hok := hide hok; clear hok
  unfold cmdT at hlen ⊢
  simp only [List.length_append] at hlen
  have Hlen := hide hlen; clear hlen
  have Hblk : Hid ((w.alloc (.cells #[.int .i64 go, .int .i64 gn, .slice gA gl gc, .slice rA rn rc] 31)).heap[w.heap.size]? = some (.cells #[.int .i64 go, .int .i64 gn, .slice gA gl gc, .slice rA rn rc] 31 (0, 0))) := hide (heap_alloc_new _ _)
  have hw1 : Hid ((w.alloc (.cells #[.int .i64 go, .int .i64 gn, .slice gA gl gc, .slice rA rn rc] 31)).heap.size = w.heap.size + 1) := hide (by simp)
  have Hk0 : Hid (KP B b w (w.alloc (.cells #[.int .i64 go, .int .i64 gn, .slice gA gl gc, .slice rA rn rc] 31))) := hide ((KP.refl _ _ _).alloc hB _)
  go_enter Tryz.func21, Tryz.ntmps21
  go_wp2_with fail
  refine (side_any env _).mono ?_
  rintro e w0 ⟨rfl, rfl⟩
  go_wp2_with fail
  refine (put_any B b (w.heap.size + 1) s bs [bytesOf (sideT env), bytesOf [32, 119, 104, 101, 110, 32]] 2 _ rfl (by decide) ?_ (by omega) ((HP.out.alloc _).alloc _) (by rw [cat2]; have := Hlen.out; simp [bytesOf] at this ⊢; omega) (by simp; omega)).mono ?_
  · rw [← hw1.out]; exact heap_alloc_new _ _
  rintro e w1 ⟨rfl, hp1, hk1⟩
  rw [cat2] at hp1
  have Hx1 := hide (hk1.at_ ((Lib.alloc_old _ _ _ (Array.getElem?_eq_some_iff.1 Hblk.out).1).trans Hblk.out) (by decide) (by omega))
  have Hk1 : Hid (KP B b w w1) := hide ((Hk0.out.alloc (by simp; omega) _).trans hk1)
  have Hp1 := hide hp1
  clear hp1 hk1
  have hz1 := Hk1.out.size
  have x0 : w1.cell? ⟨w.heap.size, 0, none⟩ = some (.int .i64 go) := by rw [Lib.cell_of_heap Hx1.out]; rfl
  have x1 : w1.cell? ⟨w.heap.size, 1, none⟩ = some (.int .i64 gn) := by rw [Lib.cell_of_heap Hx1.out]; rfl
  have x2 : w1.cell? ⟨w.heap.size, 2, none⟩ = some (.slice gA gl gc) := by rw [Lib.cell_of_heap Hx1.out]; rfl
  go_wp2_with fail
  refine (HEg.out _ _ Hk1.out.1 Hp1.out (by have := Hlen.out; simp [bytesOf] at this ⊢; omega)).mono ?_
  rintro e w2 ⟨rfl, hp2, hk2⟩
  have Hx2 := hide (hk2.at_ Hx1.out (by decide) (by omega))
  have Hk2 : Hid (KP B b w w2) := hide (Hk1.out.trans hk2)
  have Hp2 := hide hp2
  clear hp2 hk2 x0 x1 x2
  have hz2 := Hk2.out.size
  have x3 : w2.cell? ⟨w.heap.size, 3, none⟩ = some (.slice rA rn rc) := by rw [Lib.cell_of_heap Hx2.out]; rfl
  go_wp2_with fail
  go_loopw [6, 21] (fun bf i wr => ∃ (k : Nat), k ≤ rn ∧ i = .int .i64 k ∧ bf = .string (befB k) ∧ Hid (Pg B b s (bs ++ (sideT env ++ [32, 119, 104, 101, 110, 32]) ++ exT l c.guard ++ setsT l [32, 100, 111, 32] (c.sets.take k)) wr) ∧ Hid (KP B b w wr)) (fun _ i _ => rn - (intOf i).toNat)
  case atStart => exact ⟨0, Nat.zero_le _, rfl, rfl, hide (by simpa [setsT, bytesOf] using Hp2.out), Hk2⟩
  case round =>
    obtain ⟨k, hk, rfl, rfl, Hp, Hk⟩ := hrel
    have hsz := Hk.out.size
    by_cases hlt2 : k < rn
    · have hlt' : ((k : Int) < (rn : Int)) := by omega
      obtain ⟨g, off, st, hA, hgB, hu, hcs⟩ := HR.out.at_ hlt2
      simp only at hA
      subst hA
      have Hu := hide hu; clear hu
      obtain ⟨c0, c1, y, hc, d, hre⟩ := hcs.keep (w' := wr) hgB (fun p hp => Hk.out.1.cell hp)
      obtain ⟨yo, yn, yA, yl, yc⟩ := y
      simp only at hc hre
      have c2 : wr.cell? ⟨g, off + k * 5 + 2, none⟩ = some (.int .i64 yo) := hc.1
      have c3 : wr.cell? ⟨g, off + k * 5 + 3, none⟩ = some (.int .i64 yn) := hc.2.1
      have c4 : wr.cell? ⟨g, off + k * 5 + 4, none⟩ = some (.slice yA yl yc) := hc.2.2
      have Hso := hide (Hok.out.sets st (List.mem_of_getElem? Hu.out))
      have Hre := hide hre; clear hre hc hcs
      obtain ⟨sv, sq, se⟩ := st
      simp only at c0 c1 Hre
      obtain ⟨v, rfl⟩ : ∃ v : Nat, sv = (v : Int) := ⟨sv.toNat, by have := Hso.out.lo; simp at this; omega⟩
      have hvl : v < s.n := by have := Hso.out.hi; simp at this; have := HV.out.1; omega
      obtain ⟨vb, voff, u, hvA, hvb, hvu, hvc⟩ := HV.out.at_ hvl
      have Hst : Hid (setT l ⟨(v : Int), sq, se⟩ = u.nm.data.toList ++ ([32, 58, 61, 32] ++ (if sq = true then [97, 110, 121] else exT l se))) := hide (by
        unfold setT; simp only [nm_key hvu])
      have HvA := hide hvA; clear hvA
      have Hvc := hide (hvc.1); clear hvc hvu
      have HX : Hid (sq = true → (if sq = true then ([97, 110, 121] : List UInt8) else exT l se) = [97, 110, 121]) := hide (fun h => if_pos h)
      have HE : Hid (sq = false → Ex35 B b s (.agg #[.int .i64 yo, .int .i64 yn, .slice yA yl yc]) (if sq = true then ([97, 110, 121] : List UInt8) else exT l se) wr) := hide (fun h => by
        subst h
        exact expr_any B b s l wr (by omega) (HV.out.below Hk.out.1) (HT.out.on Hk.out.1) d yo yn yA yl yc se Hre.out (sort_gt (Hso.out.gt rfl)).2.2)
      generalize (if sq = true then ([97, 110, 121] : List UInt8) else exT l se) = X at *
      have Hl2 : Hid (bs.length + ((sideT env).length + 6) + (exT l c.guard).length + (setsT l [32, 100, 111, 32] (c.sets.take k)).length + (befB k).data.toList.length + (u.nm.data.toList.length + (4 + X.length)) ≤ 140737488355328) := hide (by
        have h1 := Hlen.out
        have h2 := sets_le l c.sets (k + 1) [32, 100, 111, 32]
        rw [sets_snoc l Hu.out, Hst.out, ← bef_list] at h2
        simp only [List.length_append, List.length_cons, List.length_nil] at h1 h2 ⊢
        omega)
      have Hbx : Hid ((wr.alloc (.cells #[.int .i64 (v : Int), .bool sq, .int .i64 yo, .int .i64 yn, .slice yA yl yc] 42)).heap[wr.heap.size]? = some (.cells #[.int .i64 (v : Int), .bool sq, .int .i64 yo, .int .i64 yn, .slice yA yl yc] 42 (0, 0))) := hide (heap_alloc_new _ _)
      have Hbz : Hid ((wr.alloc (.cells #[.int .i64 (v : Int), .bool sq, .int .i64 yo, .int .i64 yn, .slice yA yl yc] 42)).heap.size = wr.heap.size + 1) := hide (by simp)
      go_wp2_with fail
      refine (put_any B b (wr.heap.size + 1) s _ [befB k] 1 _ rfl (by decide) ?_ (by omega) ((Hp.out.alloc _).alloc _) (by rw [cat1]; have := Hl2.out; simp only [List.length_append, List.length_cons, List.length_nil] at this ⊢; omega) (by simp; omega)).mono ?_
      · rw [← Hbz.out]; exact heap_alloc_new _ _
      rintro e w3 ⟨rfl, hp3, hk3⟩
      rw [cat1] at hp3
      have Hx3 := hide (hk3.at_ ((Lib.alloc_old _ _ _ (Array.getElem?_eq_some_iff.1 Hbx.out).1).trans Hbx.out) (by decide) (by omega))
      have Hkr : Hid (KP B b wr w3) := hide ((((KP.refl B b wr).alloc (by omega) _).alloc (by simp; omega) _).trans hk3)
      have Hp3 := hide hp3
      clear hp3 hk3 c0 c1 c2 c3 c4
      have hz3 := Hkr.out.size
      have x0 : w3.cell? ⟨wr.heap.size, 0, none⟩ = some (.int .i64 (v : Int)) := by rw [Lib.cell_of_heap Hx3.out]; rfl
      have x1 : w3.cell? ⟨wr.heap.size, 1, none⟩ = some (.bool sq) := by rw [Lib.cell_of_heap Hx3.out]; rfl
      have x2 : w3.cell? ⟨wr.heap.size, 2, none⟩ = some (.int .i64 yo) := by rw [Lib.cell_of_heap Hx3.out]; rfl
      have x4 : w3.cell? ⟨wr.heap.size, 3, none⟩ = some (.int .i64 yn) := by rw [Lib.cell_of_heap Hx3.out]; rfl
      have x5 : w3.cell? ⟨wr.heap.size, 4, none⟩ = some (.slice yA yl yc) := by rw [Lib.cell_of_heap Hx3.out]; rfl
      go_wp2_with fail
      refine (set_of B b s _ w3 yA yl yc v u vb voff sq yo yn X hvl HvA.out hvb (((Hk.out.trans Hkr.out).1.cell (by exact hvb)).trans Hvc.out) (by omega) Hp3.out (fun h => (HE.out h).on Hkr.out.1) HX.out (by have := Hl2.out; simp only [List.length_append, List.length_cons, List.length_nil] at this ⊢; omega)).mono ?_
      rintro e w4 ⟨rfl, hp4, hk4⟩
      have Hk4 : Hid (KP B b w w4) := hide ((Hk.out.trans Hkr.out).trans hk4)
      have Hp4 := hide hp4
      clear hp4 hk4 x0 x1 x2 x4 x5
      go_wp2_with fail
      go_roundw
      case rel => exact ⟨k + 1, hlt2, by go_num, by simp [befB], hide (by
        rw [sets_snoc l Hu.out, Hst.out, ← bef_list]
        have := Hp4.out
        simp only [List.append_assoc] at this ⊢
        exact this), Hk4⟩
      case measure => simp [intOf]; omega
    · have hlt' : ¬ ((k : Int) < (rn : Int)) := by omega
      have Hkn : Hid (c.sets.length ≤ k) := hide (by have := Hrl.out; omega)
      have Hp9 : Hid (Pg B b s (bs ++ (sideT env ++ [32, 119, 104, 101, 110, 32]) ++ exT l c.guard ++ setsT l [32, 100, 111, 32] c.sets) wr) := hide (by have := Hp.out; rw [List.take_of_length_le Hkn.out] at this; exact this)
      go_wp2_with fail
      refine (put_any B b wr.heap.size s _ [bytesOf [59]] 1 _ rfl (by decide) (heap_alloc_new _ _) (by omega) (Hp9.out.alloc _) (by rw [cat1]; have := Hlen.out; simp [bytesOf] at this ⊢; omega) (by simp; omega)).mono ?_
      rintro e w4 ⟨rfl, hp4, hk4⟩
      rw [cat1] at hp4
      have Hk4 : Hid (KP B b w w4) := hide ((Hk.out.alloc (by omega) _).trans hk4)
      have Hp4 := hide hp4; clear hp4 hk4
      go_wp2_with fail
      go_end0
      refine ⟨rfl, ?_, Hk4.out⟩
      have := Hp4.out
      simp only [bytesOf, List.append_assoc] at this ⊢
      exact this
end Go.Proofs.YtjpphjmehgflpaaGreatDoor
namespace Go.Proofs.YtjpphjmehgflpaaGreatDoor
open Go.RowKit Ex
set_option linter.unusedSimpArgs false
set_option linter.unusedVariables false

set_option maxHeartbeats 2000000 in
theorem commands_any (B b : Nat) (s r : SL) (l : List Dom.V) (cs : List CT) (env : Bool) (bs : List UInt8) (w : World) (hB : B ≤ w.heap.size) (hV : Dom.RV w B s.A s.n l) (hT : TB B w) (hR : Rows CmdAt 4 w B r cs) (hg : ∀ c ∈ cs, CmdOk l c) (hP : Pg B b s bs w)
    (hlen : bs.length + (linesT (cmdLn l env) cs).length ≤ 140737488355328) :
    Calls Tryz.prog 26 #[.pointer (some ⟨b, 0, none⟩), r.v, .bool env] w (Wr B b s (bs ++ linesT (cmdLn l env) cs) w) := by
  obtain ⟨rA, rn, rc⟩ := r
  have hnm : rn ≤ maxLen := Nat.le_trans hR.2.1 hR.2.2.1
  unfold maxLen at hnm
  have Hrl := hide hR.1
  simp only at Hrl
  simp only [SL.v]
  have hlt := hP.lt
  have HP := hide hP; clear hP
  have HV := hide hV; clear hV
  have HT := hide hT; clear hT
  have HR := hide hR; clear hR
  have Hg := hide hg; clear hg
  have Hlen := hide hlen; clear hlen
  go_enter Tryz.func26, Tryz.ntmps26
  go_wp2_with fail
  go_loopw [10] (fun i wr => ∃ (k : Nat), k ≤ rn ∧ i = .int .i64 k ∧ Hid (Pg B b s (bs ++ linesT (cmdLn l env) (cs.take k)) wr) ∧ Hid (KP B b w wr)) (fun i _ => rn - (intOf i).toNat)
  case atStart => exact ⟨0, Nat.zero_le _, rfl, hide (by simpa [linesT] using HP.out), hide (KP.refl _ _ _)⟩
  case round =>
    obtain ⟨k, hk, rfl, Hp, Hk⟩ := hrel
    have hsz := Hk.out.size
    by_cases hlt2 : k < rn
    · have hlt' : ((k : Int) < (rn : Int)) := by omega
      obtain ⟨g, off, c, hA, hgB, hu, hcm⟩ := HR.out.at_ hlt2
      simp only at hA
      subst hA
      have Hu := hide hu; clear hu
      obtain ⟨⟨y, hc, he⟩, z, hz, hzr⟩ := hcm.keep (w' := wr) hgB (fun p hp => Hk.out.1.cell hp)
      obtain ⟨yo, yn, yA, yl, yc⟩ := y
      obtain ⟨zA, zn, zc⟩ := z
      simp only at hc he hzr
      obtain ⟨c0, c1, c2⟩ := hc
      have c3 : wr.cell? ⟨g, off + k * 4 + 3, none⟩ = some (.slice zA zn zc) := hz
      have HC : Hid (RC wr B ⟨⟨yo, yn, yA, yl, yc⟩, ⟨zA, zn, zc⟩⟩ c) := hide ⟨he, hzr⟩
      clear he hzr hz hcm
      have hb0 : Below B wr (wr.alloc (.cells #[.int .i64 yo, .int .i64 yn, .slice yA yl yc, .slice zA zn zc] 31)) := (Below.refl _ _).alloc (by omega) _
      have Hb0 := hide hb0; clear hb0
      have Hbx : Hid (KP B b w (wr.alloc (.cells #[.int .i64 yo, .int .i64 yn, .slice yA yl yc, .slice zA zn zc] 31))) := hide (Hk.out.alloc (by omega) _)
      have Hl2 : Hid ((bs ++ linesT (cmdLn l env) (cs.take k)).length + ((cmdT l env c).length + 1) ≤ 140737488355328) := hide (by
        have h1 := Hlen.out
        have h2 := lines_le (cmdLn l env) cs (k + 1)
        rw [lines_snoc _ Hu.out, show cmdLn l env c = cmdT l env c ++ [10] from rfl] at h2
        simp only [List.length_append, List.length_cons, List.length_nil] at h2 ⊢
        omega)
      have HCm := hide (command_any B b s l ⟨⟨yo, yn, yA, yl, yc⟩, ⟨zA, zn, zc⟩⟩ c env _ _ (by simp; omega) (HV.out.below Hbx.out.1) (HT.out.on Hbx.out.1) (HC.out.below Hb0.out) (Hg.out c (List.mem_of_getElem? Hu.out)) (Hp.out.alloc (.cells #[.int .i64 yo, .int .i64 yn, .slice yA yl yc, .slice zA zn zc] 31)) (by have := Hl2.out; omega))
      go_wp2_with fail
      refine (HCm.out).mono ?_
      rintro e w1 ⟨rfl, hp1, hk1⟩
      have Hp1 := hide hp1; have Hk1 := hide (Hbx.out.trans hk1); clear hp1 hk1
      have hz1 := Hk1.out.size
      go_wp2_with fail
      refine (put_any B b w1.heap.size s _ [bytesOf [10]] 1 _ rfl (by decide) (heap_alloc_new _ _) (by omega) (Hp1.out.alloc _) (by rw [cat1]; have := Hl2.out; simp only [List.length_append] at this ⊢; simp [bytesOf]; omega) (by simp; omega)).mono ?_
      rintro e w4 ⟨rfl, hp4, hk4⟩
      rw [cat1] at hp4
      have Hk4 : Hid (KP B b w w4) := hide ((Hk1.out.alloc (by omega) _).trans hk4)
      have Hp4 := hide hp4; clear hp4 hk4
      go_wp2_with fail
      go_roundw
      case rel => exact ⟨k + 1, hlt2, by go_num, hide (by
        rw [lines_snoc _ Hu.out, show cmdLn l env c = cmdT l env c ++ [10] from rfl]
        have := Hp4.out
        simp only [bytesOf, List.append_assoc] at this ⊢
        exact this), Hk4⟩
      case measure => simp [intOf]; omega
    · have hlt' : ¬ ((k : Int) < (rn : Int)) := by omega
      have Hkn : Hid (cs.length ≤ k) := hide (by have := Hrl.out; omega)
      go_wp2_with fail
      go_end0
      refine ⟨rfl, ?_, Hk.out⟩
      have := Hp.out
      rw [List.take_of_length_le Hkn.out] at this
      exact this
end Go.Proofs.YtjpphjmehgflpaaGreatDoor
