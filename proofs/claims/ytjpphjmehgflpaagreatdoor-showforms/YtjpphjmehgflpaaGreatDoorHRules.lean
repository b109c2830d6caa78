/- A page's rule and rules: lines of a word and an expression. -/
import Derived.Test.YtjpphjmehgflpaaGreatDoorHExprB
namespace Go.Proofs.YtjpphjmehgflpaaGreatDoor
open Go.RowKit Ex
set_option linter.unusedSimpArgs false
set_option linter.unusedVariables false

set_option maxHeartbeats 400000 in
theorem side_any (q : Bool) (w : World) : Calls Tryz.prog 45 #[.bool q] w fun e w' => e = .returned (.string (bytesOf (sideT q))) ∧ w = w' := by
  cases q
  all_goals (go_enter Tryz.func45, Tryz.ntmps45; go_wp2; go_ret; exact ⟨rfl, rfl⟩)

set_option maxHeartbeats 1000000 in
theorem rule_of (B b : Nat) (s : SL) (bs X : List UInt8) (x : ByteArray) (op n : Int) (A : Option Addr) (len cap : Nat) (w : World) (hB : B ≤ w.heap.size) (hP : Pg B b s bs w)
    (hE : Ex35 B b s (.agg #[.int .i64 op, .int .i64 n, .slice A len cap]) X w) (hlen : bs.length + (x.data.toList ++ ([32] ++ (X ++ [59, 10]))).length ≤ 140737488355328) :
    Calls Tryz.prog 25 #[.pointer (some ⟨b, 0, none⟩), .string x, .agg #[.int .i64 op, .int .i64 n, .slice A len cap]] w (Wr B b s (bs ++ (x.data.toList ++ ([32] ++ (X ++ [59, 10])))) w) := by
  have hlt := hP.lt
  have HP := hide hP; clear hP
  have HE := hide hE; clear hE
  simp only [List.length_append] at hlen
  have Hlen := hide hlen; clear hlen
  have hw1 : Hid ((w.alloc (.cells #[.int .i64 op, .int .i64 n, .slice A len cap] 25)).heap.size = w.heap.size + 1) := hide (by simp)
  go_enter Tryz.func25, Tryz.ntmps25
  go_wp2_with fail
  refine (put_any B b (w.heap.size + 1) s bs [x] 1 _ rfl (by decide) ?_ (by omega) ((HP.out.alloc _).alloc _) (by rw [cat1]; have := Hlen.out; omega) (by simp; omega)).mono ?_
  · rw [← hw1.out]; exact heap_alloc_new _ _
  rintro e w1 ⟨rfl, hp1, hk1⟩
  rw [cat1] at hp1
  have Hk0 : Hid (KP B b w w1) := hide ((((KP.refl B b w).alloc hB _).alloc (by simp; omega) _).trans hk1)
  have hbx : w1.heap[w.heap.size]? = some (.cells #[.int .i64 op, .int .i64 n, .slice A len cap] 25 (0, 0)) := hk1.at_ (by
    rw [Lib.alloc_old _ _ _ (by simp)]; exact heap_alloc_new _ _) (by decide) (by omega)
  obtain ⟨c0, c1, c2⟩ := box_of hbx
  have Hp1 := hide hp1; clear hp1 hk1 hbx
  have hz1 := Hk0.out.size
  go_wp2_with fail
  refine (around_of B b s _ X (bytesOf [32]) (bytesOf [59, 10]) op n A len cap _ (by omega) Hp1.out (HE.out.on Hk0.out.1) (by have := Hlen.out; simp [bytesOf] at this ⊢; omega)).mono ?_
  rintro e w3 ⟨rfl, hp3, hk3⟩
  have Hk3 : Hid (KP B b w w3) := hide (Hk0.out.trans hk3)
  have Hp3 := hide hp3; clear hp3 hk3
  go_wp2_with fail
  go_end0
  refine ⟨rfl, ?_, Hk3.out⟩
  have := Hp3.out
  simp only [bytesOf, List.append_assoc] at this ⊢
  exact this
/- lines, one after another -/
theorem lines_snoc {α : Type} (f : α → List UInt8) : ∀ {l : List α} {k : Nat} {x : α}, l[k]? = some x → linesT f (l.take (k + 1)) = linesT f (l.take k) ++ f x
  | [], k, x, h => by simp at h
  | y :: r, 0, x, h => by simp at h; subst h; simp [linesT]
  | y :: r, k + 1, x, h => by
    simp only [List.getElem?_cons_succ] at h
    simp only [List.take_succ_cons, linesT, List.append_assoc]
    rw [lines_snoc f h]
theorem lines_le {α : Type} (f : α → List UInt8) : ∀ (l : List α) (k : Nat), (linesT f (l.take k)).length ≤ (linesT f l).length
  | [], k => by simp
  | y :: r, 0 => by simp [linesT]
  | y :: r, k + 1 => by
    simp only [List.take_succ_cons, linesT, List.length_append]
    have := lines_le f r k; omega

set_option maxHeartbeats 2000000 in
theorem rules_any (B b : Nat) (s r : SL) (l : List Dom.V) (ts : List T) (bs : List UInt8) (x : ByteArray) (w : World) (hB : B ≤ w.heap.size) (hV : Dom.RV w B s.A s.n l) (hT : TB B w) (hR : Rows ExAt 3 w B r ts) (hg : ∀ t ∈ ts, (sortE l t).2 = 0) (hP : Pg B b s bs w)
    (hlen : bs.length + (linesT (ruleT x.data.toList l) ts).length ≤ 140737488355328) :
    Calls Tryz.prog 27 #[.pointer (some ⟨b, 0, none⟩), .string x, r.v] w (Wr B b s (bs ++ linesT (ruleT x.data.toList l) ts) w) := by
  obtain ⟨rA, rn, rc⟩ := r
  have hnm : rn ≤ maxLen := Nat.le_trans hR.2.1 hR.2.2.1
  unfold maxLen at hnm
  have Hrl := hide hR.1
  simp only at Hrl
  simp only [SL.v]
  have hlt := hP.lt
  have HP := hide hP; clear hP
  have HV := hide hV; clear hV
  have HT := hide hT; clear hT
  have HR := hide hR; clear hR
  have Hg := hide hg; clear hg
  have Hlen := hide hlen; clear hlen
  go_enter Tryz.func27, Tryz.ntmps27
  go_wp2_with fail
  go_loopw [10] (fun i wr => ∃ (k : Nat), k ≤ rn ∧ i = .int .i64 k ∧ Hid (Pg B b s (bs ++ linesT (ruleT x.data.toList l) (ts.take k)) wr) ∧ Hid (KP B b w wr)) (fun i _ => rn - (intOf i).toNat)
  case atStart => exact ⟨0, Nat.zero_le _, rfl, hide (by simpa [linesT] using HP.out), hide (KP.refl _ _ _)⟩
  case round =>
    obtain ⟨k, hk, rfl, Hp, Hk⟩ := hrel
    have hsz := Hk.out.size
    by_cases hlt2 : k < rn
    · have hlt' : ((k : Int) < (rn : Int)) := by omega
      obtain ⟨g, off, t, hA, hgB, hu, y, hc, d, hre⟩ := HR.out.at_ hlt2
      simp only at hA
      subst hA
      have Hu := hide hu; clear hu
      have Hre := hide hre; clear hre
      obtain ⟨yo, yn, yA, yl, yc⟩ := y
      simp only at hc Hre
      obtain ⟨c0, c1, c2⟩ := hc.keep (w' := wr) (fun p hp => Hk.out.1.cell (by omega))
      have Hbx : Hid (KP B b w (wr.alloc (.cells #[.int .i64 yo, .int .i64 yn, .slice yA yl yc] 25))) := hide (Hk.out.alloc (by omega) _)
      have Hl2 : Hid ((bs ++ linesT (ruleT x.data.toList l) (ts.take k)).length + (ruleT x.data.toList l t).length ≤ 140737488355328) := hide (by
        have h1 := Hlen.out
        have h2 := lines_le (ruleT x.data.toList l) ts (k + 1)
        rw [lines_snoc _ Hu.out] at h2
        simp only [List.length_append] at h2 ⊢
        omega)
      go_wp2_with fail
      refine (rule_of B b s _ (exT l t) x yo yn yA yl yc _ (by simp; omega) (Hp.out.alloc _) ((expr_any B b s l w hB HV.out HT.out d yo yn yA yl yc t Hre.out (sort_gt (Hg.out t (List.mem_of_getElem? Hu.out))).2.2).on Hbx.out.1) Hl2.out).mono ?_
      rintro e w1 ⟨rfl, hp1, hk1⟩
      have Hp1 := hide hp1; have Hk1 := hide (Hbx.out.trans hk1); clear hp1 hk1
      go_wp2_with fail
      go_roundw
      case rel => exact ⟨k + 1, hlt2, by go_num, hide (by rw [lines_snoc _ Hu.out, ← List.append_assoc]; exact Hp1.out), Hk1⟩
      case measure => simp [intOf]; omega
    · have hlt' : ¬ ((k : Int) < (rn : Int)) := by omega
      have Hkn : Hid (ts.length ≤ k) := hide (by have := Hrl.out; omega)
      go_wp2_with fail
      go_end0
      refine ⟨rfl, ?_, Hk.out⟩
      have := Hp.out
      rw [List.take_of_length_le Hkn.out] at this
      exact this
end Go.Proofs.YtjpphjmehgflpaaGreatDoor
