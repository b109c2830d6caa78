/- The values of a variable, and of two held against each other. Two numbers under an operation: their value, and the calls that lay them. -/
import Derived.Test.YtkjclofkfmkbdaaESame
namespace Go.Proofs.Ytkjclofkfmkbdaa
open Go.RowKit Ex
set_option linter.unusedSimpArgs false
set_option linter.unusedVariables false

def lfT (o : Int) (v : Nat) : T := .mk o (v : Int) []
def eqT (v : Nat) : T := .mk 9 0 [lfT 3 v, lfT 4 v]
theorem lf_may : ∀ v : Fin 6, mayE (lfT 3 v.val) = 0 ∧ mayE (lfT 4 v.val) = 0 ∧ mayE (eqT v.val) = 0 := by decide +kernel
theorem lf_ty {l : List Dom.V} {o : Int} {v : Nat} {u : Dom.V} (ho : o = 3 ∨ o = 4) (hu : l[v]? = some u) : tyT l (lfT o v) = (u.srt, 0) := by
  have hl : v < l.length := (List.getElem?_eq_some_iff.1 hu).1
  unfold lfT
  rw [tyT, tyK]
  unfold tyN
  rw [if_pos rfl, if_neg (by omega), if_neg (by omega), if_pos ho, if_neg (by omega)]
  simp [hu]
theorem lf_val (a b : List Int) (v : Nat) : vT a b (lfT 3 v) = some (a.getD v 0) ∧ vT a b (lfT 4 v) = some (b.getD v 0) := by
  unfold lfT
  constructor
  · rw [vT, vK]; rfl
  · rw [vT, vK]; rfl
section
variable {l : List Dom.V} {v : Nat} {u : Dom.V} {m k : Int}
theorem lf_sort (hm : Dom.mayL l = 0) (h6 : v < 6) (hu : l[v]? = some u) : sortE l (lfT 3 v) = (u.srt, 0) ∧ sortE l (lfT 4 v) = (u.srt, 0) ∧ sortE l (eqT v) = (1, 0) := by
  obtain ⟨h1, h2, h3⟩ := lf_may ⟨v, h6⟩
  simp only at h1 h2 h3
  have e3 := lf_ty (o := 3) (.inl rfl) hu
  have e4 := lf_ty (o := 4) (.inr rfl) hu
  refine ⟨?_, ?_, ?_⟩
  · unfold sortE; rw [if_pos hm, if_pos h1, e3]
  · unfold sortE; rw [if_pos hm, if_pos h2, e4]
  · unfold sortE
    rw [if_pos hm, if_pos h3]
    unfold eqT
    rw [tyT, tyK, tyK, tyK, e3, e4]
    simp [tyN]
theorem now_val (hm : Dom.mayL l = 0) (h6 : v < 6) (hu : l[v]? = some u) (h1 : 0 ≤ m) (h2 : m < Dom.totL l) (h3 : 0 ≤ k) (h4 : k < Dom.totL l) : valE l (lfT 3 v) m k = ((Dom.valsL l m).getD v 0, 0) := by
  rw [val_st (by rw [(lf_sort hm h6 hu).1]) h1 h2 h3 h4, (lf_val _ _ v).1]; rfl
theorem next_val (hm : Dom.mayL l = 0) (h6 : v < 6) (hu : l[v]? = some u) (h1 : 0 ≤ m) (h2 : m < Dom.totL l) (h3 : 0 ≤ k) (h4 : k < Dom.totL l) : valE l (lfT 4 v) m k = ((Dom.valsL l k).getD v 0, 0) := by
  rw [val_st (by rw [(lf_sort hm h6 hu).2.1]) h1 h2 h3 h4, (lf_val _ _ v).2]; rfl
theorem out_val (hm : Dom.mayL l = 0) (h6 : v < 6) (hu : l[v]? = some u) : valE l (lfT 3 v) (Dom.totL l) k = (0, 1) := by
  unfold valE
  rw [(lf_sort hm h6 hu).1, if_pos rfl, if_neg (by unfold isSt; simp)]
theorem eq_true (hm : Dom.mayL l = 0) (h6 : v < 6) (hu : l[v]? = some u) (h1 : 0 ≤ m) (h2 : m < Dom.totL l) (h3 : 0 ≤ k) (h4 : k < Dom.totL l) : trueE l (eqT v) m k = ((Dom.valsL l m).getD v 0 == (Dom.valsL l k).getD v 0) := by
  unfold trueE
  rw [(lf_sort hm h6 hu).2.2, val_st (by rw [(lf_sort hm h6 hu).2.2]) h1 h2 h3 h4]
  unfold eqT
  rw [vT, vK, vK, vK, (lf_val _ _ v).1, (lf_val _ _ v).2]
  generalize (Dom.valsL l m).getD v 0 = x
  generalize (Dom.valsL l k).getD v 0 = y
  unfold vN
  by_cases h : x = y
  · subst h; simp [vOp, bitI, vIn, valP]
  · simp [vOp, bitI, vIn, valP, h]
end
theorem mod_len (s : Int) (n : Nat) (h1 : 1 ≤ n) (h2 : n ≤ 6) : ∃ j : Nat, j < n ∧ IntKind.i64.wrap ((IntKind.u64.wrap s).tmod (n : Int)) = (j : Int) := by
  obtain ⟨m, h3, h4, h5⟩ := mod_st s (n : Int) (by omega) (by omega)
  exact ⟨m.toNat, by omega, by rw [h5]; omega⟩
/- two variables held against each other, newly laid -/
theorem c_pair {W w' : World} {B : Nat} {Av : Option Addr} {nv cv : Nat} {lv : List Dom.V} {v : Nat} {now next : Int} (hB : B ≤ W.heap.size) (Ho : Hid (OkV nv cv lv)) (Hrv : Hid (Dom.RV W B Av nv lv)) (hs : Hid (Below W.heap.size W w')) :
    Calls Try.prog 14 #[.slice Av nv cv, .agg #[.int .i64 9, .int .i64 0, .slice (some ⟨w'.heap.size, 0, none⟩) 2 2], .int .i64 now, .int .i64 next] (w'.alloc (.cells #[.int .i64 3, .int .i64 (v : Int), .slice none 0 0, .int .i64 4, .int .i64 (v : Int), .slice none 0 0] 25)) fun e w'' => e = .returned (.bool (trueE lv (eqT v) now next)) ∧ Hid (Below W.heap.size W w'') := by
  have hb := (Below.refl w'.heap.size w').alloc (Nat.le_refl _) (.cells #[.int .i64 3, .int .i64 (v : Int), .slice none 0 0, .int .i64 4, .int .i64 (v : Int), .slice none 0 0] 25)
  have hz := hs.out.size
  have hp := pair_re (w := w') (x := 9) (Nat.le_refl _) (RE.leaf w' w'.heap.size 0 3 (v : Int)) (RE.leaf w' w'.heap.size 0 4 (v : Int))
  have hv := ((rv_w hB Hrv hs).below (hb.mono (by omega))).more (B' := w'.heap.size + 1) (by omega)
  refine (dtrue_any (w'.heap.size + 1) Av nv cv lv (1 + 1 + 1) 9 0 _ 2 2 (eqT v) now next _ Ho.out.1 Ho.out.2.1 Ho.out.2.2.1 (by simp) hp hv Ho.out.2.2.2).mono ?_
  rintro e w'' ⟨he, hb2⟩
  refine ⟨he, hide (hs.out.trans ((hb.trans (hb2.mono (by simp))).mono (by omega)))⟩
end Go.Proofs.Ytkjclofkfmkbdaa
namespace Go.Proofs.Ytkjclofkfmkbdaa
open Go.RowKit Ex
set_option linter.unusedSimpArgs false
set_option linter.unusedVariables false

def nmT (a : Int) : T := .mk 1 a []
def twT (op a b : Int) : T := .mk op 0 [nmT a, nmT b]
section
variable {op a b : Int}
theorem tw_may (ho : 6 ≤ op ∧ op ≤ 14) (ha : -1000 ≤ a ∧ a ≤ 1000) (hb : -1000 ≤ b ∧ b ≤ 1000) : mayE (twT op a b) = 0 := by
  refine (may_iff _).2 ⟨(fits_iff _).2 ⟨?_, ?_⟩, ?_⟩
  · unfold twT nmT; rw [fz, fzK, fzK, fzK, fz, fz, fzK]; omega
  · unfold twT nmT; rw [dp, dpK, dpK, dpK, dp, dp, dpK]; rfl
  · have h1 : nodeN op 0 = true := by
      unfold nodeN
      rw [if_neg (by omega), if_neg (by omega), if_neg (by omega)]; rfl
    have h2 : decide ((([nmT a, nmT b] : List T).length : Int) = kidsOf op) = true := by
      have : kidsOf op = 2 := by
        unfold kidsOf
        repeat' split
        all_goals omega
      simp [this]
    unfold twT
    rw [sound, nodeB_eq, h1, h2, soundK, soundK, soundK]
    have e1 : sound (nmT a) = true := sound_num ha
    have e2 : sound (nmT b) = true := sound_num hb
    rw [e1, e2]; rfl
theorem nm_ty (l : List Dom.V) (x : Int) : tyT l (nmT x) = (2, 0) := by
  unfold nmT
  rw [tyT, tyK]; simp [tyN]
theorem nil_may : Dom.mayL [] = 0 := by decide +kernel
theorem nil_tot : Dom.totL [] = 1 := by decide +kernel
theorem tw_sort (ho : 9 ≤ op ∧ op ≤ 14) (ha : -1000 ≤ a ∧ a ≤ 1000) (hb : -1000 ≤ b ∧ b ≤ 1000) : sortE [] (twT op a b) = (if op ≤ 11 then 1 else 2, 0) := by
  unfold sortE
  rw [if_pos nil_may, if_pos (tw_may (by omega) ha hb)]
  unfold twT
  rw [tyT, tyK, tyK, tyK, nm_ty, nm_ty]
  have h : op = 9 ∨ op = 10 ∨ op = 11 ∨ op = 12 ∨ op = 13 ∨ op = 14 := by omega
  rcases h with rfl | rfl | rfl | rfl | rfl | rfl <;> simp [tyN]
theorem tw_val (ho : 9 ≤ op ∧ op ≤ 14) (ha : -1000 ≤ a ∧ a ≤ 1000) (hb : -1000 ≤ b ∧ b ≤ 1000) : valE [] (twT op a b) 0 0 = valP (vIn (vOp op a b)) := by
  rw [val_st (by rw [tw_sort ho ha hb]) (by omega) (by rw [nil_tot]; omega) (by omega) (by rw [nil_tot]; omega)]
  unfold twT nmT
  rw [vT, vK, vK, vK, vT, vT, vK]
  have h : op = 9 ∨ op = 10 ∨ op = 11 ∨ op = 12 ∨ op = 13 ∨ op = 14 := by omega
  rcases h with rfl | rfl | rfl | rfl | rfl | rfl <;> simp [vN]
theorem tw_in {z : Int} (ho : 9 ≤ op ∧ op ≤ 14) (ha : -1000 ≤ a ∧ a ≤ 1000) (hb : -1000 ≤ b ∧ b ≤ 1000) (hz : vOp op a b = z) (h : -1000 ≤ z ∧ z ≤ 1000) : valE [] (twT op a b) 0 0 = (z, 0) := by
  rw [tw_val ho ha hb, hz]; unfold vIn; rw [if_pos h]; rfl
theorem tw_out {z : Int} (ho : 9 ≤ op ∧ op ≤ 14) (ha : -1000 ≤ a ∧ a ≤ 1000) (hb : -1000 ≤ b ∧ b ≤ 1000) (hz : vOp op a b = z) (h : ¬ (-1000 ≤ z ∧ z ≤ 1000)) : valE [] (twT op a b) 0 0 = (0, 6) := by
  rw [tw_val ho ha hb, hz]; unfold vIn; rw [if_neg h]; rfl
theorem tw_true {p : Bool} (ho : 9 ≤ op ∧ op ≤ 11) (ha : -1000 ≤ a ∧ a ≤ 1000) (hb : -1000 ≤ b ∧ b ≤ 1000) (hz : vOp op a b = bitI p) : trueE [] (twT op a b) 0 0 = p := by
  unfold trueE
  rw [tw_sort (by omega) ha hb, tw_in (by omega) ha hb hz (by cases p <;> simp [bitI]), if_pos ho.2]
  cases p <;> simp [bitI]
end
theorem nil_ok : OkV 0 0 [] := ⟨by unfold maxLen; omega, Nat.le_refl _, by unfold maxLen; omega, fun v hv => by simp at hv⟩
theorem nil_rv (w : World) (B : Nat) : Dom.RV w B none 0 [] := ⟨rfl, fun h => absurd h (by omega)⟩
theorem tw_re {w w' : World} {op a b : Int} (hb : Below (w.alloc (.cells #[.int .i64 1, .int .i64 a, .slice none 0 0, .int .i64 1, .int .i64 b, .slice none 0 0] 25)).heap.size (w.alloc (.cells #[.int .i64 1, .int .i64 a, .slice none 0 0, .int .i64 1, .int .i64 b, .slice none 0 0] 25)) w') :
    RE w' (w.heap.size + 1) (1 + 1 + 1) op 0 (some ⟨w.heap.size, 0, none⟩) 2 2 (twT op a b) :=
  (pair_re (w := w) (x := op) (Nat.le_refl _) (RE.leaf w w.heap.size 0 1 a) (RE.leaf w w.heap.size 0 1 b)).below (hb.mono (by simp))
theorem alloc_size (w : World) (o : Obj) : w.heap.size + 1 ≤ (w.alloc o).heap.size := by simp
theorem mod_num (s : Int) : ∃ q : Nat, q < 2001 ∧ (IntKind.u64.wrap s).tmod 2001 = (q : Int) := by
  have h0 : 0 ≤ IntKind.u64.wrap s := by rw [IntKind.wrap_u64]; omega
  refine ⟨((IntKind.u64.wrap s).tmod 2001).toNat, ?_, ?_⟩
  · rw [Int.tmod_eq_emod_of_nonneg h0]; omega
  · rw [Int.tmod_eq_emod_of_nonneg h0]; omega
theorem num_idx0 (x y z : Int) (w : World) : (Instr.index 41 (.agg #[.int .i64 12, .int .i64 x, .int .i64 13, .int .i64 y, .int .i64 14, .int .i64 z]) (.int .i64 0)).run Try.prog w = .ok (.agg #[.int .i64 12, .int .i64 x]) w := by kernel_rfl
theorem num_idx1 (x y z : Int) (w : World) : (Instr.index 41 (.agg #[.int .i64 12, .int .i64 x, .int .i64 13, .int .i64 y, .int .i64 14, .int .i64 z]) (.int .i64 1)).run Try.prog w = .ok (.agg #[.int .i64 13, .int .i64 y]) w := by kernel_rfl
theorem num_idx2 (x y z : Int) (w : World) : (Instr.index 41 (.agg #[.int .i64 12, .int .i64 x, .int .i64 13, .int .i64 y, .int .i64 14, .int .i64 z]) (.int .i64 2)).run Try.prog w = .ok (.agg #[.int .i64 14, .int .i64 z]) w := by kernel_rfl
end Go.Proofs.Ytkjclofkfmkbdaa
