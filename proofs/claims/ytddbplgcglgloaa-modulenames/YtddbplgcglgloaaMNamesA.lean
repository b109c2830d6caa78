/- Variables in chunks; steps of ModuleNames' drawn region. -/
import Derived.Test.YtddbplgcglgloaaMRes
import Derived.Test.YtddbplgcglgloaaMLong
import Derived.Laws.StructEq
namespace Go.Proofs.Ytddbplgcglgloaa
open Go.RowKit Ex
set_option linter.unusedSimpArgs false
set_option linter.unusedVariables false

def vcells (v : Dom.V) : List Value := [.string v.nm, .bool v.env, .int .i64 v.srt, .int .i64 v.lo, .int .i64 v.hi]
def VarAt (w : World) (B b o : Nat) (v : Dom.V) : Prop := Dom.CellV w b o v
def VarC (ch : List Value) (v : Dom.V) : Prop := ch = vcells v
theorem var_cells {w : World} {B b : Nat} (o : Nat) (v : Dom.V) (h : VarAt w B b o v) : ∃ ch : List Value, ch.length = 5 ∧ (∀ u ∈ ch, u.oneCell' = true) ∧ (∀ (i : Nat) u, ch[i]? = some u → w.cell? ⟨b, o + i, none⟩ = some u) ∧ VarC ch v := by
  obtain ⟨h0, h1, h2, h3, h4⟩ := h
  refine ⟨vcells v, rfl, by simp [vcells, Value.oneCell'], fun i u hu => ?_, rfl⟩
  have hi : i < 5 := (List.getElem?_eq_some_iff.1 hu).1
  have h : i = 0 ∨ i = 1 ∨ i = 2 ∨ i = 3 ∨ i = 4 := by omega
  rcases h with rfl | rfl | rfl | rfl | rfl <;> simp [vcells] at hu <;> subst hu
  · exact h0
  · exact h1
  · exact h2
  · exact h3
  · exact h4
theorem var_back {w : World} {B b o : Nat} {ch : List Value} {v : Dom.V} (h : VarC ch v) (hc : ∀ (i : Nat) u, ch[i]? = some u → w.cell? ⟨b, o + i, none⟩ = some u) : VarAt w B b o v := by
  subst h
  exact ⟨hc 0 _ rfl, hc 1 _ rfl, hc 2 _ rfl, hc 3 _ rfl, hc 4 _ rfl⟩
theorem vars_chunk {w : World} {B n b off : Nat} {l : List Dom.V} (h : Dom.RV w B (some ⟨b, off, none⟩) n l) (hn : 0 < n) : ∃ ks, Chunk 5 VarC ks l ∧ ∀ (j : Nat) u, ks.flatten[j]? = some u → w.cell? ((⟨b, off, none⟩ : Addr).add j) = some u := by
  obtain ⟨b2, off2, e, hb, hc⟩ := h.2 hn
  injection e with e
  injection e with e1 e2
  subst e1; subst e2
  obtain ⟨ks, h1, h2⟩ := cells_aux (P := VarAt) (w := w) (B := B) (b := b) (C := VarC) (sz := 5) (fun o a ha => var_cells o a ha) l off hc
  refine ⟨ks, h1, fun j u hu => ?_⟩
  have := h2 j u hu
  by_cases hj : j = 0
  · subst hj; simpa [Addr.add] using this
  · simpa [Addr.add, hj] using this
theorem own_vars {w : World} {base n c : Nat} {O : Option Addr} {ks : List (List Value)} {l : List Dom.V} (h : w.ownsRow base 42 5 (.slice O n c) n ks.flatten) (hk : Chunk 5 VarC ks l) : Dom.RV w w.heap.size O n l := by
  have hr := own_rows (P := VarAt) (by omega) h hk (fun b o ch a _ hc hcc => var_back hc hcc)
  exact ⟨hr.1, hr.2.2.2.1⟩
theorem infoV : (Try.prog.info? 42).map (fun i => (i.zero, i.size, i.bytes)) = some (some (.agg #[.string ByteArray.empty, .bool false, .int .i64 0, .int .i64 0, .int .i64 0]), 5, 48) := by kernel_rfl
section
variable {a : Act} {w : World} {K : Act → World → Prop} {Q : Exit → Act → World → Prop} {d ty : Nat} {pos : String} {af : Array Edge}
theorem st_field0 {t b : Nat} (he : a.eval (.tmp t) = .pointer (some ⟨b, 0, none⟩)) (hK : K (a.put (some d) (.pointer (some ⟨b, 0, none⟩))) w) : Oper.wp Try.prog ⟨some d, .fieldAddr 28 (.tmp t) 0, ty, pos, af, none⟩ a w K Q := by
  have he' : a.tmps[t]?.getD undef = .pointer (some ⟨b, 0, none⟩) := by simpa [Act.eval] using he
  refine wp_val ?_ hK
  simp only [execOp]
  go_simp
theorem st_load22 {t b : Nat} {A : Option Addr} {n c : Nat} (he : a.eval (.tmp t) = .pointer (some ⟨b, 0, none⟩)) (hc : w.cell? ⟨b, 0, none⟩ = some (.slice A n c)) (hK : K (a.put (some d) (.slice A n c)) w) : Oper.wp Try.prog ⟨some d, .load 22 (.tmp t), ty, pos, af, none⟩ a w K Q := by
  have he' : a.tmps[t]?.getD undef = .pointer (some ⟨b, 0, none⟩) := by simpa [Act.eval] using he
  refine wp_val ?_ hK
  simp only [execOp]
  go_simp
theorem st_noneV (hK : K (a.put (some d) (.slice (some ⟨w.heap.size, 0, none⟩) 0 0)) (w.alloc (.cells #[] 42))) : Oper.wp Try.prog ⟨some d, .buildSlice 22 0 #[], ty, pos, af, none⟩ a w K Q := by
  refine wp_val ?_ hK
  simp only [execOp]
  go_simp
theorem st_oneV {t : Nat} {v : Dom.V} (he : a.eval (.tmp t) = .agg (vcells v).toArray) (hK : K (a.put (some d) (.slice (some ⟨w.heap.size, 0, none⟩) 1 1)) (w.alloc (.cells (vcells v).toArray 42))) : Oper.wp Try.prog ⟨some d, .buildSlice 22 1 #[(0, .tmp t)], ty, pos, af, none⟩ a w K Q := by
  simp only [vcells] at he hK
  have he' : a.tmps[t]?.getD undef = .agg #[.string v.nm, .bool v.env, .int .i64 v.srt, .int .i64 v.lo, .int .i64 v.hi] := by simpa [Act.eval] using he
  refine wp_val ?_ hK
  simp only [execOp]
  go_simp
theorem st_index {t s vb vo vn vc q : Nat} (he : a.eval (.tmp t) = .slice (some ⟨vb, vo, none⟩) vn vc) (hs : a.eval (.tmp s) = .int .i64 (q : Int)) (hq : q < vn) (hK : K (a.put (some d) (.pointer (some ⟨vb, vo + q * 5, none⟩))) w) : Oper.wp Try.prog ⟨some d, .indexAddr 22 (.tmp t) (.tmp s), ty, pos, af, none⟩ a w K Q := by
  have he' : a.tmps[t]?.getD undef = .slice (some ⟨vb, vo, none⟩) vn vc := by simpa [Act.eval] using he
  have hs' : a.tmps[s]?.getD undef = .int .i64 (q : Int) := by simpa [Act.eval] using hs
  have hq' : (q : Int) < (vn : Int) := by omega
  refine wp_val ?_ hK
  simp only [execOp]
  go_simp
theorem st_loadVar {t b o : Nat} {v : Dom.V} (he : a.eval (.tmp t) = .pointer (some ⟨b, o, none⟩)) (hc : Dom.CellV w b o v) (hK : K (a.put (some d) (.agg (vcells v).toArray)) w) : Oper.wp Try.prog ⟨some d, .load 42 (.tmp t), ty, pos, af, none⟩ a w K Q := by
  have he' : a.tmps[t]?.getD undef = .pointer (some ⟨b, o, none⟩) := by simpa [Act.eval] using he
  obtain ⟨c0, c1, c2, c3, c4⟩ := hc
  simp only [vcells] at hK
  refine wp_val ?_ hK
  simp only [execOp]
  go_simp
theorem st_store22 {t s b : Nat} {A : Option Addr} {n c : Nat} {f : Nat → Value} (he : a.eval (.tmp t) = .pointer (some ⟨b, 0, none⟩)) (hs : a.eval (.tmp s) = .slice A n c) (hr : w.rowIs b 28 12 f) (hK : K a (w.setCell ⟨b, 0, none⟩ (.slice A n c))) : Oper.wp Try.prog ⟨none, .store 22 (.tmp t) (.tmp s), ty, pos, af, none⟩ a w K Q := by
  have he' : a.tmps[t]?.getD undef = .pointer (some ⟨b, 0, none⟩) := by simpa [Act.eval] using he
  have hs' : a.tmps[s]?.getD undef = .slice A n c := by simpa [Act.eval] using hs
  have c0 := hr.cell (i := 0) (by omega)
  have z0 := hr.frozen 0
  unfold Oper.wp
  go_simp
  exact hK
end
end Go.Proofs.Ytddbplgcglgloaa
