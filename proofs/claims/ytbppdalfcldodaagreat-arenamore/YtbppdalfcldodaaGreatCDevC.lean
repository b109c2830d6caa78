/- The program's choice: free. -/
import Derived.Test.YtbppdalfcldodaaGreatGLead
import Derived.Test.YtbppdalfcldodaaGreatGCnt
import Derived.Test.YtbppdalfcldodaaGreatGSm
set_option maxRecDepth 100000
namespace Go.Proofs.YtbppdalfcldodaaGreat
open Go.RowKit Ex
set_option linter.unusedSimpArgs false
set_option linter.unusedVariables false

theorem info50 : (Tryz.prog.info? 111).map (fun i => (i.zero, i.size, i.bytes)) = some (some (.agg #[.int .i64 0, .bool false, .int .i64 0, .int .i64 0, .slice none 0 0]), 5, 56) := by kernel_rfl
theorem any_app (e : Bool) : ∀ (a b : List Dom.V) (k : Nat), anyGo e k (a ++ b) = anyGo e k a ++ anyGo e (k + a.length) b
  | [], b, k => by simp [anyGo]
  | v :: r, b, k => by
    have h := any_app e r b (k + 1)
    rw [List.cons_append, anyGo, anyGo, h, List.length_cons, show k + (r.length + 1) = k + 1 + r.length by omega]
    split <;> simp
theorem any_take {e : Bool} {l : List Dom.V} {k : Nat} {v : Dom.V} (h : l[k]? = some v) : anyGo e 0 (l.take (k + 1)) = anyGo e 0 (l.take k) ++ (if v.env = e then [⟨(k : Int), true, .mk 0 0 []⟩] else []) := by
  have hk := (List.getElem?_eq_some_iff.1 h).1
  rw [List.take_add_one, h, Option.toList_some, any_app, List.length_take, Nat.min_eq_left (by omega), Nat.zero_add]
  simp [anyGo]
def FreeC (ch : List Value) (s : ST) : Prop := ch = [.int .i64 s.var, .bool s.any, .int .i64 0, .int .i64 0, .slice none 0 0] ∧ s.e = .mk 0 0 []
theorem ex_zero (w : World) (B : Nat) : EX w B ⟨0, 0, none, 0, 0⟩ (.mk 0 0 []) := ⟨1, RE.leaf w B 0 0 0⟩
/- a row of sets that is handed back -/
def SetsPost (w : World) (ss : List ST) (e : Ending) (w' : World) : Prop := ∃ O n c, e = .returned (.slice O n c) ∧ Rows SetAt 5 w' w'.heap.size ⟨O, n, c⟩ ss ∧ Below w.heap.size w w'

set_option maxHeartbeats 1000000 in
theorem free_any (B : Nat) (Av : Option Addr) (nv cv : Nat) (lv : List Dom.V) (env : Bool) (w : World) (hn : nv ≤ 6) (hB : B ≤ w.heap.size) (hrv : Dom.RV w B Av nv lv) :
    Calls Tryz.prog 58 #[.slice Av nv cv, .bool env] w (SetsPost w (anyGo env 0 lv)) := by
  have Hrv := hide hrv
  have Hnl := hide hrv.1
  clear hrv
  obtain ⟨i0, hi0, hi1, hi2, hi3⟩ := info_parts info50
  have Hi0 := hide hi0; have Hi1 := hide hi1; have Hi2 := hide hi2; have Hi3 := hide hi3
  clear hi0 hi1 hi2 hi3
  go_enter Tryz.func58, Tryz.ntmps58
  go_wp2_with fail
  go_loopw [5, 10] (fun ov i wr => ∃ (k m c : Nat) (O : Option Addr) (ks : List (List Value)), k ≤ nv ∧ i = .int .i64 k ∧ ov = .slice O m c ∧ m ≤ k ∧ Chunk 5 FreeC ks (anyGo env 0 (lv.take k)) ∧ wr.ownsRow w.heap.size 111 5 (.slice O m c) m ks.flatten ∧ Below w.heap.size w wr) (fun _ i _ => nv - (intOf i).toNat)
  case atStart => exact ⟨0, 0, 0, none, [], by omega, rfl, rfl, Nat.le_refl _, Chunk.nil, ⟨rfl, .inl ⟨rfl, rfl⟩⟩, Below.refl _ _⟩
  case round =>
    obtain ⟨k, m, c, O, ks, hk, rfl, rfl, hm, hch, how, hb⟩ := hrel
    have How := hide how
    have Hb := hide hb
    have Hch := hide hch
    have hzr := hb.size
    clear how hb hch
    by_cases hlt : k < nv
    · have hlt' : ((k : Int) < (nv : Int)) := by omega
      obtain ⟨b, off, v, rfl, hbB, hlk, c0, c1, c2, c3, c4⟩ := (Hrv.out.below (Hb.out.mono hB)).at_ hlt
      have Hta := hide (any_take (e := env) hlk)
      clear hlk
      have hbA := (Below.refl wr.heap.size wr).alloc (Nat.le_refl _) (.cells #[.string v.nm, .bool v.env, .int .i64 v.srt, .int .i64 v.lo, .int .i64 v.hi] 103)
      have How2 := hide (own_below How.out hbA)
      have Hb2 := hide (Hb.out.trans (hbA.mono hzr))
      have hz2 : wr.heap.size + 1 ≤ (wr.alloc (.cells #[.string v.nm, .bool v.env, .int .i64 v.srt, .int .i64 v.lo, .int .i64 v.hi] 103)).heap.size := by simp
      have hs3 : (wr.alloc (.cells #[.string v.nm, .bool v.env, .int .i64 v.srt, .int .i64 v.lo, .int .i64 v.hi] 103)).heap.size = wr.heap.size + 1 := by simp
      obtain ⟨d0, d1, d2, d3, d4⟩ := Dom.box_new wr v 103
      clear hbA How Hb
      by_cases he : v.env = env
      · have heb : (v.env == env) = true := by simp [he]
        rw [if_pos he] at Hta
        clear he
        go_wp2_with (at_builtin; generalize wr.alloc (.cells #[.string v.nm, .bool v.env, .int .i64 v.srt, .int .i64 v.lo, .int .i64 v.hi] 103) = w3 at *; refine wpList_append_lies _ rfl _ _ _ rfl w.heap.size 111 i0 _ 5 56 Tryz.underlying69 Hi0.out Hi1.out Hi2.out Hi3.out rfl (by omega) (.slice O m c) m ks.flatten rfl (How2.out.alloc _) ⟨wr.heap.size + 1, 0, none⟩ 1 1 [.int .i64 (k : Int), .bool true, .int .i64 0, .int .i64 0, .slice none 0 0] rfl rfl (by rw [← hs3]; exact World.news_of_block (cs := #[.int .i64 (k : Int), .bool true, .int .i64 0, .int .i64 0, .slice none 0 0]) (t := 111) (fr := (0, 0)) (heap_alloc_new w3 _)) (by simp [Value.oneCell']) (by omega) (by unfold maxLen; omega) (by omega) (by simp; omega) _ rfl ?_; intro g5 cap5 w5 hown5 hgrow5 hat5 hlt5)
        have hb5 : Below w.heap.size w w5 := (Hb2.out.alloc (by omega) _).grown hgrow5 (by simp; omega) (fun j hj => by have := (How2.out.lt j hj).1; omega)
        have Ho5 := hide hown5
        rw [← rows_flat_snoc] at Ho5
        clear hown5 hgrow5 hat5 d0 d1 d2 d3 d4
        go_roundw
        case rel => exact ⟨k + 1, m + 1, cap5, some ⟨g5, 0, none⟩, _, by omega, by go_num, rfl, by omega, by rw [Hta.out]; exact Hch.out.snoc rfl (by simp [Value.oneCell']) ⟨rfl, rfl⟩, Ho5.out, hb5⟩
        case measure => simp [intOf]; omega
      · have heb : (v.env == env) = false := by simp [he]
        rw [if_neg he, List.append_nil] at Hta
        clear he
        go_wp2_with fail
        clear d0 d1 d2 d3 d4
        go_roundw
        case rel => exact ⟨k + 1, m, c, O, ks, by omega, by go_num, rfl, by omega, by rw [Hta.out]; exact Hch.out, How2.out, Hb2.out⟩
        case measure => simp [intOf]; omega
    · have hlt' : ¬ ((k : Int) < (nv : Int)) := by omega
      obtain rfl : k = nv := by omega
      go_wp2_with fail
      go_ret
      have hc := Hch.out
      rw [← Hnl.out, List.take_length] at hc
      refine ⟨O, m, c, rfl, own_rows (by omega) How.out hc (fun b o ch a _ h1 h2 => set_back ⟨⟨0, 0, none, 0, 0⟩, h1.1, by rw [h1.2]; exact ex_zero _ _⟩ h2), Hb.out⟩
end Go.Proofs.YtbppdalfcldodaaGreat
