/- (*finds).row: the numbers of vertices, in ascending order. -/
import Derived.Test.YtbppdalfcldodaaGreatAAfter
import Derived.Test.YtbppdalfcldodaaGreatASort
set_option maxRecDepth 100000
namespace Go.Proofs.YtbppdalfcldodaaGreat
open Go.RowKit Ex
set_option linter.unusedSimpArgs false
set_option linter.unusedVariables false

theorem own_fr {w w' : World} {H H' : List Nat} {b e sz n : Nat} {v : Value} {xs : List Value} (h : w.ownsRow b e sz v n xs) (hf : Fr H H' w w') (hk : ∀ k, v.ownBlock = some k → k ∉ H) : w'.ownsRow b e sz v n xs := by
  refine ⟨h.1, ?_⟩
  rcases h.2 with h4 | ⟨g, cap, cur, e, h4, h5, h6⟩
  · exact .inl h4
  · exact .inr ⟨g, cap, cur, e, h4, hf.heap h5 (hk g (by rw [e]; rfl)), h6⟩
theorem fr_grow {H H' : List Nat} {w w2 w7 : World} {row : Option Nat} (h : Fr H H' w w2) (hg : w2.grownBy w7 row) (hr : ∀ z, row = some z → w.heap.size ≤ z) : Fr H H' w w7 :=
  ⟨hg.os.trans h.os, hg.tape.trans h.tape, hg.output.trans h.output, Nat.le_trans h.size hg.size, fun k hk hn => (hg.block k (Nat.lt_of_lt_of_le hk h.size) (fun e => by have := hr k e.symm; omega)).trans (h.block k hk hn), h.new⟩
theorem FS.grow {w w7 : World} {lo F M : Nat} {s : SL} {l : List Vx} {row : Option Nat} (h : FS w lo F M s l) (hg : w.grownBy w7 row) (hr : ∀ z, row = some z → z ∉ fsH F M s) : FS w7 lo F M s l :=
  h.keep fun k hk => hg.block k (h.lt k hk) (fun e => hr k e.symm hk)
theorem info3A : ∃ i, Tryz.prog.info? 3 = some i ∧ i.zero = some (.int .i64 0) ∧ i.size = 1 ∧ i.bytes = 8 := by
  have h : (Tryz.prog.info? 3).map (fun i => (i.zero, i.size, i.bytes)) = some (some (.int .i64 0), 1, 8) := by kernel_rfl
  cases hi : Tryz.prog.info? 3 with
  | none => rw [hi] at h; cases h
  | some i =>
    rw [hi] at h
    simp only [Option.map_some, Option.some.injEq, Prod.mk.injEq] at h
    exact ⟨i, rfl, h.1, h.2.1, h.2.2⟩
theorem nums_snoc {l xs : List Vx} {k : Nat} {x : Vx} (h : xs[k]? = some x) : (xs.take (k + 1)).map (numI (addL l (xs.take (k + 1)))) = (xs.take k).map (numI (addL l (xs.take k))) ++ [numI (addV (addL l (xs.take k)) x) x] := by
  rw [List.take_add_one, h]
  simp only [Option.toList_some, addL_snoc, List.map_append, List.map_cons, List.map_nil]
  congr 1
  exact List.map_congr_left fun y hy => numI_addV (addL_mem.2 (.inr hy))
theorem addL_len : ∀ (xs l : List Vx), (addL l xs).length ≤ l.length + xs.length
  | [], l => by simp [addL]
  | x :: xs, l => by
    rw [addL_cons]
    have := addL_len xs (addV l x)
    have h2 : (addV l x).length ≤ l.length + 1 := by unfold addV; split <;> simp
    simp only [List.length_cons]; omega
def RowPostA (w : World) (lo F M : Nat) (s : SL) (l xs : List Vx) (e : Ending) (w' : World) : Prop :=
  ∃ O n c s', e = .returned (.slice O n c) ∧ w'.ownsRow w.heap.size 3 1 (.slice O n c) n (ints (sortI (xs.map (numI (addL l xs))))) ∧ n = xs.length ∧ FS w' lo F M s' (addL l xs) ∧ Fr (fsH F M s) (fsH F M s') w w' ∧ ∀ z, (Value.slice O n c).ownBlock = some z → z ∉ fsH F M s'
set_option maxHeartbeats 4000000 in
theorem row_any (lo F M b0 n c : Nat) (O : Option Addr) (s : SL) (l xs : List Vx) (w : World) (h : FS w lo F M s l) (hx : ∀ y ∈ xs, SmV y) (hl : l.length + xs.length ≤ 4000) (hlo : lo ≤ w.heap.size) (hrow : w.ownsRow b0 57 3 (.slice O n c) n (vxs xs)) (hfar : ∀ k ∈ fsH F M s, k < b0) :
    Calls Tryz.prog 40 #[.pointer (some ⟨F, 0, none⟩), .slice O n c] w (RowPostA w lo F M s l xs) := by
  have Hfs := hide h
  have Hx := hide hx
  have Hrow := hide hrow
  have Hnf : Hid (∀ k, (Value.slice O n c).ownBlock = some k → k ∉ fsH F M s) := hide fun k hk hm => by
    have := (hrow.lt k hk).1
    have := hfar k hm; omega
  have hn : xs.length = n := (vx_rows hrow).1
  have Hn := hide hn
  obtain ⟨i0, hi0, hz0, hy1, hy2⟩ := info3A
  have Hi0 := hide hi0; have Hz0 := hide hz0; have Hz1 := hide hy1; have Hz2 := hide hy2
  have hll : l.length + n ≤ 4000 := by omega
  clear hi0 hz0 hy1 hy2 h hn hx hrow hfar
  go_enter Tryz.func40, Tryz.ntmps40
  go_wp2_with fail
  go_loopw [5, 10] (fun ov i wr => ∃ (k cc : Nat) (O2 : Option Addr) (s2 : SL), k ≤ n ∧ i = .int .i64 k ∧ ov = .slice O2 k cc ∧ wr.ownsRow w.heap.size 3 1 (.slice O2 k cc) k (ints ((xs.take k).map (numI (addL l (xs.take k))))) ∧ FS wr lo F M s2 (addL l (xs.take k)) ∧ Fr (fsH F M s) (fsH F M s2) w wr ∧ ∀ z, (Value.slice O2 k cc).ownBlock = some z → z ∉ fsH F M s2) (fun ov i _ => n - (intOf i).toNat)
  case atStart => exact ⟨0, 0, none, s, by omega, rfl, rfl, World.ownsRow_nil _ _ _ _, Hfs.out, Fr.refl _ _, fun z hz => by cases hz⟩
  case round =>
    obtain ⟨k, cc, O2, s2, hk, rfl, rfl, hown, hfs, hfr, hno⟩ := hrel
    have Hown := hide hown
    have Hf2 := hide hfs
    have Hr2 := hide hfr
    have Hno := hide hno
    have hzr := hfr.size
    have Hxr := hide (vx_rows (own_fr Hrow.out hfr Hnf.out))
    clear hown hfs hfr hno
    by_cases hlt : k < n
    · have hlt' : ((k : Int) < (n : Int)) := by omega
      obtain ⟨pb, po, p, q, r, ePs, hpb, hpk, cp, cq, cr⟩ := RVx.at_ Hxr.out hlt
      subst ePs
      have Htk := hide (nums_snoc (l := l) hpk)
      have Hat := hide (show addL l (xs.take (k + 1)) = addV (addL l (xs.take k)) (p, q, r) by rw [List.take_add_one, hpk]; simp only [Option.toList_some, addL_snoc])
      have Hsm := hide (Hx.out (p, q, r) (List.mem_of_getElem? hpk))
      have hll2 : (addL l (xs.take k)).length ≤ 4000 := Nat.le_trans (addL_len _ _) (by simp; omega)
      clear hpk
      have hbA := (Below.refl wr.heap.size wr).alloc (Nat.le_refl _) (.cells #[.int .i64 p, .int .i64 q, .int .i64 r] 57)
      have HbA := hide hbA
      obtain ⟨d0, d1, d2⟩ := box57 wr p q r 57
      clear hbA
      go_wp2_with fail
      clear d0 d1 d2 cp cq cr
      refine (number_any lo F M s2 (addL l (xs.take k)) (p, q, r) _ (Hf2.out.below HbA.out) Hsm.out hll2 (by simp; omega)).mono ?_
      rintro e w2 ⟨rfl, s3, hf3, hr3⟩
      have Hf3 := hide hf3
      have Hr3 := hide ((Fr.of_below (H := fsH F M s2) HbA.out).trans hr3)
      have hz2 := hr3.size
      have hz2' : wr.heap.size + 1 ≤ w2.heap.size := by simpa using hz2
      have Hown2 := hide (own_fr (kept_new Hown.out (.cells #[.int .i64 p, .int .i64 q, .int .i64 r] 57)) hr3 Hno.out)
      have Hno2 : Hid (∀ z, (Value.slice O2 k cc).ownBlock = some z → z ∉ fsH F M s3) := hide fun z hz hm => by
        rcases Hr3.out.new z hm with h1 | h1
        · exact Hno.out z hz h1
        · have := (Hown.out.lt z hz).2; omega
      have Hmin : Hid (∀ z, (Value.slice O2 k cc).ownBlock = some z → w.heap.size ≤ z) := hide fun z hz => (Hown.out.lt z hz).1
      clear hf3 hr3 hz2
      generalize numI (addV (addL l (xs.take k)) (p, q, r)) (p, q, r) = num at *
      go_wp2_with (at_builtin; refine wpList_append_lies _ rfl _ _ _ rfl w.heap.size 3 i0 _ 1 8 Tryz.underlying32 Hi0.out Hz0.out Hz1.out Hz2.out rfl (by omega) (.slice O2 k cc) k (ints ((xs.take k).map (numI (addL l (xs.take k))))) rfl (kept_new Hown2.out _) ⟨w2.heap.size, 0, none⟩ 1 1 [.int .i64 num] (by rfl) rfl (World.news_of_block (cs := #[.int .i64 num]) (t := 3) (fr := (0, 0)) (heap_alloc_new w2 _)) (by simp [Value.oneCell']) (by omega) (by unfold maxLen; omega) (by omega) (by simp; omega) _ rfl ?_; intro gg cap w7 hown7 hgrow hat hlt7)
      have Hown7 : Hid (w7.ownsRow w.heap.size 3 1 (.slice (some ⟨gg, 0, none⟩) (k + 1) cap) (k + 1) (ints ((xs.take (k + 1)).map (numI (addL l (xs.take (k + 1))))))) := hide (by rw [Htk.out, ← ints_snoc]; exact hown7)
      have Hf7 : Hid (FS w7 lo F M s3 (addL l (xs.take (k + 1)))) := hide (by rw [Hat.out]; exact ((Hf3.out.below ((Below.refl _ _).alloc (Nat.le_refl _) _)).grow hgrow Hno2.out))
      have Hr7 : Hid (Fr (fsH F M s) (fsH F M s3) w w7) := hide (fr_grow ((Hr2.out.trans Hr3.out).trans (Fr.of_below ((Below.refl _ _).alloc (Nat.le_refl _) _))) hgrow Hmin.out)
      have Hno7 : Hid (∀ z, (Value.slice (some ⟨gg, 0, none⟩) (k + 1) cap).ownBlock = some z → z ∉ fsH F M s3) := hide fun z hz hm => by
        have e : gg = z := by simpa [Value.ownBlock] using hz
        subst e
        rcases hat with h1 | h1
        · exact Hno2.out gg h1 hm
        · have := Hf3.out.lt gg hm
          simp at h1; omega
      clear hown7 hgrow hat hlt7
      go_wp2_with fail
      go_roundw
      case rel => exact ⟨k + 1, cap, some ⟨gg, 0, none⟩, s3, by omega, by go_num, rfl, Hown7.out, Hf7.out, Hr7.out, Hno7.out⟩
      case measure => simp [intOf]; omega
    · have hlt' : ¬ ((k : Int) < (n : Int)) := by omega
      obtain rfl : k = n := by omega
      have Htake : Hid (xs.take k = xs) := hide (by rw [← Hn.out, List.take_length])
      have Hown2 : Hid (wr.ownsRow w.heap.size 3 1 (.slice O2 k cc) k (ints (xs.map (numI (addL l xs))))) := hide (by have h := Hown.out; rw [Htake.out] at h; exact h)
      have Hf3 : Hid (FS wr lo F M s2 (addL l xs)) := hide (by have h := Hf2.out; rw [Htake.out] at h; exact h)
      go_wp2_with fail
      refine (sort_any w.heap.size k cc O2 _ wr Hown2.out (by rw [List.length_map, Hn.out]; omega)).mono ?_
      rintro e w7 ⟨rfl, hown7, hgrow⟩
      have Hown7 := hide hown7
      have Hf7 := hide (Hf3.out.grow hgrow Hno.out)
      have Hr7 := hide (fr_grow Hr2.out hgrow (fun z hz => (Hown2.out.lt z hz).1))
      clear hown7 hgrow
      go_wp2_with fail
      go_ret
      exact ⟨O2, k, cc, s2, rfl, Hown7.out, Hn.out.symm, Hf7.out, Hr7.out, Hno.out⟩
end Go.Proofs.YtbppdalfcldodaaGreat
