/- parrylaw10's awake. -/
import Derived.Test.YtbppdalfcldodaaGreatABuild
import Derived.Test.YtbppdalfcldodaaGreatAAwakeM
set_option maxRecDepth 100000
namespace Go.Proofs.YtbppdalfcldodaaGreat
open Go.RowKit Ex
set_option linter.unusedSimpArgs false
set_option linter.unusedVariables false

theorem small_arena : (arAt (smallM (.mk 2 1 []))).length = 15 ∧ (arOwn (smallM (.mk 2 1 []))).length = 15 ∧ (arNxt (smallM (.mk 2 1 []))).length = 15 ∧ (arAt (smallM (.mk 2 1 [])))[0]? = some (1, 0, 0) ∧ (arOwn (smallM (.mk 2 1 [])))[1]? = some 1 ∧
    ∃ r, (arNxt (smallM (.mk 2 1 [])))[0]? = some r ∧ r.length = 2 := by
  have hg := go_all small_tot small_go
  have hok := go_ok (smallM (.mk 2 1 [])) 15
  have h1 : arAt (smallM (.mk 2 1 [])) = (goV (smallM (.mk 2 1 [])) 15).1 := by unfold arAt; rw [if_pos small_ok, hg]
  have h2 : arNxt (smallM (.mk 2 1 [])) = (goV (smallM (.mk 2 1 [])) 15).2 := by unfold arNxt; rw [if_pos small_ok, hg]
  have h3 := small_one
  have h4 := small_go
  refine ⟨by rw [h1]; exact h4, by unfold arOwn; rw [List.length_map, h1]; exact h4, by rw [h2]; exact hok.len (by rw [h4]; exact Nat.le_refl _), by rw [h1]; exact hok.root, by unfold arOwn; rw [List.getElem?_map, h1, h3]; rfl, ?_⟩
  obtain ⟨_, h5⟩ := hok.next 0 _ hok.root (by omega)
  rw [h2]
  refine ⟨_, h5, ?_⟩
  rw [sortI_len, List.length_map]
  have : succV (smallM (.mk 2 1 [])) rootV = (initEnvL (smallM (.mk 2 1 []))).map startV := by simp [succV, rootV]
  rw [this, List.length_map]; exact small_init
set_option maxHeartbeats 2000000 in
theorem awake_any (w : World) : Calls Tryz.prog 10 #[] w fun e w' => e = .returned (.bool true) ∧ Below w.heap.size w w' := by
  have Hd := hide small_arena
  have Hdb : Hid (Calls Tryz.prog 11 #[.agg (smallC w.heap.size).cells] (smallW w) (ArenaPost (smallW w) (smallM (.mk 2 1 [])))) := hide (dbuild_any (w.heap.size + 10) (smallC w.heap.size) (smallM (.mk 2 1 [])) (smallW w) (by rw [small_size]; exact Nat.le_refl _) (small_rm (small_blocks w)) (fun _ => small_tot))
  have Hb := hide (small_below w)
  have hsz := small_size w
  have hme : (modE (smallM (.mk 2 1 [])) == 0) = true := by rw [small_ok]; rfl
  generalize smallM (.mk 2 1 []) = m at *
  have Hsm := hide (small_any w)
  generalize smallW w = w1 at *
  generalize (smallC w.heap.size).cells = cs at *
  go_enter Tryz.func10, Tryz.ntmps10
  go_wp2_with fail
  refine Hsm.out.mono ?_
  rintro e w0 ⟨rfl, rfl⟩
  go_wp2_with fail
  refine Hdb.out.mono ?_
  rintro e w2 ⟨⟨OA, on, oc⟩, ⟨NA, nn, nc⟩, ⟨AA, an, ac⟩, rfl, hrg, hrv, hb2⟩
  have hz2 := hb2.size
  have Hb2 := hide (Hb.out.trans (hb2.mono (by omega)))
  obtain ⟨d1, d2, d3, d4, d5, r0, d6, d7⟩ := Hd.out
  obtain rfl : an = 15 := hrv.1.symm.trans d1
  obtain rfl : on = 15 := hrg.own.len.symm.trans d2
  obtain rfl : nn = 15 := hrg.nxt.len.symm.trans d3
  have hbx := (Below.refl w2.heap.size w2).alloc (Nat.le_refl _) (.cells #[.slice OA 15 oc, .slice NA 15 nc, .slice AA 15 ac] 38)
  have Hb3 := hide (Hb2.out.trans (hbx.mono (by omega)))
  obtain ⟨ab, ao, p, q, r, eA, hab, hp, cp, cq, cr⟩ := RVx.at_ (hrv.below hbx) (show 0 < 15 by omega)
  obtain ⟨ob, oo, ov, eO, hob, ho, co⟩ := Gr.RI.at_ (hrg.own.below hbx) (show 1 < 15 by omega)
  obtain ⟨nb, no, row, A2, n2, c2, eN, hnb, hn, cn, hri⟩ := Gr.RR.at_ (hrg.nxt.below hbx) (show 0 < 15 by omega)
  rw [d4] at hp
  simp only [Option.some.injEq, Prod.mk.injEq] at hp
  obtain ⟨rfl, rfl, rfl⟩ := hp
  simp only at ho hn
  rw [d5] at ho
  obtain rfl := Option.some.inj ho
  rw [d6] at hn
  obtain rfl := Option.some.inj hn
  obtain rfl : n2 = 2 := hri.len.symm.trans d7
  subst eA; subst eO; subst eN
  have hnew : (w2.alloc (.cells #[.slice (some ⟨ob, oo, none⟩) 15 oc, .slice (some ⟨nb, no, none⟩) 15 nc, .slice (some ⟨ab, ao, none⟩) 15 ac] 38)).heap[w2.heap.size]? = some (.cells #[.slice (some ⟨ob, oo, none⟩) 15 oc, .slice (some ⟨nb, no, none⟩) 15 nc, .slice (some ⟨ab, ao, none⟩) 15 ac] 38 (0, 0)) := heap_alloc_new w2 _
  obtain ⟨k0, k1, k2, _⟩ := box3_cells hnew
  simp only [Nat.zero_mul, Nat.add_zero] at cp cn
  simp only [Gr.SL.v, SL.v] at *
  clear hrg hrv hb2 hbx hri d1 d2 d3 d4 d5 d6 d7 ho hn hnew cq cr Hb2 Hd hsz
  go_wp2_with fail
  go_ret
  exact ⟨rfl, Hb3.out⟩
end Go.Proofs.YtbppdalfcldodaaGreat
