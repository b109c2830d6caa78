/- The walk of ArenaMore. -/
import Derived.Test.YtbppdalfcldodaaGreatAMark
import Derived.Test.YtbppdalfcldodaaGreatGMq
import Derived.Test.YtbppdalfcldodaaGreatGSm
import Derived.Test.YtbppdalfcldodaaGreatGLaw
import Derived.Test.YtbppdalfcldodaaGreatGMd
import Derived.Deep.RegionHeld3
set_option maxRecDepth 100000
namespace Go.Proofs.YtbppdalfcldodaaGreat
open Go.RowKit Ex Go.WideMaps Go.Maps
set_option linter.unusedSimpArgs false
set_option linter.unusedVariables false

/- with one command more one goes wherever one went -/
def moreM (m : MT) (c : CT) (env : Bool) : MT := if env = true then { m with env := m.env ++ [c] } else { m with sys := m.sys ++ [c] }
theorem more_vars (m : MT) (c : CT) (env : Bool) : (moreM m c env).vars = m.vars ∧ (moreM m c env).ie = m.ie ∧ (moreM m c env).is = m.is := by unfold moreM; split <;> exact ⟨rfl, rfl, rfl⟩
theorem more_tot (m : MT) (c : CT) (env : Bool) : totN (moreM m c env) = totN m := by unfold totN; rw [(more_vars m c env).1]
theorem more_ok {m : MT} {c : CT} {env : Bool} (h : modE m = 0) (hc : cmdE m.vars c env = 0) (he : m.env.length < 12) (hs : m.sys.length < 12) : modE (moreM m c env) = 0 := by
  unfold moreM
  cases env
  · rw [if_neg (by decide), more_sys h c, if_neg (by omega)]; exact hc
  · rw [if_pos rfl, more_env h c, if_neg (by omega)]; exact hc
theorem more_succ {m : MT} {c : CT} {env : Bool} (h : modE m = 0) (h2 : modE (moreM m c env) = 0) {x y : Vx} (hy : y ∈ succV m x) : y ∈ succV (moreM m c env) x := by
  obtain ⟨e1, e2, e3⟩ := more_vars m c env
  have i1 : initEnvL (moreM m c env) = initEnvL m := by unfold initEnvL; rw [if_pos h, if_pos h2, more_tot, e1, e2]
  have i2 : ∀ p, initSysL (moreM m c env) p = initSysL m p := fun p => by unfold initSysL; rw [e1, e3, more_tot]; simp only [h, h2]
  have i3 : ∀ s p, p ∈ envL m s → p ∈ envL (moreM m c env) s := fun s p hp => by
    cases env
    · have : envL (moreM m c false) s = envL m s := by
        unfold envL
        rw [more_tot, e1]
        simp only [h, h2]
        rfl
      rw [this]; exact hp
    · have h3 : moreM m c true = { m with env := m.env ++ [c] } := rfl
      rw [h3] at h2 ⊢
      exact (more_envL h h2 (less_env (m := { m with env := m.env ++ [c] }) h2 (l := [c]) (by simp) (by simp)) p).2 (.inl hp)
  have i4 : ∀ s p z, z ∈ sysL m s p → z ∈ sysL (moreM m c env) s p := fun s p z hz => by
    cases env
    · have h3 : moreM m c false = { m with sys := m.sys ++ [c] } := rfl
      rw [h3] at h2 ⊢
      exact (more_sysL h h2 (less_sys (m := { m with sys := m.sys ++ [c] }) h2 (l := [c]) (by simp) (by simp)) z).2 (.inl hz)
    · have : sysL (moreM m c true) s p = sysL m s p := by
        unfold sysL
        rw [more_tot, e1]
        simp only [h, h2]
        rfl
      rw [this]; exact hz
  unfold succV at hy ⊢
  by_cases k1 : x.1 = 1
  · rw [if_pos k1] at hy ⊢; rw [i1]; exact hy
  · rw [if_neg k1] at hy ⊢
    by_cases k2 : x.1 = 2
    · rw [if_pos k2] at hy ⊢; rw [i2]; exact hy
    · rw [if_neg k2] at hy ⊢
      by_cases k3 : x.1 = 3
      · rw [if_pos k3] at hy ⊢
        obtain ⟨p, hp, rfl⟩ := List.mem_map.1 hy
        exact List.mem_map.2 ⟨p, i3 _ _ hp, rfl⟩
      · rw [if_neg k3] at hy ⊢
        by_cases k4 : x.1 = 4
        · rw [if_pos k4] at hy ⊢
          obtain ⟨z, hz, rfl⟩ := List.mem_map.1 hy
          exact List.mem_map.2 ⟨z, i4 _ _ _ hz, rfl⟩
        · rw [if_neg k4] at hy; cases hy
theorem at_sub {m m2 : MT} {a a2 : List Vx} {n n2 : List (List Int)} (h : Arena m a n) (h2 : Arena m2 a2 n2) (hs : ∀ x y, y ∈ succV m x → y ∈ succV m2 x) : ∀ (i : Nat) x, a[i]? = some x → x ∈ a2 := by
  intro i
  induction i using Nat.strongRecOn with
  | _ i ih =>
    intro x hx
    by_cases hz : i = 0
    · subst hz
      rw [h.root] at hx
      obtain rfl := Option.some.inj hx
      exact List.mem_of_getElem? h2.root
    · obtain ⟨j, z, h3, h4, h5⟩ := h.from_ i x hx (by omega)
      obtain ⟨k, hk⟩ := List.mem_iff_getElem?.1 (ih j h3 z h4)
      exact (h2.next k z hk).1 x (hs z x h5)
theorem mark_yes {D : DataW Unit} {l : List Vx} {x : Vx} {c : Int} (h : VMark D l) (hx : SmV x) (hn : x ∈ l) (hat : D.atKey (keyL x) (.lit (.int .i64 0)) = .lit (.int .i64 c)) : c = 1 := by
  rw [h x hx, if_pos hn] at hat
  injection hat with hat; injection hat with _ hat; exact hat.symm
theorem row_envA {w : World} {g : Nat} {x : M8} {s : SL} (h : w.rowIs g 28 12 (fun i => if i = 7 then s.v else mV x i)) : w.rowIs g 28 12 (mV { x with env := s }) :=
  h.congr (fun i hi => by
    have h : i = 0 ∨ i = 1 ∨ i = 2 ∨ i = 3 ∨ i = 4 ∨ i = 5 ∨ i = 6 ∨ i = 7 ∨ i = 8 ∨ i = 9 ∨ i = 10 ∨ i = 11 := by omega
    rcases h with rfl | rfl | rfl | rfl | rfl | rfl | rfl | rfl | rfl | rfl | rfl | rfl <;> rfl)
theorem row_sysA {w : World} {g : Nat} {x : M8} {s : SL} (h : w.rowIs g 28 12 (fun i => if i = 8 then s.v else mV x i)) : w.rowIs g 28 12 (mV { x with sys := s }) :=
  h.congr (fun i hi => by
    have h : i = 0 ∨ i = 1 ∨ i = 2 ∨ i = 3 ∨ i = 4 ∨ i = 5 ∨ i = 6 ∨ i = 7 ∨ i = 8 ∨ i = 9 ∨ i = 10 ∨ i = 11 := by omega
    rcases h with rfl | rfl | rfl | rfl | rfl | rfl | rfl | rfl | rfl | rfl | rfl | rfl <;> rfl)
theorem rm_envA {w : World} {B : Nat} {x : M8} {m : MT} {s : SL} {l : List CT} (h : RM w B x m) (hs : Rows CmdAt 4 w B s l) : RM w B { x with env := s } { m with env := l } :=
  ⟨h.1, h.2.1, h.2.2.1, h.2.2.2.1, hs, h.2.2.2.2.2.1, h.2.2.2.2.2.2.1, h.2.2.2.2.2.2.2.1, h.2.2.2.2.2.2.2.2⟩
theorem rm_sysA {w : World} {B : Nat} {x : M8} {m : MT} {s : SL} {l : List CT} (h : RM w B x m) (hs : Rows CmdAt 4 w B s l) : RM w B { x with sys := s } { m with sys := l } :=
  ⟨h.1, h.2.1, h.2.2.1, h.2.2.2.1, h.2.2.2.2.1, hs, h.2.2.2.2.2.2.1, h.2.2.2.2.2.2.2.1, h.2.2.2.2.2.2.2.2⟩
theorem cmds_cellsA {V : World} {B : Nat} {s : SL} {l : List CT} (h : Rows CmdAt 4 V B s l) : ∃ ks, Chunk 4 (CmdC V B) ks l ∧ ∀ ad, s.A = some ad → ∀ (j : Nat) u, ks.flatten[j]? = some u → ad.block < B ∧ V.cell? (ad.add j) = some u := by
  obtain ⟨A, n, c⟩ := s
  by_cases hn : 0 < n
  · obtain ⟨b, off, e, hb, _⟩ := h.2.2.2.1 hn
    simp only at e
    subst e
    obtain ⟨ks, h1, h2⟩ := rows_cells h hn (fun o a ha => cmd_cells o a ha)
    refine ⟨ks, h1, fun ad e j u hu => ?_⟩
    simp only at e
    injection e with e
    subst e
    have := h2 j u hu
    refine ⟨hb, ?_⟩
    by_cases hj : j = 0
    · subst hj; simpa [Addr.add] using this
    · simpa [Addr.add, hj] using this
  · have hl : l = [] := List.eq_nil_of_length_eq_zero (by have := h.1; simp only at this; omega)
    subst hl
    exact ⟨[], Chunk.nil, fun ad _ j u hu => by simp at hu⟩
theorem rows_nilA {α : Type} {P : World → Nat → Nat → Nat → α → Prop} {sz : Nat} {w : World} {B : Nat} {s : SL} {l : List α} (h : Rows P sz w B s l) (e : s.A = none) : s.n = 0 ∧ s.c = 0 := by
  refine ⟨?_, h.2.2.2.2 e⟩
  by_cases hn : 0 < s.n
  · obtain ⟨b, off, e2, _⟩ := h.2.2.2.1 hn
    rw [e] at e2; cases e2
  · omega
theorem cmds_moreA {w w0 : World} {B base n cp : Nat} {O : Option Addr} {ks : List (List Value)} {cs : List CT} {c : CT} {op nn : Int} {A : Option Addr} {len cap : Nat} {tA : Option Addr} {tn tc : Nat} (hch : Chunk 4 (CmdC w0 B) ks cs) (hb : Below B w0 w) (hB : B ≤ w.heap.size) (how : w.ownsRow base 71 4 (.slice O n cp) n (ks.flatten ++ [.int .i64 op, .int .i64 nn, .slice A len cap, .slice tA tn tc])) (hc : RC w B ⟨⟨op, nn, A, len, cap⟩, ⟨tA, tn, tc⟩⟩ c) : Rows CmdAt 4 w w.heap.size ⟨O, n, cp⟩ (cs ++ [c]) := by
  rw [← rows_flat_snoc] at how
  exact own_rows (by omega) how ((hch.turn (fun ch a h => CmdC.up h hb hB)).snoc rfl (by simp [Value.oneCell']) ⟨⟨op, nn, A, len, cap⟩, ⟨tA, tn, tc⟩, rfl, hc.1.more hB, hc.2.more hB (fun b o x hx => SetAt.more hx hB)⟩) (fun b o ch a _ h1 h2 => cmd_back h1 h2)
theorem at_len {m m2 : MT} {a a2 : List Vx} {n n2 : List (List Int)} (h : Arena m a n) (h2 : Arena m2 a2 n2) (hs : ∀ x y, y ∈ succV m x → y ∈ succV m2 x) : a.length ≤ a2.length :=
  List.Nodup.length_le_of_subset h.nd (fun x hx => by
    obtain ⟨i, hi⟩ := List.mem_iff_getElem?.1 hx
    exact at_sub h h2 hs i x hi)
end Go.Proofs.YtbppdalfcldodaaGreat
