/- The walks of the reference's sound, fits, MayExpr, Nodes; weigh and Heavy of the statements. -/
import Derived.Test.YtdjllpejonfpgaaERef
namespace Go.Proofs.Ytdjllpejonfpgaa.Ex
open Go.RowKit
set_option linter.unusedSimpArgs false
set_option linter.unusedVariables false

mutual
def sound : T → Bool
  | .mk op n ks => nodeB op n ks.length && soundK ks
def soundK : List T → Bool
  | [] => true
  | k :: r => sound k && soundK r
end
theorem sound_eq (t : T) : sound t = (nodeB t.op t.n t.kids.length && soundK t.kids) := by cases t; rw [sound]; rfl

set_option maxHeartbeats 1000000 in
theorem rsound_any (B : Nat) : ∀ (d : Nat) (op n : Int) (A : Option Addr) (len cap : Nat) (t : T) (w : World), B ≤ w.heap.size → RE w B d op n A len cap t →
    Calls Try.prog 31 #[.agg #[.int .i64 op, .int .i64 n, .slice A len cap]] w fun e w' => e = .returned (.bool (sound t)) ∧ Below w.heap.size w w' := by
  intro d
  induction d with
  | zero => intro op n A len cap t w hB h; exact absurd h id
  | succ d ih =>
    intro op n A len cap t w hB hre
    have IH := hide ih; clear ih
    have Hre := hide hre
    obtain ⟨hx1, hx2, hlen, hcap, hmx, hx6⟩ := hre
    have Hlm : Hid (len ≤ maxLen) := hide (Nat.le_trans hcap hmx)
    unfold maxLen at hmx
    have Hlen := hide hlen
    have Hs : Hid (sound t = (nodeB op n len && soundK t.kids)) := hide (by rw [sound_eq, hx1, hx2, hlen])
    clear hlen hx1 hx2 hx6
    have hbx : Below w.heap.size w (w.alloc (.cells #[.int .i64 op, .int .i64 n, .slice A len cap] 25)) := (Below.refl _ _).alloc (Nat.le_refl _) _
    have Hbox := hide (box_new w op n A len cap 25)
    go_enter Try.func31, Try.ntmps31
    go_wp2_with fail
    refine (rnode_any op n A len cap _ Hlm.out).mono ?_
    rintro e w1 ⟨rfl, hb1⟩
    have hbw1 := below_box (Below.refl w.heap.size w) (Nat.le_refl _) hb1
    obtain ⟨d0, d1, d2⟩ := Hbox.out.below hb1 (by simp)
    clear hb1 hbx Hbox
    cases hN : nodeB op n len
    · have Hr : Hid (sound t = false) := hide (by rw [Hs.out, hN]; rfl)
      clear hN
      go_wp2_with fail
      go_ret
      exact ⟨ret_bool Hr.out.symm, hbw1⟩
    · have Hr : Hid (sound t = soundK t.kids) := hide (by rw [Hs.out, hN]; rfl)
      clear hN
      go_wp2_with fail
      clear d0 d1 d2
      go_loopw [11] (fun i wr => ∃ (k : Nat), k ≤ len ∧ i = .int .i64 k ∧ Hid (soundK (t.kids.drop k) = soundK t.kids) ∧ Below w.heap.size w wr) (fun i _ => len - (intOf i).toNat)
      case atStart => exact ⟨0, Nat.zero_le _, rfl, hide rfl, hbw1⟩
      case round =>
        obtain ⟨k, hk, rfl, HT, hb⟩ := hrel
        have hsz := hb.size
        by_cases hlt : k < len
        · have hlt' : ((k : Int) < (len : Int)) := by omega
          obtain ⟨b, off, u, op2, n2, A2, l2, c2, rfl, hbB, hku, ⟨c0, c1, cs⟩, hre2⟩ := (Hre.out.below (hb.mono hB)).at_ hlt
          have Hst : Hid ((sound u && soundK (t.kids.drop (k + 1))) = soundK t.kids) := hide (by rw [← HT.out, drop_at hku, soundK])
          clear hku
          have Hre3 := hide (hre2.below ((Below.refl B wr).alloc (by omega) (.cells #[.int .i64 op2, .int .i64 n2, .slice A2 l2 c2] 25)))
          clear hre2
          have hbz : B ≤ (wr.alloc (.cells #[.int .i64 op2, .int .i64 n2, .slice A2 l2 c2] 25)).heap.size := by simp; omega
          go_wp2_with fail
          refine (IH.out op2 n2 A2 l2 c2 u _ hbz Hre3.out).mono ?_
          rintro e w2 ⟨rfl, hb2⟩
          have hbw2 := below_box hb (Nat.le_refl _) hb2
          clear hb2 c0 c1 cs Hre3 hbz
          cases hu : sound u
          · have Hf : Hid (sound t = false) := hide (by rw [Hr.out, ← Hst.out, hu]; rfl)
            clear hu
            go_wp2_with fail
            go_ret
            exact ⟨ret_bool Hf.out.symm, hbw2⟩
          · have Hon : Hid (soundK (t.kids.drop (k + 1)) = soundK t.kids) := hide (by rw [← Hst.out, hu]; rfl)
            clear hu
            go_wp2_with fail
            go_roundw
            case rel => exact ⟨k + 1, by omega, by go_num, Hon, hbw2⟩
            case measure => simp [intOf]; omega
        · have hlt' : ¬ ((k : Int) < (len : Int)) := by omega
          have Hf : Hid (sound t = true) := hide (by rw [Hr.out, ← HT.out, List.drop_of_length_le (by rw [Hlen.out]; omega), soundK])
          go_wp2_with fail
          go_ret
          exact ⟨ret_bool Hf.out.symm, hb⟩

def fitsB (t : T) : Bool := decide ((cnt t 1 60).1 ≤ 60) && !(cnt t 1 60).2
def nodesE (t : T) : Int := (cnt t 1 60).1
def mayE (t : T) : Int := if fitsB t = false then 7 else if sound t = false then 1 else 0

set_option maxHeartbeats 400000 in
theorem rfits_any (B d : Nat) (op n : Int) (A : Option Addr) (len cap : Nat) (t : T) (w : World) (hB : B ≤ w.heap.size) (hre : RE w B d op n A len cap t) :
    Calls Try.prog 30 #[.agg #[.int .i64 op, .int .i64 n, .slice A len cap]] w fun e w' => e = .returned (.bool (fitsB t)) ∧ Below w.heap.size w w' := by
  have Hre := hide (hre.below ((Below.refl B w).alloc hB (.cells #[.int .i64 op, .int .i64 n, .slice A len cap] 25)))
  clear hre
  have hbz : B ≤ (w.alloc (.cells #[.int .i64 op, .int .i64 n, .slice A len cap] 25)).heap.size := by simp; omega
  have hf : fitsB t = (decide ((cnt t 1 60).1 ≤ 60) && !(cnt t 1 60).2) := rfl
  have Hf := hide hf; clear hf
  go_enter Try.func30, Try.ntmps30
  go_wp2_with fail
  refine (count_any B d op n A len cap t 1 60 _ hbz Hre.out (by omega) (by omega) (by omega) (by omega)).mono ?_
  rintro e w1 ⟨rfl, hb1⟩
  have hbw1 := below_box (Below.refl w.heap.size w) (Nat.le_refl _) hb1
  clear hb1 hbz Hre
  generalize cnt t 1 60 = c at *
  obtain ⟨cn, co⟩ := c
  simp only at Hf ⊢
  cases h1 : decide (cn ≤ 60)
  · have Hr : Hid (fitsB t = false) := hide (by rw [Hf.out, h1]; rfl)
    go_wp2_with fail
    go_ret
    exact ⟨ret_bool Hr.out.symm, hbw1⟩
  · have Hr : Hid (fitsB t = !co) := hide (by rw [Hf.out, h1]; rfl)
    go_wp2_with fail
    go_ret
    exact ⟨ret_bool Hr.out.symm, hbw1⟩

set_option maxHeartbeats 400000 in
theorem rmay_any (B d : Nat) (op n : Int) (A : Option Addr) (len cap : Nat) (t : T) (w : World) (hB : B ≤ w.heap.size) (hre : RE w B d op n A len cap t) :
    Calls Try.prog 15 #[.agg #[.int .i64 op, .int .i64 n, .slice A len cap]] w fun e w' => e = .returned (.int .i64 (mayE t)) ∧ Below w.heap.size w w' := by
  have Hre := hide (hre.below ((Below.refl B w).alloc hB (.cells #[.int .i64 op, .int .i64 n, .slice A len cap] 25)))
  clear hre
  have hbz : B ≤ (w.alloc (.cells #[.int .i64 op, .int .i64 n, .slice A len cap] 25)).heap.size := by simp; omega
  have Hbox := hide (box_new w op n A len cap 25)
  go_enter Try.func15, Try.ntmps15
  go_wp2_with fail
  refine (rfits_any B d op n A len cap t _ hbz Hre.out).mono ?_
  rintro e w1 ⟨rfl, hb1⟩
  have hz1 := hb1.size
  have hbw1 := below_box (Below.refl w.heap.size w) (Nat.le_refl _) hb1
  obtain ⟨d0, d1, d2⟩ := Hbox.out.below hb1 (by simp)
  have Hre1 := hide (Hre.out.below (hb1.mono hbz))
  have hbz1 : B ≤ w1.heap.size := by omega
  clear hb1 hbz Hre Hbox
  cases hf : fitsB t
  · have Hr : Hid (mayE t = 7) := hide (by unfold mayE; rw [hf]; rfl)
    go_wp2_with fail
    go_ret
    exact ⟨ret_int Hr.out.symm, hbw1⟩
  · go_wp2_with fail
    refine (rsound_any B d op n A len cap t _ hbz1 Hre1.out).mono ?_
    rintro e w2 ⟨rfl, hb2⟩
    have hbw2 := hbw1.trans (hb2.mono hbw1.size)
    clear hb2 d0 d1 d2
    cases hs : sound t
    · have Hr : Hid (mayE t = 1) := hide (by unfold mayE; rw [hf, hs]; rfl)
      go_wp2_with fail
      go_ret
      exact ⟨ret_int Hr.out.symm, hbw2⟩
    · have Hr : Hid (mayE t = 0) := hide (by unfold mayE; rw [hf, hs]; rfl)
      go_wp2_with fail
      go_ret
      exact ⟨ret_int Hr.out.symm, hbw2⟩

mutual
def wgh : T → Int → Int → Int
  | .mk _ _ ks, deep, room => if 40 < deep ∨ room < 1 then 1000 else wghK ks deep room 1
def wghK : List T → Int → Int → Int → Int
  | [], _, _, n => n
  | k :: r, deep, room, n => if room < n + wgh k (deep + 1) (room - n) then 1000 else wghK r deep room (n + wgh k (deep + 1) (room - n))
end
mutual
theorem wgh_bd : ∀ (t : T) (deep room : Int), room ≤ 1000 → 1 ≤ wgh t deep room ∧ wgh t deep room ≤ 1000
  | .mk o n ks, deep, room, h => by
    rw [wgh]
    split
    · omega
    · exact wghK_bd ks deep room 1 h (by omega) (by omega)
theorem wghK_bd : ∀ (ks : List T) (deep room n : Int), room ≤ 1000 → 1 ≤ n → n ≤ 1000 → 1 ≤ wghK ks deep room n ∧ wghK ks deep room n ≤ 1000
  | [], deep, room, n, h, h1, h2 => by rw [wghK]; omega
  | k :: r, deep, room, n, h, h1, h2 => by
    rw [wghK]
    split
    · omega
    · have := wgh_bd k (deep + 1) (room - n) (by omega)
      exact wghK_bd r deep room _ h (by omega) (by omega)
end
theorem wgh_over (t : T) (deep room : Int) (h : 40 < deep ∨ room < 1) : wgh t deep room = 1000 := by cases t; rw [wgh, if_pos h]
theorem wgh_on (t : T) (deep room : Int) (h : ¬ (40 < deep ∨ room < 1)) : wgh t deep room = wghK t.kids deep room 1 := by cases t; rw [wgh, if_neg h]; rfl

set_option maxHeartbeats 1000000 in
theorem weigh_any (B : Nat) : ∀ (d : Nat) (op n : Int) (A : Option Addr) (len cap : Nat) (t : T) (deep room : Int) (w : World), B ≤ w.heap.size → RE w B d op n A len cap t → 0 ≤ deep → deep ≤ 1000 → -1000 ≤ room → room ≤ 1000 →
    Calls Try.prog 18 #[.agg #[.int .i64 op, .int .i64 n, .slice A len cap], .int .i64 deep, .int .i64 room] w fun e w' => e = .returned (.int .i64 (wgh t deep room)) ∧ Below w.heap.size w w' := by
  intro d
  induction d with
  | zero => intro op n A len cap t deep room w hB h; exact absurd h id
  | succ d ih =>
    intro op n A len cap t deep room w hB hre hd1 hd2 hr1 hr2
    have IH := hide ih; clear ih
    have Hre := hide hre
    obtain ⟨hx1, hx2, hlen, hcap, hmx, hx6⟩ := hre
    unfold maxLen at hmx
    have Hlen := hide hlen
    clear hlen hx1 hx2 hx6
    have hbx : Below w.heap.size w (w.alloc (.cells #[.int .i64 op, .int .i64 n, .slice A len cap] 25)) := (Below.refl _ _).alloc (Nat.le_refl _) _
    by_cases h1 : 40 < deep
    · have h1b : decide (40 < deep) = true := by simp [h1]
      have Hr := hide (wgh_over t deep room (.inl h1))
      go_enter Try.func18, Try.ntmps18
      go_wp2_with fail
      go_ret
      exact ⟨ret_int Hr.out.symm, hbx⟩
    · have h1b : decide (40 < deep) = false := by simp; omega
      by_cases h2 : room < 1
      · have h2b : decide (room < 1) = true := by simp [h2]
        have Hr := hide (wgh_over t deep room (.inr h2))
        go_enter Try.func18, Try.ntmps18
        go_wp2_with fail
        go_ret
        exact ⟨ret_int Hr.out.symm, hbx⟩
      · have h2b : decide (room < 1) = false := by simp; omega
        have Hr := hide (wgh_on t deep room (by omega))
        go_enter Try.func18, Try.ntmps18
        go_wp2_with fail
        go_loopw [7, 19] (fun a i wr => ∃ (k : Nat) (m : Int), k ≤ len ∧ i = .int .i64 k ∧ a = .int .i64 m ∧ 1 ≤ m ∧ m ≤ room ∧ Hid (wghK (t.kids.drop k) deep room m = wghK t.kids deep room 1) ∧ Below w.heap.size w wr) (fun _ i _ => len - (intOf i).toNat)
        case atStart => exact ⟨0, 1, Nat.zero_le _, rfl, rfl, by omega, by omega, hide rfl, hbx⟩
        case round =>
          obtain ⟨k, m, hk, rfl, rfl, hm1, hm2, HT, hb⟩ := hrel
          have hsz := hb.size
          by_cases hlt : k < len
          · have hlt' : ((k : Int) < (len : Int)) := by omega
            obtain ⟨b, off, u, op2, n2, A2, l2, c2, rfl, hbB, hku, ⟨c0, c1, cs⟩, hre2⟩ := (Hre.out.below (hb.mono hB)).at_ hlt
            obtain ⟨q1, q2⟩ := wgh_bd u (deep + 1) (room - m) (by omega)
            have Hst : Hid ((if room < m + wgh u (deep + 1) (room - m) then 1000 else wghK (t.kids.drop (k + 1)) deep room (m + wgh u (deep + 1) (room - m))) = wghK t.kids deep room 1) := hide (by rw [← HT.out, drop_at hku, wghK])
            clear hku
            have Hre3 := hide (hre2.below ((Below.refl B wr).alloc (by omega) (.cells #[.int .i64 op2, .int .i64 n2, .slice A2 l2 c2] 25)))
            clear hre2
            have hbz : B ≤ (wr.alloc (.cells #[.int .i64 op2, .int .i64 n2, .slice A2 l2 c2] 25)).heap.size := by simp; omega
            go_wp2_with fail
            refine (IH.out op2 n2 A2 l2 c2 u (deep + 1) (room - m) _ hbz Hre3.out (by omega) (by omega) (by omega) (by omega)).mono ?_
            rintro e w1 ⟨rfl, hb1⟩
            have hbw1 := below_box hb (Nat.le_refl _) hb1
            generalize wgh u (deep + 1) (room - m) = c at *
            clear hb1 c0 c1 cs Hre3 hbz
            by_cases hov : room < m + c
            · have hovb : decide (room < m + c) = true := by simp [hov]
              have Hf : Hid (wgh t deep room = 1000) := hide (by rw [Hr.out, ← Hst.out, if_pos hov])
              go_wp2_with fail
              go_ret
              exact ⟨ret_int Hf.out.symm, hbw1⟩
            · have hovb : decide (room < m + c) = false := by simp; omega
              have Hon : Hid (wghK (t.kids.drop (k + 1)) deep room (m + c) = wghK t.kids deep room 1) := hide (by rw [← Hst.out, if_neg hov])
              go_wp2_with fail
              go_roundw
              case rel => exact ⟨k + 1, m + c, by omega, by go_num, rfl, by omega, by omega, Hon, hbw1⟩
              case measure => simp [intOf]; omega
          · have hlt' : ¬ ((k : Int) < (len : Int)) := by omega
            have Hf : Hid (wgh t deep room = m) := hide (by rw [Hr.out, ← HT.out, List.drop_of_length_le (by rw [Hlen.out]; omega), wghK])
            go_wp2_with fail
            go_ret
            exact ⟨ret_int Hf.out.symm, hb⟩

def heavyE (t : T) : Int := if 300 < wgh t 0 500 then wgh t 0 500 else 0
set_option maxHeartbeats 400000 in
theorem heavy_any (B d : Nat) (op n : Int) (A : Option Addr) (len cap : Nat) (t : T) (w : World) (hB : B ≤ w.heap.size) (hre : RE w B d op n A len cap t) :
    Calls Try.prog 8 #[.agg #[.int .i64 op, .int .i64 n, .slice A len cap]] w fun e w' => e = .returned (.int .i64 (heavyE t)) ∧ Below w.heap.size w w' := by
  have Hre := hide (hre.below ((Below.refl B w).alloc hB (.cells #[.int .i64 op, .int .i64 n, .slice A len cap] 25)))
  clear hre
  have hbz : B ≤ (w.alloc (.cells #[.int .i64 op, .int .i64 n, .slice A len cap] 25)).heap.size := by simp; omega
  have hf : heavyE t = if 300 < wgh t 0 500 then wgh t 0 500 else 0 := rfl
  have Hf := hide hf; clear hf
  go_enter Try.func8, Try.ntmps8
  go_wp2_with fail
  refine (weigh_any B d op n A len cap t 0 500 _ hbz Hre.out (by omega) (by omega) (by omega) (by omega)).mono ?_
  rintro e w1 ⟨rfl, hb1⟩
  have hbw1 := below_box (Below.refl w.heap.size w) (Nat.le_refl _) hb1
  clear hb1 hbz Hre
  generalize wgh t 0 500 = c at *
  by_cases h : 300 < c
  · have hb : decide (300 < c) = true := by simp [h]
    have Hr : Hid (heavyE t = c) := hide (by rw [Hf.out, if_pos h])
    go_wp2_with fail
    go_ret
    exact ⟨ret_int Hr.out.symm, hbw1⟩
  · have hb : decide (300 < c) = false := by simp; omega
    have Hr : Hid (heavyE t = 0) := hide (by rw [Hf.out, if_neg h])
    go_wp2_with fail
    go_ret
    exact ⟨ret_int Hr.out.symm, hbw1⟩
end Go.Proofs.Ytdjllpejonfpgaa.Ex
