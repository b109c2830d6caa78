/- The reference's text of an expression. The reference's text of an expression: every expression. The texts of a command and of an expression: the program's, the reference's. -/
import Derived.Test.YtjpphjmehgflpaaGreatDoorHShow
import Derived.Laws.Concat
import Derived.Lib.QuietBelow
import Derived.BigQuiet
import Derived.Test.YtjpphjmehgflpaaGreatDoorHShowM
namespace Go.Proofs.YtjpphjmehgflpaaGreatDoor
open Go.RowKit Ex
open Go.Sort (grow)
set_option linter.unusedSimpArgs false
set_option linter.unusedVariables false

theorem bytes_app (x y : List UInt8) : bytesOf x ++ bytesOf y = bytesOf (x ++ y) := ByteArray.mk_append_mk x y
theorem bytes_size (x : List UInt8) : (bytesOf x).size = x.length := by simp [bytesOf, ByteArray.size]
theorem bytes_nm (s : ByteArray) : bytesOf s.data.toList = s := by cases s; simp [bytesOf]
def signA : Array Value := #[.string ⟨#[97, 110, 100]⟩, .string ⟨#[111, 114]⟩, .string ⟨#[61, 62]⟩, .string ⟨#[61]⟩, .string ⟨#[60]⟩, .string ⟨#[60, 61]⟩, .string ⟨#[43]⟩, .string ⟨#[45]⟩, .string ⟨#[42]⟩]
set_option maxRecDepth 100000 in
set_option maxHeartbeats 2000000 in
theorem rsign_any (op : Int) (w : World) (h1 : 6 ≤ op) (h2 : op ≤ 14) : Calls Tryz.prog 41 #[.int .i64 op] w fun e w' => e = .returned (.string (bytesOf (wordT op))) ∧ w = w' := by
  have hc : op = 6 ∨ op = 7 ∨ op = 8 ∨ op = 9 ∨ op = 10 ∨ op = 11 ∨ op = 12 ∨ op = 13 ∨ op = 14 := by omega
  clear h1 h2
  rcases hc with rfl | rfl | rfl | rfl | rfl | rfl | rfl | rfl | rfl
  · have hix : ∀ w, (Instr.index 99 (.agg #[.string ⟨#[97, 110, 100]⟩, .string ⟨#[111, 114]⟩, .string ⟨#[61, 62]⟩, .string ⟨#[61]⟩, .string ⟨#[60]⟩, .string ⟨#[60, 61]⟩, .string ⟨#[43]⟩, .string ⟨#[45]⟩, .string ⟨#[42]⟩]) (.int .i64 0)).run Tryz.prog w = .ok (.string ⟨#[97, 110, 100]⟩) w := fun w => (show Sem.run Tryz.prog _ w = _ by kernel_rfl)
    go_enter Tryz.func41, Tryz.ntmps41
    go_wp2
    go_ret
    exact ⟨rfl, rfl⟩
  · have hix : ∀ w, (Instr.index 99 (.agg #[.string ⟨#[97, 110, 100]⟩, .string ⟨#[111, 114]⟩, .string ⟨#[61, 62]⟩, .string ⟨#[61]⟩, .string ⟨#[60]⟩, .string ⟨#[60, 61]⟩, .string ⟨#[43]⟩, .string ⟨#[45]⟩, .string ⟨#[42]⟩]) (.int .i64 1)).run Tryz.prog w = .ok (.string ⟨#[111, 114]⟩) w := fun w => (show Sem.run Tryz.prog _ w = _ by kernel_rfl)
    go_enter Tryz.func41, Tryz.ntmps41
    go_wp2
    go_ret
    exact ⟨rfl, rfl⟩
  · have hix : ∀ w, (Instr.index 99 (.agg #[.string ⟨#[97, 110, 100]⟩, .string ⟨#[111, 114]⟩, .string ⟨#[61, 62]⟩, .string ⟨#[61]⟩, .string ⟨#[60]⟩, .string ⟨#[60, 61]⟩, .string ⟨#[43]⟩, .string ⟨#[45]⟩, .string ⟨#[42]⟩]) (.int .i64 2)).run Tryz.prog w = .ok (.string ⟨#[61, 62]⟩) w := fun w => (show Sem.run Tryz.prog _ w = _ by kernel_rfl)
    go_enter Tryz.func41, Tryz.ntmps41
    go_wp2
    go_ret
    exact ⟨rfl, rfl⟩
  · have hix : ∀ w, (Instr.index 99 (.agg #[.string ⟨#[97, 110, 100]⟩, .string ⟨#[111, 114]⟩, .string ⟨#[61, 62]⟩, .string ⟨#[61]⟩, .string ⟨#[60]⟩, .string ⟨#[60, 61]⟩, .string ⟨#[43]⟩, .string ⟨#[45]⟩, .string ⟨#[42]⟩]) (.int .i64 3)).run Tryz.prog w = .ok (.string ⟨#[61]⟩) w := fun w => (show Sem.run Tryz.prog _ w = _ by kernel_rfl)
    go_enter Tryz.func41, Tryz.ntmps41
    go_wp2
    go_ret
    exact ⟨rfl, rfl⟩
  · have hix : ∀ w, (Instr.index 99 (.agg #[.string ⟨#[97, 110, 100]⟩, .string ⟨#[111, 114]⟩, .string ⟨#[61, 62]⟩, .string ⟨#[61]⟩, .string ⟨#[60]⟩, .string ⟨#[60, 61]⟩, .string ⟨#[43]⟩, .string ⟨#[45]⟩, .string ⟨#[42]⟩]) (.int .i64 4)).run Tryz.prog w = .ok (.string ⟨#[60]⟩) w := fun w => (show Sem.run Tryz.prog _ w = _ by kernel_rfl)
    go_enter Tryz.func41, Tryz.ntmps41
    go_wp2
    go_ret
    exact ⟨rfl, rfl⟩
  · have hix : ∀ w, (Instr.index 99 (.agg #[.string ⟨#[97, 110, 100]⟩, .string ⟨#[111, 114]⟩, .string ⟨#[61, 62]⟩, .string ⟨#[61]⟩, .string ⟨#[60]⟩, .string ⟨#[60, 61]⟩, .string ⟨#[43]⟩, .string ⟨#[45]⟩, .string ⟨#[42]⟩]) (.int .i64 5)).run Tryz.prog w = .ok (.string ⟨#[60, 61]⟩) w := fun w => (show Sem.run Tryz.prog _ w = _ by kernel_rfl)
    go_enter Tryz.func41, Tryz.ntmps41
    go_wp2
    go_ret
    exact ⟨rfl, rfl⟩
  · have hix : ∀ w, (Instr.index 99 (.agg #[.string ⟨#[97, 110, 100]⟩, .string ⟨#[111, 114]⟩, .string ⟨#[61, 62]⟩, .string ⟨#[61]⟩, .string ⟨#[60]⟩, .string ⟨#[60, 61]⟩, .string ⟨#[43]⟩, .string ⟨#[45]⟩, .string ⟨#[42]⟩]) (.int .i64 6)).run Tryz.prog w = .ok (.string ⟨#[43]⟩) w := fun w => (show Sem.run Tryz.prog _ w = _ by kernel_rfl)
    go_enter Tryz.func41, Tryz.ntmps41
    go_wp2
    go_ret
    exact ⟨rfl, rfl⟩
  · have hix : ∀ w, (Instr.index 99 (.agg #[.string ⟨#[97, 110, 100]⟩, .string ⟨#[111, 114]⟩, .string ⟨#[61, 62]⟩, .string ⟨#[61]⟩, .string ⟨#[60]⟩, .string ⟨#[60, 61]⟩, .string ⟨#[43]⟩, .string ⟨#[45]⟩, .string ⟨#[42]⟩]) (.int .i64 7)).run Tryz.prog w = .ok (.string ⟨#[45]⟩) w := fun w => (show Sem.run Tryz.prog _ w = _ by kernel_rfl)
    go_enter Tryz.func41, Tryz.ntmps41
    go_wp2
    go_ret
    exact ⟨rfl, rfl⟩
  · have hix : ∀ w, (Instr.index 99 (.agg #[.string ⟨#[97, 110, 100]⟩, .string ⟨#[111, 114]⟩, .string ⟨#[61, 62]⟩, .string ⟨#[61]⟩, .string ⟨#[60]⟩, .string ⟨#[60, 61]⟩, .string ⟨#[43]⟩, .string ⟨#[45]⟩, .string ⟨#[42]⟩]) (.int .i64 8)).run Tryz.prog w = .ok (.string ⟨#[42]⟩) w := fun w => (show Sem.run Tryz.prog _ w = _ by kernel_rfl)
    go_enter Tryz.func41, Tryz.ntmps41
    go_wp2
    go_ret
    exact ⟨rfl, rfl⟩
/- how an expression's text is asked for, wherever -/
def Ex19 (B : Nat) (A : Option Addr) (n c : Nat) (v : Value) (X : List UInt8) (w0 : World) : Prop :=
  ∀ w, Below B w0 w → Calls Tryz.prog 19 #[.slice A n c, v] w fun e w' => e = .returned (.string (bytesOf X)) ∧ Below w.heap.size w w'
theorem Ex19.on {B : Nat} {A : Option Addr} {n c : Nat} {v : Value} {X : List UInt8} {w0 w1 : World} (h : Ex19 B A n c v X w0) (hb : Below B w0 w1) : Ex19 B A n c v X w1 := fun w h1 => h w (hb.trans h1)
section
variable (B : Nat) (A : Option Addr) (n c : Nat) (w : World) (m : Int) (kA : Option Addr) (len cap : Nat)

set_option maxHeartbeats 1000000 in
theorem rt_num (hB : B ≤ w.heap.size) (hT : TB B w) (h0 : -1000 ≤ m) (h1 : m ≤ 1000) : Calls Tryz.prog 19 #[.slice A n c, .agg #[.int .i64 1, .int .i64 m, .slice kA len cap]] w fun e w' => e = .returned (.string (bytesOf (Lib.itoa m))) ∧ Below w.heap.size w w' := by
  have Hbx : Hid (Below w.heap.size w (w.alloc (.cells #[.int .i64 1, .int .i64 m, .slice kA len cap] 25))) := hide ((Below.refl _ _).alloc (Nat.le_refl _) _)
  have HT := hide (hT.on (Hbx.out.mono hB)); clear hT
  go_enter Tryz.func19, Tryz.ntmps19
  go_wp2_with fail
  refine (itoa_any B m _ h0 h1 HT.out).mono ?_
  rintro e w1 ⟨rfl, hb1⟩
  have Hb1 := hide (Hbx.out.trans (hb1.mono (by simp)))
  clear hb1
  go_wp2_with fail
  go_ret
  exact ⟨rfl, Hb1.out⟩

set_option maxHeartbeats 1000000 in
theorem rt_boo (l : List Dom.V) (h1 : m = 0 ∨ m = 1) : Calls Tryz.prog 19 #[.slice A n c, .agg #[.int .i64 2, .int .i64 m, .slice kA len cap]] w fun e w' => e = .returned (.string (bytesOf (exT l (.mk 2 m [])))) ∧ Below w.heap.size w w' := by
  have Hbx : Hid (Below w.heap.size w (w.alloc (.cells #[.int .i64 2, .int .i64 m, .slice kA len cap] 25))) := hide ((Below.refl _ _).alloc (Nat.le_refl _) _)
  rw [ex_boo]
  rcases h1 with rfl | rfl
  all_goals (go_enter Tryz.func19, Tryz.ntmps19; go_wp2_with fail; go_ret; exact ⟨rfl, Hbx.out⟩)

set_option maxHeartbeats 1000000 in
theorem rt_var (k : Nat) (u : Dom.V) (vb off : Nat) (hk : k < n) (hvb : vb < w.heap.size) (hc : w.cell? ⟨vb, off + k * 5, none⟩ = some (.string u.nm)) : Calls Tryz.prog 19 #[.slice (some ⟨vb, off, none⟩) n c, .agg #[.int .i64 3, .int .i64 (k : Int), .slice kA len cap]] w fun e w' => e = .returned (.string (bytesOf u.nm.data.toList)) ∧ Below w.heap.size w w' := by
  have Hbx : Hid (Below w.heap.size w (w.alloc (.cells #[.int .i64 3, .int .i64 (k : Int), .slice kA len cap] 25))) := hide ((Below.refl _ _).alloc (Nat.le_refl _) _)
  rw [bytes_nm]
  have hc1 : (w.alloc (.cells #[.int .i64 3, .int .i64 (k : Int), .slice kA len cap] 25)).cell? ⟨vb, off + k * 5, none⟩ = some (.string u.nm) := (World.cell?_of_block (Lib.alloc_old _ _ _ (by exact hvb))).trans hc
  have hkl : (k : Int) < (n : Int) := by omega
  go_enter Tryz.func19, Tryz.ntmps19
  go_wp2_with fail
  go_ret
  exact ⟨rfl, Hbx.out⟩

set_option maxHeartbeats 1000000 in
theorem rt_nxt (k : Nat) (u : Dom.V) (vb off : Nat) (hk : k < n) (hvb : vb < w.heap.size) (hc : w.cell? ⟨vb, off + k * 5, none⟩ = some (.string u.nm)) (hs : u.nm.size ≤ 16) : Calls Tryz.prog 19 #[.slice (some ⟨vb, off, none⟩) n c, .agg #[.int .i64 4, .int .i64 (k : Int), .slice kA len cap]] w fun e w' => e = .returned (.string (bytesOf (u.nm.data.toList ++ [39]))) ∧ Below w.heap.size w w' := by
  have Hbx : Hid (Below w.heap.size w (w.alloc (.cells #[.int .i64 4, .int .i64 (k : Int), .slice kA len cap] 25))) := hide ((Below.refl _ _).alloc (Nat.le_refl _) _)
  rw [← bytes_app, bytes_nm]
  have hc1 : (w.alloc (.cells #[.int .i64 4, .int .i64 (k : Int), .slice kA len cap] 25)).cell? ⟨vb, off + k * 5, none⟩ = some (.string u.nm) := (World.cell?_of_block (Lib.alloc_old _ _ _ (by exact hvb))).trans hc
  have hkl : (k : Int) < (n : Int) := by omega
  have hsz : ¬ (9223372036854775807 < u.nm.size + 1) := by omega
  go_enter Tryz.func19, Tryz.ntmps19
  go_wp2_with fail
  go_ret
  exact ⟨rfl, Hbx.out⟩

set_option maxHeartbeats 1000000 in
theorem rt_neg (g off : Nat) (o1 n1 : Int) (A1 : Option Addr) (l1 c1 : Nat) (X : List UInt8) (hgB : g < B) (hlen1 : 0 < len) (hc : CellE w g off o1 n1 A1 l1 c1) (hB : B ≤ w.heap.size)
    (hE : Ex19 B A n c (.agg #[.int .i64 o1, .int .i64 n1, .slice A1 l1 c1]) X w) (hlen : X.length ≤ 100000) :
    Calls Tryz.prog 19 #[.slice A n c, .agg #[.int .i64 5, .int .i64 0, .slice (some ⟨g, off, none⟩) len cap]] w fun e w' => e = .returned (.string (bytesOf ([40, 110, 111, 116, 32] ++ (X ++ [41])))) ∧ Below w.heap.size w w' := by
  have Hbx : Hid (Below w.heap.size w (w.alloc (.cells #[.int .i64 5, .int .i64 0, .slice (some ⟨g, off, none⟩) len cap] 25))) := hide ((Below.refl _ _).alloc (Nat.le_refl _) _)
  have HE := hide hE; clear hE
  obtain ⟨c0, c1', c2⟩ := hc.keep (w' := w.alloc (.cells #[.int .i64 5, .int .i64 0, .slice (some ⟨g, off, none⟩) len cap] 25)) (fun p hp => World.cell?_of_block (Lib.alloc_old _ _ _ (by omega)))
  have hl0 : (0 : Int) < (len : Int) := by omega
  have HS : Hid (bytesOf [40, 110, 111, 116, 32] ++ bytesOf X ++ bytesOf [41] = bytesOf ([40, 110, 111, 116, 32] ++ (X ++ [41]))) := hide (by rw [bytes_app, bytes_app, List.append_assoc])
  have hS : (bytesOf X).size ≤ 100000 := by rw [bytes_size]; exact hlen
  rw [← HS.out]
  go_enter Tryz.func19, Tryz.ntmps19
  go_wp2_with fail
  refine (HE.out _ (Hbx.out.mono hB)).mono ?_
  rintro e w1 ⟨rfl, hb1⟩
  have Hb1 := hide (Hbx.out.trans (hb1.mono (by simp)))
  generalize hS1 : bytesOf X = S1 at *
  have HS1 := hide hS1; clear hS1
  clear hb1 HS
  go_wp2_with fail
  go_ret
  obtain rfl := HS1.out
  exact ⟨rfl, Hb1.out⟩
end
end Go.Proofs.YtjpphjmehgflpaaGreatDoor
namespace Go.Proofs.YtjpphjmehgflpaaGreatDoor
open Go.RowKit Ex
open Go.Sort (grow)
set_option linter.unusedSimpArgs false
set_option linter.unusedVariables false
theorem q_rtext {B : Nat} {A : Option Addr} {n c : Nat} {v : Value} {X : List UInt8} {W : World} {dd : Nat} {os : Array Obj} (hB : B ≤ W.heap.size) (h : Hid (Ex19 B A n c v X W)) : Calls Tryz.prog 19 #[.slice A n c, v] (grow (redrawn W dd) os) fun e w'' => e = .returned (.string (bytesOf X)) ∧ ∃ p : Regrown, w'' = grow (redrawn W p.d) p.os :=
  Calls.regrown_of (h.out _ ((below_regrown W dd os).mono hB))
section
variable (B : Nat) (A : Option Addr) (n c : Nat) (w : World) (len cap : Nat)

set_option maxRecDepth 100000 in
set_option maxHeartbeats 4000000 in
theorem rt_ite (g off : Nat) (o1 n1 : Int) (A1 : Option Addr) (l1 c1 : Nat) (X : List UInt8) (o2 n2 : Int) (A2 : Option Addr) (l2 c2 : Nat) (Y : List UInt8) (o3 n3 : Int) (A3 : Option Addr) (l3 c3 : Nat) (Z : List UInt8) (hgB : g < B) (hlen1 : 2 < len)
    (hc : CellE w g off o1 n1 A1 l1 c1) (hd : CellE w g (off + 3) o2 n2 A2 l2 c2) (he : CellE w g (off + 6) o3 n3 A3 l3 c3) (hB : B ≤ w.heap.size)
    (hE : Ex19 B A n c (.agg #[.int .i64 o1, .int .i64 n1, .slice A1 l1 c1]) X w) (hE2 : Ex19 B A n c (.agg #[.int .i64 o2, .int .i64 n2, .slice A2 l2 c2]) Y w) (hE3 : Ex19 B A n c (.agg #[.int .i64 o3, .int .i64 n3, .slice A3 l3 c3]) Z w)
    (hX : X.length ≤ 100000) (hY : Y.length ≤ 100000) (hZ : Z.length ≤ 100000) :
    Calls Tryz.prog 19 #[.slice A n c, .agg #[.int .i64 15, .int .i64 0, .slice (some ⟨g, off, none⟩) len cap]] w fun e w' => e = .returned (.string (bytesOf ([40, 105, 102, 32] ++ (X ++ [32, 116, 104, 101, 110, 32]) ++ Y ++ ([32, 101, 108, 115, 101, 32] ++ (Z ++ [41]))))) ∧ Below w.heap.size w w' := by
  have hbx : Below w.heap.size w (w.alloc (.cells #[.int .i64 15, .int .i64 0, .slice (some ⟨g, off, none⟩) len cap] 25)) := (Below.refl _ _).alloc (Nat.le_refl _) _
  have HE := hide (hE.on (hbx.mono hB))
  have HE2 := hide (hE2.on (hbx.mono hB))
  have HE3 := hide (hE3.on (hbx.mono hB))
  have keep : ∀ {o : Nat} {op n : Int} {A : Option Addr} {l c : Nat}, CellE w g o op n A l c → CellE (w.alloc (.cells #[.int .i64 15, .int .i64 0, .slice (some ⟨g, off, none⟩) len cap] 25)) g o op n A l c := fun h => h.keep (fun p hp => World.cell?_of_block (Lib.alloc_old _ _ _ (by omega)))
  have Hc := hide (keep hc); have Hd := hide (keep hd); have He := hide (keep he)
  have Hb := hide (box_new w 15 0 (some ⟨g, off, none⟩) len cap 25)
  have Hbx := hide hbx
  have hz : (w.alloc (.cells #[.int .i64 15, .int .i64 0, .slice (some ⟨g, off, none⟩) len cap] 25)).heap.size = w.heap.size + 1 := by simp
  have HS : Hid (bytesOf [40, 105, 102, 32] ++ bytesOf X ++ bytesOf [32, 116, 104, 101, 110, 32] ++ bytesOf Y ++ bytesOf [32, 101, 108, 115, 101, 32] ++ bytesOf Z ++ bytesOf [41] = bytesOf ([40, 105, 102, 32] ++ (X ++ [32, 116, 104, 101, 110, 32]) ++ Y ++ ([32, 101, 108, 115, 101, 32] ++ (Z ++ [41])))) := hide (by simp only [bytes_app, List.append_assoc])
  have s1 : (bytesOf X).size ≤ 100000 := by rw [bytes_size]; exact hX
  have s2 : (bytesOf Y).size ≤ 100000 := by rw [bytes_size]; exact hY
  have s3 : (bytesOf Z).size ≤ 100000 := by rw [bytes_size]; exact hZ
  rw [← HS.out]
  clear hE hE2 hE3 hc hd he hbx HS keep hX hY hZ
  have hl0 : (0 : Int) < (len : Int) := by omega
  have hl1 : (1 : Int) < (len : Int) := by omega
  have hl2 : (2 : Int) < (len : Int) := by omega
  go_enter Tryz.func19, Tryz.ntmps19
  go_wp2_with fail
  generalize w.alloc (.cells #[.int .i64 15, .int .i64 0, .slice (some ⟨g, off, none⟩) len cap] 25) = W at *
  have hBW : B ≤ W.heap.size := by omega
  have Hq : Hid (∀ (a r : Value) dd os, ((a = .agg #[.int .i64 o1, .int .i64 n1, .slice A1 l1 c1] ∧ r = .string (bytesOf X)) ∨ (a = .agg #[.int .i64 o2, .int .i64 n2, .slice A2 l2 c2] ∧ r = .string (bytesOf Y)) ∨ (a = .agg #[.int .i64 o3, .int .i64 n3, .slice A3 l3 c3] ∧ r = .string (bytesOf Z))) → Calls Tryz.prog 19 #[.slice A n c, a] (grow (redrawn W dd) os) fun e w'' => e = .returned r ∧ ∃ p : Regrown, w'' = grow (redrawn W p.d) p.os) := hide (fun a r dd os h => by
    rcases h with ⟨rfl, rfl⟩ | ⟨rfl, rfl⟩ | ⟨rfl, rfl⟩
    · exact q_rtext hBW HE
    · exact q_rtext hBW HE2
    · exact q_rtext hBW HE3)
  generalize hS1 : bytesOf X = S1 at *
  have HS1 := hide hS1; clear hS1
  generalize hS2 : bytesOf Y = S2 at *
  have HS2 := hide hS2; clear hS2
  generalize hS3 : bytesOf Z = S3 at *
  have HS3 := hide hS3; clear hS3
  have B2 := cell_regrown Hb.out.2.2
  have C0 := cell_regrown Hc.out.1
  have C1 := cell_regrown Hc.out.2.1
  have C2 := cell_regrown Hc.out.2.2
  have D0 := cell_regrown Hd.out.1
  have D1 := cell_regrown Hd.out.2.1
  have D2 := cell_regrown Hd.out.2.2
  have E0 := cell_regrown He.out.1
  have E1 := cell_regrown He.out.2.1
  have E2 := cell_regrown He.out.2.2
  refine wp_region_quiet_below (by kernel_rfl) (by kernel_rfl) ?_
  repeat (go_big_quiet_step ((go_at_call 19; exact Hq.out _ _ _ _ (by first | exact Or.inl ⟨rfl, rfl⟩ | exact Or.inr (Or.inl ⟨rfl, rfl⟩) | exact Or.inr (Or.inr ⟨rfl, rfl⟩)))))
  refine wpQuiet_nil ?_
  intro w2 hw
  obtain ⟨p, hp⟩ := hw
  have hb : Below W.heap.size W w2 := by rw [hp]; exact below_regrown W p.d p.os
  have Hb2 := hide (Hbx.out.trans (hb.mono (by omega)))
  clear hp hb Hq B2 C0 C1 C2 D0 D1 D2 E0 E1 E2
  go_wp2_with fail
  go_ret
  obtain rfl := HS1.out
  obtain rfl := HS2.out
  obtain rfl := HS3.out
  exact ⟨rfl, Hb2.out⟩

set_option maxRecDepth 100000 in
set_option maxHeartbeats 4000000 in
theorem rt_bin (op : Int) (hop1 : 6 ≤ op) (hop2 : op ≤ 14) (g off : Nat) (o1 n1 : Int) (A1 : Option Addr) (l1 c1 : Nat) (X : List UInt8) (o2 n2 : Int) (A2 : Option Addr) (l2 c2 : Nat) (Y : List UInt8) (hgB : g < B) (hlen1 : 1 < len)
    (hc : CellE w g off o1 n1 A1 l1 c1) (hd : CellE w g (off + 3) o2 n2 A2 l2 c2) (hB : B ≤ w.heap.size)
    (hE : Ex19 B A n c (.agg #[.int .i64 o1, .int .i64 n1, .slice A1 l1 c1]) X w) (hE2 : Ex19 B A n c (.agg #[.int .i64 o2, .int .i64 n2, .slice A2 l2 c2]) Y w)
    (hX : X.length ≤ 100000) (hY : Y.length ≤ 100000) :
    Calls Tryz.prog 19 #[.slice A n c, .agg #[.int .i64 op, .int .i64 0, .slice (some ⟨g, off, none⟩) len cap]] w fun e w' => e = .returned (.string (bytesOf ([40] ++ (X ++ [32]) ++ wordT op ++ ([32] ++ (Y ++ [41]))))) ∧ Below w.heap.size w w' := by
  have hbx : Below w.heap.size w (w.alloc (.cells #[.int .i64 op, .int .i64 0, .slice (some ⟨g, off, none⟩) len cap] 25)) := (Below.refl _ _).alloc (Nat.le_refl _) _
  have HE := hide (hE.on (hbx.mono hB))
  have HE2 := hide (hE2.on (hbx.mono hB))
  have keep : ∀ {o : Nat} {op' n : Int} {A : Option Addr} {l c : Nat}, CellE w g o op' n A l c → CellE (w.alloc (.cells #[.int .i64 op, .int .i64 0, .slice (some ⟨g, off, none⟩) len cap] 25)) g o op' n A l c := fun h => h.keep (fun p hp => World.cell?_of_block (Lib.alloc_old _ _ _ (by omega)))
  have Hc := hide (keep hc); have Hd := hide (keep hd)
  have Hb := hide (box_new w op 0 (some ⟨g, off, none⟩) len cap 25)
  have Hbx := hide hbx
  have hz : (w.alloc (.cells #[.int .i64 op, .int .i64 0, .slice (some ⟨g, off, none⟩) len cap] 25)).heap.size = w.heap.size + 1 := by simp
  have HS : Hid (bytesOf [40] ++ bytesOf X ++ bytesOf [32] ++ bytesOf (wordT op) ++ bytesOf [32] ++ bytesOf Y ++ bytesOf [41] = bytesOf ([40] ++ (X ++ [32]) ++ wordT op ++ ([32] ++ (Y ++ [41])))) := hide (by simp only [bytes_app, List.append_assoc])
  have s1 : (bytesOf X).size ≤ 100000 := by rw [bytes_size]; exact hX
  have s2 : (bytesOf Y).size ≤ 100000 := by rw [bytes_size]; exact hY
  have s3 : (bytesOf (wordT op)).size ≤ 3 := by rw [bytes_size]; exact word_len op
  rw [← HS.out]
  clear hE hE2 hc hd hbx HS keep hX hY
  have hl0 : (0 : Int) < (len : Int) := by omega
  have hl1 : (1 : Int) < (len : Int) := by omega
  have b1 : (op == 1) = false := by simp; omega
  have b2 : (op == 2) = false := by simp; omega
  have b3 : (op == 3) = false := by simp; omega
  have b4 : (op == 4) = false := by simp; omega
  have b5 : (op == 5) = false := by simp; omega
  have b15 : (op == 15) = false := by simp; omega
  have Hsg : Hid (∀ w, Calls Tryz.prog 41 #[.int .i64 op] w fun e w' => e = .returned (.string (bytesOf (wordT op))) ∧ w = w') := hide (fun w => rsign_any op w hop1 hop2)
  go_enter Tryz.func19, Tryz.ntmps19
  go_wp2_with fail
  generalize w.alloc (.cells #[.int .i64 op, .int .i64 0, .slice (some ⟨g, off, none⟩) len cap] 25) = W at *
  have hBW : B ≤ W.heap.size := by omega
  have Hq : Hid (∀ (a r : Value) dd os, ((a = .agg #[.int .i64 o1, .int .i64 n1, .slice A1 l1 c1] ∧ r = .string (bytesOf X)) ∨ (a = .agg #[.int .i64 o2, .int .i64 n2, .slice A2 l2 c2] ∧ r = .string (bytesOf Y))) → Calls Tryz.prog 19 #[.slice A n c, a] (grow (redrawn W dd) os) fun e w'' => e = .returned r ∧ ∃ p : Regrown, w'' = grow (redrawn W p.d) p.os) := hide (fun a r dd os h => by
    rcases h with ⟨rfl, rfl⟩ | ⟨rfl, rfl⟩
    · exact q_rtext hBW HE
    · exact q_rtext hBW HE2)
  have Hs : Hid (∀ dd os, Calls Tryz.prog 41 #[.int .i64 op] (grow (redrawn W dd) os) fun e w'' => e = .returned (.string (bytesOf (wordT op))) ∧ ∃ p : Regrown, w'' = grow (redrawn W p.d) p.os) := hide (fun dd os => (Hsg.out _).mono (fun e w'' ⟨he, hw⟩ => ⟨he, ⟨⟨dd, os⟩, hw.symm⟩⟩))
  generalize hS1 : bytesOf X = S1 at *
  have HS1 := hide hS1; clear hS1
  generalize hS2 : bytesOf Y = S2 at *
  have HS2 := hide hS2; clear hS2
  generalize hS3 : bytesOf (wordT op) = S3 at *
  have HS3 := hide hS3; clear hS3
  have B0 := cell_regrown Hb.out.1
  have B2 := cell_regrown Hb.out.2.2
  have C0 := cell_regrown Hc.out.1
  have C1 := cell_regrown Hc.out.2.1
  have C2 := cell_regrown Hc.out.2.2
  have D0 := cell_regrown Hd.out.1
  have D1 := cell_regrown Hd.out.2.1
  have D2 := cell_regrown Hd.out.2.2
  clear Hsg
  refine wp_region_quiet_below (by kernel_rfl) (by kernel_rfl) ?_
  repeat (go_big_quiet_step (first | (go_at_call 19; exact Hq.out _ _ _ _ (by first | exact Or.inl ⟨rfl, rfl⟩ | exact Or.inr ⟨rfl, rfl⟩)) | (go_at_call 41; exact Hs.out _ _)))
  refine wpQuiet_nil ?_
  intro w2 hw
  obtain ⟨p, hp⟩ := hw
  have hb : Below W.heap.size W w2 := by rw [hp]; exact below_regrown W p.d p.os
  have Hb2 := hide (Hbx.out.trans (hb.mono (by omega)))
  clear hp hb Hq Hs B0 B2 C0 C1 C2 D0 D1 D2
  go_wp2_with fail
  go_ret
  obtain rfl := HS1.out
  obtain rfl := HS2.out
  obtain rfl := HS3.out
  exact ⟨rfl, Hb2.out⟩
end
theorem rtext_any (B : Nat) (A : Option Addr) (nv cv : Nat) (l : List Dom.V) (w0 : World) (hm : Dom.mayL l = 0) (hB : B ≤ w0.heap.size) (hV : Dom.RV w0 B A nv l) (hT : TB B w0) : ∀ (d : Nat) (op n : Int) (kA : Option Addr) (len cap : Nat) (t : T), RE w0 B d op n kA len cap t → GT (nmL l).length RN t → fz t ≤ 60 →
    Ex19 B A nv cv (.agg #[.int .i64 op, .int .i64 n, .slice kA len cap]) (exT l t) w0
  | 0, _, _, _, _, _, _, h, _, _ => h.elim
  | d + 1, op, n, kA, len, cap, t, h, hg, hf => by
    intro w hb
    have hBw : B ≤ w.heap.size := Nat.le_trans hB hb.size
    have keep : ∀ {g o : Nat} {op n : Int} {A : Option Addr} {l c : Nat}, g < B → CellE w0 g o op n A l c → CellE w g o op n A l c := fun hgB h => h.keep (fun p hp => hb.cell (by omega))
    have ho : t.op = op := h.1
    have hn : t.n = n := h.2.1
    have len60 : ∀ {a : T}, GT (nmL l).length RN a → fz a ≤ 60 → (exT l a).length ≤ 100000 := fun ha hfa => by have := ex_len hm ha; omega
    have hvn : ∀ {k : Nat} {v : Dom.V}, l[k]? = some v → v.nm.size ≤ 16 := fun hv => by
      have := nm_len16 hm (l := l) (List.mem_map.2 ⟨_, List.mem_of_getElem? hv, rfl⟩)
      simpa [Dom.V.key] using this
    cases hg with
    | num m hm =>
      simp only [T.op, T.n] at ho hn
      subst ho hn
      rw [ex_num]
      exact rt_num B A nv cv w m kA len cap hBw (hT.on hb) hm.1 hm.2
    | boo m hm =>
      simp only [T.op, T.n] at ho hn
      subst ho hn
      exact rt_boo A nv cv w m kA len cap l hm
    | var k hk =>
      simp only [T.op, T.n] at ho hn
      subst ho hn
      have hks : k < nv := by rw [nm_len] at hk; have := hV.1; omega
      obtain ⟨vb, off, u, rfl, hvb, hu, hc⟩ := hV.at_ hks
      rw [ex_var hu]
      exact rt_var nv cv w kA len cap k u vb off hks (by omega) ((hb.cell (by exact hvb)).trans hc.1)
    | nxt k hk =>
      simp only [T.op, T.n] at ho hn
      subst ho hn
      have hks : k < nv := by rw [nm_len] at hk; have := hV.1; omega
      obtain ⟨vb, off, u, rfl, hvb, hu, hc⟩ := hV.at_ hks
      rw [ex_nxt hu]
      exact rt_nxt nv cv w kA len cap k u vb off hks (by omega) ((hb.cell (by exact hvb)).trans hc.1) (hvn hu)
    | neg a ha =>
      simp only [T.op, T.n] at ho hn
      subst ho hn
      simp only [fz, fzK] at hf
      obtain ⟨g, off, o1, n1, A1, l1, c1, rfl, hgB, hk, hc, hr⟩ := kid_at (k := 0) (u := a) h rfl
      rw [ex_neg]
      exact rt_neg B A nv cv w len cap g off o1 n1 A1 l1 c1 (exT l a) hgB hk (keep hgB (by simpa using hc)) hBw ((rtext_any B A nv cv l w0 hm hB hV hT d o1 n1 A1 l1 c1 a hr ha (by omega)).on hb) (len60 ha (by omega))
    | bin op2 a a2 h1 h2 ha ha2 =>
      simp only [T.op, T.n] at ho hn
      subst ho hn
      simp only [fz, fzK] at hf
      have p1 := fz_pos a
      have p2 := fz_pos a2
      obtain ⟨g, off, o1, n1, A1, l1, c1, rfl, hgB, hk, hc, hr⟩ := kid_at (k := 0) (u := a) h rfl
      obtain ⟨g', off', o2, n2, A2, l2, c2, e, _, hk2, hc2, hr2⟩ := kid_at (k := 1) (u := a2) h rfl
      injection e with e; injection e with e1 e2; subst e1 e2
      rw [ex_bin l op2 a a2 h1 h2]
      exact rt_bin B A nv cv w len cap op2 h1 h2 g off o1 n1 A1 l1 c1 (exT l a) o2 n2 A2 l2 c2 (exT l a2) hgB hk2 (keep hgB (by simpa using hc)) (keep hgB (by simpa using hc2)) hBw ((rtext_any B A nv cv l w0 hm hB hV hT d o1 n1 A1 l1 c1 a hr ha (by omega)).on hb) ((rtext_any B A nv cv l w0 hm hB hV hT d o2 n2 A2 l2 c2 a2 hr2 ha2 (by omega)).on hb) (len60 ha (by omega)) (len60 ha2 (by omega))
    | ite a a2 a3 ha ha2 ha3 =>
      simp only [T.op, T.n] at ho hn
      subst ho hn
      simp only [fz, fzK] at hf
      have p1 := fz_pos a
      have p2 := fz_pos a2
      have p3 := fz_pos a3
      obtain ⟨g, off, o1, n1, A1, l1, c1, rfl, hgB, hk, hc, hr⟩ := kid_at (k := 0) (u := a) h rfl
      obtain ⟨g', off', o2, n2, A2, l2, c2, e, _, hk2, hc2, hr2⟩ := kid_at (k := 1) (u := a2) h rfl
      obtain ⟨g'', off'', o3, n3, A3, l3, c3, e3, _, hk3, hc3, hr3⟩ := kid_at (k := 2) (u := a3) h rfl
      injection e with e; injection e with e1 e2; subst e1 e2
      injection e3 with e3; injection e3 with e1 e2; subst e1 e2
      rw [ex_ite]
      exact rt_ite B A nv cv w len cap g off o1 n1 A1 l1 c1 (exT l a) o2 n2 A2 l2 c2 (exT l a2) o3 n3 A3 l3 c3 (exT l a3) hgB hk3 (keep hgB (by simpa using hc)) (keep hgB (by simpa using hc2)) (keep hgB (by simpa using hc3)) hBw ((rtext_any B A nv cv l w0 hm hB hV hT d o1 n1 A1 l1 c1 a hr ha (by omega)).on hb) ((rtext_any B A nv cv l w0 hm hB hV hT d o2 n2 A2 l2 c2 a2 hr2 ha2 (by omega)).on hb) ((rtext_any B A nv cv l w0 hm hB hV hT d o3 n3 A3 l3 c3 a3 hr3 ha3 (by omega)).on hb) (len60 ha (by omega)) (len60 ha2 (by omega)) (len60 ha3 (by omega))
end Go.Proofs.YtjpphjmehgflpaaGreatDoor
namespace Go.Proofs.YtjpphjmehgflpaaGreatDoor
open Go.RowKit Ex
open Go.Sort (grow)
set_option linter.unusedSimpArgs false
set_option linter.unusedVariables false

def showC (l : List Dom.V) (c : CT) (env : Bool) : List UInt8 := if cmdE l c env = 0 then cmdT l env c else []
theorem cmd_ne (l : List Dom.V) (env : Bool) (c : CT) : cmdT l env c ≠ [] := by
  unfold cmdT; simp

set_option maxHeartbeats 2000000 in
theorem showC_any (B : Nat) (s : SL) (l : List Dom.V) (x : C2) (c : CT) (env : Bool) (w : World) (ho : OkVars s l) (hB : B ≤ w.heap.size) (hrc : RC w B x c) (hrv : Dom.RV w B s.A s.n l) (hT : TB w.heap.size w) :
    Calls Tryz.prog 8 #[s.v, .agg x.cells, .bool env] w fun e w' => e = .returned (.string (bytesOf (showC l c env))) ∧ Below w.heap.size w w' := by
  obtain ⟨sA, sn, sc⟩ := s
  obtain ⟨⟨go, gn, gA, gl, gc⟩, ⟨rA, rn, rc⟩⟩ := x
  have hbx : Below w.heap.size w (w.alloc (.cells (C2.cells ⟨⟨go, gn, gA, gl, gc⟩, ⟨rA, rn, rc⟩⟩) 31)) := (Below.refl _ _).alloc (Nat.le_refl _) _
  have Hrc := hide (hrc.below (hbx.mono hB))
  have Hrv := hide (hrv.below (hbx.mono hB))
  have HT := hide (hT.up hbx)
  have Hbx := hide hbx
  have hzz : (w.alloc (.cells (C2.cells ⟨⟨go, gn, gA, gl, gc⟩, ⟨rA, rn, rc⟩⟩) 31)).heap.size = w.heap.size + 1 := by simp
  have Hblk := hide (heap_alloc_new w (.cells (C2.cells ⟨⟨go, gn, gA, gl, gc⟩, ⟨rA, rn, rc⟩⟩) 31))
  have HD := hide (dcmd_any B sA sn sc l ⟨⟨go, gn, gA, gl, gc⟩, ⟨rA, rn, rc⟩⟩ c env _ ho (by omega) Hrc.out Hrv.out)
  clear hrc hrv hT hbx
  simp only [C2.cells, SL.v] at *
  have cells : ∀ {u : World}, u.heap[w.heap.size]? = some (.cells #[.int .i64 go, .int .i64 gn, .slice gA gl gc, .slice rA rn rc] 31 (0, 0)) → ∀ (i : Nat) (v : Value), (#[.int .i64 go, .int .i64 gn, .slice gA gl gc, .slice rA rn rc] : Array Value)[i]? = some v → u.cell? ⟨w.heap.size, i, none⟩ = some v := fun h i v hv => by rw [Lib.cell_of_heap h]; exact hv
  have q0 := cells Hblk.out 0 _ rfl
  have q1 := cells Hblk.out 1 _ rfl
  have q2 := cells Hblk.out 2 _ rfl
  have q3 := cells Hblk.out 3 _ rfl
  go_enter Tryz.func8, Tryz.ntmps8
  go_wp2_with fail
  generalize w.alloc (.cells #[.int .i64 go, .int .i64 gn, .slice gA gl gc, .slice rA rn rc] 31) = w0 at *
  refine (HD.out).mono ?_
  rintro e w1 ⟨rfl, hb1⟩
  have Hb1 := hide (Hbx.out.trans (hb1.mono (by omega)))
  have Hrc1 := hide (Hrc.out.below (hb1.mono (by omega)))
  have Hrv1 := hide (Hrv.out.below (hb1.mono (by omega)))
  have Hblk1 := hide ((hb1.block w.heap.size (by omega)).trans Hblk.out)
  have HT1 := hide (HT.out.up hb1)
  have hz1 := hb1.size
  clear hb1 Hrc Hrv Hblk HT Hbx HD q0 q1 q2 q3
  by_cases hs : cmdE l c env = 0
  · have hsb : (cmdE l c env != 0) = false := by simp [hs]
    have Hsh : Hid (showC l c env = cmdT l env c) := hide (if_pos hs)
    have Hok := hide (cmd_ok hs)
    have Hne := hide (cmd_ne l env c)
    have Hlen := hide (cmd_len env Hok.out)
    clear hs
    have Hpg : Hid (Pg w1.heap.size w1.heap.size ⟨sA, sn, sc⟩ [] (w1.alloc (.cells #[.slice sA sn sc, .pointer none, .slice none 0 0] 55))) := hide (Pg.new (s := ⟨sA, sn, sc⟩) w1 (Nat.le_refl _))
    have Hbp : Hid (Below w1.heap.size w1 (w1.alloc (.cells #[.slice sA sn sc, .pointer none, .slice none 0 0] 55))) := hide ((Below.refl _ _).alloc (Nat.le_refl _) _)
    have HC := hide (command_any w1.heap.size w1.heap.size ⟨sA, sn, sc⟩ l ⟨⟨go, gn, gA, gl, gc⟩, ⟨rA, rn, rc⟩⟩ c env [] (w1.alloc (.cells #[.slice sA sn sc, .pointer none, .slice none 0 0] 55)) (by simp) ((Hrv1.out.more (by omega)).below Hbp.out) (HT1.out.on Hbp.out) ((Hrc1.out.more (by omega)).below Hbp.out) Hok.out Hpg.out (by have := Hlen.out; simp; omega))
    have hb2 := (Hbp.out.block w.heap.size (by omega)).trans Hblk1.out
    have q0 := cells hb2 0 _ rfl
    have q1 := cells hb2 1 _ rfl
    have q2 := cells hb2 2 _ rfl
    have q3 := cells hb2 3 _ rfl
    clear hb2
    go_wp2_with fail
    refine (HC.out).mono ?_
    rintro e w2 ⟨rfl, hp2, hk2⟩
    have Hp2 : Hid (Pg w1.heap.size w1.heap.size ⟨sA, sn, sc⟩ (cmdT l env c) w2) := hide (by simpa using hp2)
    have Hb2 := hide (Hbp.out.trans hk2.1)
    clear hp2 hk2 q0 q1 q2 q3
    have hz2 := Hb2.out.size
    go_wp2_with fail
    refine (string_any w1.heap.size w1.heap.size ⟨sA, sn, sc⟩ (cmdT l env c) w2 Hp2.out Hne.out).mono ?_
    rintro e w3 ⟨rfl, hb3⟩
    have Hb3 := hide (Hb1.out.trans ((Hb2.out.trans hb3).mono (by omega)))
    clear hb3
    go_wp2_with fail
    go_ret
    exact ⟨by rw [Hsh.out]; rfl, Hb3.out⟩
  · have hsb : (cmdE l c env != 0) = true := by simp [hs]
    have Hsh : Hid (showC l c env = []) := hide (if_neg hs)
    clear hs
    go_wp2_with fail
    go_ret
    exact ⟨by rw [Hsh.out]; rfl, Hb1.out⟩

set_option maxHeartbeats 2000000 in
theorem rtextE_any (B : Nat) (s : SL) (l : List Dom.V) (d : Nat) (op n : Int) (A : Option Addr) (len cap : Nat) (t : T) (w : World) (ho : OkVars s l) (hB : B ≤ w.heap.size) (hre : RE w B d op n A len cap t) (hrv : Dom.RV w B s.A s.n l) (hT : TB w.heap.size w) :
    Calls Tryz.prog 7 #[s.v, .agg #[.int .i64 op, .int .i64 n, .slice A len cap]] w fun e w' => e = .returned (.string (bytesOf (showE l t))) ∧ Below w.heap.size w w' := by
  obtain ⟨sA, sn, sc⟩ := s
  simp only [SL.v]
  have hbx : Below w.heap.size w (w.alloc (.cells #[.int .i64 op, .int .i64 n, .slice A len cap] 25)) := (Below.refl _ _).alloc (Nat.le_refl _) _
  have Hre := hide (hre.below (hbx.mono hB))
  have Hrv := hide (hrv.below (hbx.mono hB))
  have Hbox := hide (box_new w op n A len cap 25)
  have HT := hide (hT.up hbx)
  have Hbx := hide hbx
  have hzz : (w.alloc (.cells #[.int .i64 op, .int .i64 n, .slice A len cap] 25)).heap.size = w.heap.size + 1 := by simp
  clear hre hrv hT hbx
  go_enter Tryz.func7, Tryz.ntmps7
  go_wp2_with fail
  generalize w.alloc (.cells #[.int .i64 op, .int .i64 n, .slice A len cap] 25) = w0 at *
  refine (rsort_any B sA sn sc l d op n A len cap t w0 ho.1 ho.2.1 ho.2.2.1 (by omega) Hre.out Hrv.out ho.2.2.2).mono ?_
  rintro e w1 ⟨rfl, hb1⟩
  have Hb1 := hide (Hbx.out.trans (hb1.mono (by omega)))
  have Hre1 := hide (Hre.out.below (hb1.mono (by omega)))
  have Hrv1 := hide (Hrv.out.below (hb1.mono (by omega)))
  have Hbox1 := hide (Hbox.out.below hb1 (by omega))
  have HT1 := hide (HT.out.up hb1)
  have hz1 := hb1.size
  clear hb1 Hre Hrv Hbox HT Hbx
  by_cases hs : (sortE l t).2 = 0
  · have hsb : ((sortE l t).2 != 0) = false := by simp [hs]
    have Hsh : Hid (showE l t = exT l t) := hide (if_pos hs)
    have HE := hide (rtext_any w1.heap.size sA sn sc l w1 (sort_gt hs).1 (Nat.le_refl _) (Hrv1.out.more (by omega)) HT1.out d op n A len cap t (RE.more (by omega) _ _ _ _ _ _ _ Hre1.out) (sort_gt hs).2.2 ((fits_iff t).1 ((may_iff t).1 (sort_gt hs).2.1).1).1)
    clear hs
    obtain ⟨c0, c1, c2⟩ := Hbox1.out
    go_wp2_with fail
    refine (HE.out w1 (Below.refl _ _)).mono ?_
    rintro e w2 ⟨rfl, hb2⟩
    have Hb2 := hide (Hb1.out.trans (hb2.mono (by omega)))
    clear hb2
    go_wp2_with fail
    go_ret
    exact ⟨by rw [Hsh.out]; rfl, Hb2.out⟩
  · have hsb : ((sortE l t).2 != 0) = true := by simp [hs]
    have Hsh : Hid (showE l t = []) := hide (if_neg hs)
    clear hs
    go_wp2_with fail
    go_ret
    exact ⟨by rw [Hsh.out]; rfl, Hb1.out⟩
def headT (env : Bool) : List UInt8 := sideT env ++ [32, 119, 104, 101, 110, 32]
theorem cmd_parts (l : List Dom.V) (env : Bool) (c : CT) : cmdT l env c = headT env ++ exT l c.guard ++ setsT l [32, 100, 111, 32] c.sets ++ [59] := by unfold cmdT headT; simp

theorem bytes_five (P b e X : List UInt8) (nm : ByteArray) : bytesOf P ++ bytesOf b ++ (nm ++ bytesOf e) ++ bytesOf X = bytesOf (P ++ (b ++ (nm.data.toList ++ (e ++ X)))) := by
  conv => lhs; rw [← bytes_nm nm]
  simp only [bytes_app, List.append_assoc]
set_option maxHeartbeats 8000000 in
theorem rcmdT_any (B : Nat) (s : SL) (l : List Dom.V) (x : C2) (c : CT) (env : Bool) (w : World) (ho : OkVars s l) (hB : B ≤ w.heap.size) (hrc : RC w B x c) (hrv : Dom.RV w B s.A s.n l) (hT : TB w.heap.size w) :
    Calls Tryz.prog 9 #[s.v, .agg x.cells, .bool env] w fun e w' => e = .returned (.string (bytesOf (showC l c env))) ∧ Below w.heap.size w w' := by
  obtain ⟨sA, sn, sc⟩ := s
  obtain ⟨⟨go, gn, gA, gl, gc⟩, ⟨rA, rn, rc⟩⟩ := x
  have hbx : Below w.heap.size w (w.alloc (.cells (C2.cells ⟨⟨go, gn, gA, gl, gc⟩, ⟨rA, rn, rc⟩⟩) 31)) := (Below.refl _ _).alloc (Nat.le_refl _) _
  have Hrc := hide (hrc.below (hbx.mono hB))
  have Hrv := hide (hrv.below (hbx.mono hB))
  have HT := hide (hT.up hbx)
  have Hbx := hide hbx
  have hzz : (w.alloc (.cells (C2.cells ⟨⟨go, gn, gA, gl, gc⟩, ⟨rA, rn, rc⟩⟩) 31)).heap.size = w.heap.size + 1 := by simp
  have Hblk := hide (heap_alloc_new w (.cells (C2.cells ⟨⟨go, gn, gA, gl, gc⟩, ⟨rA, rn, rc⟩⟩) 31))
  have HD := hide (rcmd_any B sA sn sc l ⟨⟨go, gn, gA, gl, gc⟩, ⟨rA, rn, rc⟩⟩ c env _ ho (by omega) Hrc.out Hrv.out)
  have hsn : sn ≤ maxLen := ho.1
  unfold maxLen at hsn
  clear hrc hrv hT hbx
  simp only [C2.cells, SL.v] at *
  have cells : ∀ {u : World}, u.heap[w.heap.size]? = some (.cells #[.int .i64 go, .int .i64 gn, .slice gA gl gc, .slice rA rn rc] 31 (0, 0)) → ∀ (i : Nat) (v : Value), (#[.int .i64 go, .int .i64 gn, .slice gA gl gc, .slice rA rn rc] : Array Value)[i]? = some v → u.cell? ⟨w.heap.size, i, none⟩ = some v := fun h i v hv => by rw [Lib.cell_of_heap h]; exact hv
  have q0 := cells Hblk.out 0 _ rfl
  have q1 := cells Hblk.out 1 _ rfl
  have q2 := cells Hblk.out 2 _ rfl
  have q3 := cells Hblk.out 3 _ rfl
  go_enter Tryz.func9, Tryz.ntmps9
  go_wp2_with fail
  generalize w.alloc (.cells #[.int .i64 go, .int .i64 gn, .slice gA gl gc, .slice rA rn rc] 31) = w0 at *
  refine (HD.out).mono ?_
  rintro e w1 ⟨rfl, hb1⟩
  have Hb1 := hide (Hbx.out.trans (hb1.mono (by omega)))
  have Hrc1 := hide (Hrc.out.below (hb1.mono (by omega)))
  have Hrv1 := hide (Hrv.out.below (hb1.mono (by omega)))
  have Hblk1 := hide ((hb1.block w.heap.size (by omega)).trans Hblk.out)
  have HT1 := hide (HT.out.up hb1)
  have hz1 := hb1.size
  clear hb1 Hrc Hrv Hblk HT Hbx HD q0 q1 q2 q3
  by_cases hs : cmdE l c env = 0
  · have hsb : (cmdE l c env != 0) = false := by simp [hs]
    have Hsh : Hid (showC l c env = cmdT l env c) := hide (if_pos hs)
    have Hok := hide (cmd_ok hs)
    have hm := (sort_gt Hok.out.guard).1
    have Hm := hide hm
    have Hlen := hide (cmd_len env Hok.out)
    have Hg := hide (ex_len2 Hok.out.guard)
    clear hs hm
    obtain ⟨⟨gd, hge⟩, hR⟩ := (Hrc1.out).more (B' := w1.heap.size) (by omega)
    simp only at hge hR
    have Hrl := hide hR.1
    have hnm : rn ≤ maxLen := Nat.le_trans hR.2.1 hR.2.2.1
    unfold maxLen at hnm
    simp only at Hrl
    have HR := hide hR
    have HV := hide (Hrv1.out.more (B' := w1.heap.size) (by omega))
    have fz60 : ∀ t : T, (sortE l t).2 = 0 → fz t ≤ 60 := fun t h => ((fits_iff _).1 ((may_iff _).1 (sort_gt h).2.1).1).1
    have HE := hide (rtext_any w1.heap.size sA sn sc l w1 Hm.out (Nat.le_refl _) HV.out HT1.out gd go gn gA gl gc c.guard hge (sort_gt Hok.out.guard).2.2 (fz60 _ Hok.out.guard))
    have HF := hide fz60
    clear hge hR fz60
    have q0 := cells Hblk1.out 0 _ rfl
    have q1 := cells Hblk1.out 1 _ rfl
    have q2 := cells Hblk1.out 2 _ rfl
    obtain ⟨hd, hhd⟩ : ∃ hd, hd = headT env := ⟨_, rfl⟩
    have Hhd := hide hhd
    have hdl : hd.length = 9 := by rw [hhd]; cases env <;> rfl
    have Hdl := hide hdl
    rw [cmd_parts, ← hhd] at Hlen Hsh
    clear hhd hdl
    cases env
    all_goals
      go_wp2_with fail
      refine (HE.out w1 (Below.refl _ _)).mono ?_
      rintro e w2 ⟨rfl, hb2⟩
      have Hbk := hide hb2
      have q3 := cells ((hb2.block w.heap.size (by omega)).trans Hblk1.out) 3 _ rfl
      have hz2 := hb2.size
      have hs1 : (bytesOf (exT l c.guard)).size ≤ 3840 := by rw [bytes_size]; exact Hg.out
      clear hb2 q0 q1 q2
      go_wp2_with fail
      go_loopw [7, 25] (fun sv i wr => ∃ (k : Nat) (S : ByteArray), k ≤ rn ∧ i = .int .i64 k ∧ sv = .string S ∧ Hid (S = bytesOf (hd ++ exT l c.guard ++ setsT l [32, 100, 111, 32] (c.sets.take k))) ∧ Hid (Below w1.heap.size w1 wr)) (fun _ i _ => rn - (intOf i).toNat)
      case atStart => exact ⟨0, _, Nat.zero_le _, rfl, rfl, hide (by
        have := Hhd.out
        subst this
        rw [List.take_zero, setsT, List.append_nil, ← bytes_app]; rfl), Hbk⟩
      case round =>
        obtain ⟨k, S, hk, rfl, rfl, HS, Hk⟩ := hrel
        have hsz := Hk.out.size
        by_cases hlt2 : k < rn
        · have hlt' : ((k : Int) < (rn : Int)) := by omega
          obtain ⟨g, off, st, hA, hgB, hu, hcs⟩ := HR.out.at_ hlt2
          simp only at hA
          subst hA
          have Hu := hide hu; clear hu
          obtain ⟨c0, c1, y, hc, d, hre⟩ := hcs
          obtain ⟨yo, yn, yA, yl, yc⟩ := y
          simp only at hc hre
          have Hre0 := hide hre
          have c0 := (Hk.out.cell (by exact hgB)).trans c0
          have c1 := (Hk.out.cell (by exact hgB)).trans c1
          have hc := hc.keep (w' := wr) (fun p hp => Hk.out.cell (by omega))
          have c2 : wr.cell? ⟨g, off + k * 5 + 2, none⟩ = some (.int .i64 yo) := hc.1
          have c3 : wr.cell? ⟨g, off + k * 5 + 3, none⟩ = some (.int .i64 yn) := hc.2.1
          have c4 : wr.cell? ⟨g, off + k * 5 + 4, none⟩ = some (.slice yA yl yc) := hc.2.2
          have Hso := hide (Hok.out.sets st (List.mem_of_getElem? Hu.out))
          clear hre hc
          obtain ⟨sv, sq, se⟩ := st
          simp only at c0 c1 Hre0
          obtain ⟨v, rfl⟩ : ∃ v : Nat, sv = (v : Int) := ⟨sv.toNat, by have := Hso.out.lo; simp at this; omega⟩
          have hvl : v < sn := by have := Hso.out.hi; simp at this; have := HV.out.1; omega
          have hvl' : (v : Int) < (sn : Int) := by omega
          obtain ⟨vb, voff, u, hvA, hvb, hvu, hvc⟩ := HV.out.at_ hvl
          subst hvA
          have n16 : u.nm.size ≤ 16 := by
            have := nm_len16 Hm.out (l := l) (List.mem_map.2 ⟨_, List.mem_of_getElem? hvu, rfl⟩)
            simpa [Dom.V.key] using this
          have Hst : Hid (setT l ⟨(v : Int), sq, se⟩ = u.nm.data.toList ++ ([32, 58, 61, 32] ++ (if sq = true then [97, 110, 121] else exT l se))) := hide (by
            unfold setT; simp only [nm_key hvu])
          have Hnx := hide (sets_snoc l (pre := [32, 100, 111, 32]) Hu.out)
          rw [Hst.out] at Hnx
          have hS : S.size ≤ 40000 := by
            rw [HS.out, bytes_size]
            have h1 := Hlen.out
            have h2 := sets_le l c.sets k [32, 100, 111, 32]
            simp only [List.length_append] at h1 ⊢
            omega
          have Hbz : Hid (Below w1.heap.size w1 (wr.alloc (.cells #[.int .i64 (v : Int), .bool sq, .int .i64 yo, .int .i64 yn, .slice yA yl yc] 42))) := hide (Hk.out.alloc (by omega) _)
          have hvc1 : (wr.alloc (.cells #[.int .i64 (v : Int), .bool sq, .int .i64 yo, .int .i64 yn, .slice yA yl yc] 42)).cell? ⟨vb, voff + v * 5, none⟩ = some (.string u.nm) := (Hbz.out.cell (by exact hvb)).trans hvc.1
          clear hvc hvu
          by_cases hk0 : k = 0
          · have hk0b : ((k : Int) == 0) = true := by simp; omega
            have Hk0 := hide hk0; clear hk0
            cases sq
            · have HEs := hide (rtext_any w1.heap.size (some ⟨vb, voff, none⟩) sn sc l w1 Hm.out (Nat.le_refl _) HV.out HT1.out d yo yn yA yl yc se (by
                have h0 : RE w1 w1.heap.size d yo yn yA yl yc se := Hre0.out
                exact h0) (sort_gt (Hso.out.gt rfl)).2.2 (HF.out _ (Hso.out.gt rfl)))
              have Hse := hide (ex_len2 (Hso.out.gt rfl))
              go_wp2_with fail
              refine (HEs.out _ Hbz.out).mono ?_
              rintro e w4 ⟨rfl, hb4⟩
              have Hk4 := hide (Hbz.out.trans (hb4.mono (by simp only [World.size_alloc]; omega)))
              have hs4 : (bytesOf (exT l se)).size ≤ 3840 := by rw [bytes_size]; exact Hse.out
              clear hb4
              go_wp2_with fail
              go_roundw
              case rel => exact ⟨k + 1, _, hlt2, by go_num, rfl, hide (by
                have h := HS.out
                subst h
                rw [Hnx.out, if_pos Hk0.out]
                exact (bytes_five _ [32, 100, 111, 32] [32, 58, 61, 32] (exT l se) u.nm).trans (congrArg bytesOf (by simp [List.append_assoc]))), Hk4⟩
              case measure => simp [intOf]; omega
            · go_wp2_with fail
              go_roundw
              case rel => exact ⟨k + 1, _, hlt2, by go_num, rfl, hide (by
                have h := HS.out
                subst h
                rw [Hnx.out, if_pos Hk0.out]
                exact (bytes_five _ [32, 100, 111, 32] [32, 58, 61, 32] [97, 110, 121] u.nm).trans (congrArg bytesOf (by simp [List.append_assoc]))), Hbz⟩
              case measure => simp [intOf]; omega
          · have hk0b : ((k : Int) == 0) = false := by simp; omega
            have Hk0 := hide hk0; clear hk0
            cases sq
            · have HEs := hide (rtext_any w1.heap.size (some ⟨vb, voff, none⟩) sn sc l w1 Hm.out (Nat.le_refl _) HV.out HT1.out d yo yn yA yl yc se (by
                have h0 : RE w1 w1.heap.size d yo yn yA yl yc se := Hre0.out
                exact h0) (sort_gt (Hso.out.gt rfl)).2.2 (HF.out _ (Hso.out.gt rfl)))
              have Hse := hide (ex_len2 (Hso.out.gt rfl))
              go_wp2_with fail
              refine (HEs.out _ Hbz.out).mono ?_
              rintro e w4 ⟨rfl, hb4⟩
              have Hk4 := hide (Hbz.out.trans (hb4.mono (by simp only [World.size_alloc]; omega)))
              have hs4 : (bytesOf (exT l se)).size ≤ 3840 := by rw [bytes_size]; exact Hse.out
              clear hb4
              go_wp2_with fail
              go_roundw
              case rel => exact ⟨k + 1, _, hlt2, by go_num, rfl, hide (by
                have h := HS.out
                subst h
                rw [Hnx.out, if_neg Hk0.out]
                exact (bytes_five _ [44, 32] [32, 58, 61, 32] (exT l se) u.nm).trans (congrArg bytesOf (by simp [List.append_assoc]))), Hk4⟩
              case measure => simp [intOf]; omega
            · go_wp2_with fail
              go_roundw
              case rel => exact ⟨k + 1, _, hlt2, by go_num, rfl, hide (by
                have h := HS.out
                subst h
                rw [Hnx.out, if_neg Hk0.out]
                exact (bytes_five _ [44, 32] [32, 58, 61, 32] [97, 110, 121] u.nm).trans (congrArg bytesOf (by simp [List.append_assoc]))), Hbz⟩
              case measure => simp [intOf]; omega
        · have hlt' : ¬ ((k : Int) < (rn : Int)) := by omega
          have Hkn : Hid (c.sets.length ≤ k) := hide (by have := Hrl.out; omega)
          have hS : S.size ≤ 40000 := by
            rw [HS.out, bytes_size]
            have h1 := Hlen.out
            have h2 := sets_le l c.sets k [32, 100, 111, 32]
            simp only [List.length_append] at h1 ⊢
            omega
          go_wp2_with fail
          go_ret
          refine ⟨?_, Hb1.out.trans (Hk.out.mono (by omega))⟩
          have h1 := HS.out
          rw [List.take_of_length_le Hkn.out] at h1
          subst h1
          rw [Hsh.out, ← bytes_app]; rfl
  · have hsb : (cmdE l c env != 0) = true := by simp [hs]
    have Hsh : Hid (showC l c env = []) := hide (if_neg hs)
    clear hs
    go_wp2_with fail
    go_ret
    exact ⟨by rw [Hsh.out]; rfl, Hb1.out⟩
end Go.Proofs.YtjpphjmehgflpaaGreatDoor
