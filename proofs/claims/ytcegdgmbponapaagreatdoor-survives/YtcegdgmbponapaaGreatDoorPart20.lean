/-
  A vault that is read: object, store, openStore.
  Package shard: numbers, heads, tags.
-/
import Derived.Test.YtcegdgmbponapaaGreatDoorPart19
import Derived.Test.YtcegdgmbponapaaGreatDoorClone
import Derived.Test.YtcegdgmbponapaaGreatDoorPart06
import Derived.Laws.Bits64
namespace Go.Proofs.YtcegdgmbponapaaGreatDoor
open Go.RowKit
attribute [local go_sem ↓] Go.wp_at_zero Go.wp_at_succ

/-- A vault that is not crashed, as it lies. -/
structure Rdy (w : World) (V key n B bc : Nat) (sp : Nat → Nat) : Prop where
  va : Va w V key n B 0 bc sp
  c5 : w.cell? ⟨V, 5, none⟩ = some (.bool false)
  n1 : 1 ≤ n
  n8 : n ≤ 8

theorem Rdy.keeps {B' : Nat} {w w' : World} {V key n B bc : Nat} {sp : Nat → Nat} (h : Rdy w V key n B bc sp) (hb : Below B' w w') (hB : w.heap.size ≤ B') : Rdy w' V key n B bc sp :=
  ⟨h.va.keeps hb hB, by rw [hb.cell (by exact Nat.lt_of_lt_of_le h.va.lt hB)]; exact h.c5, h.n1, h.n8⟩

theorem Rdy.st {w : World} {V key n B bc : Nat} {sp : Nat → Nat} (h : Rdy w V key n B bc sp) (i : Nat) (hi : i < n) : w.cell? ⟨B, i, none⟩ = some (.pointer (some ⟨sp i, 0, none⟩)) := by
  have := h.va.st i hi
  rwa [Nat.zero_add] at this

theorem Vt.rdy {w : World} {V key n B bc : Nat} {sp : Nat → Nat} {done : Int} {crashes : Bool} {ahead : Int} (h : Vt w V key n B bc sp done crashes ahead false) (h1 : 1 ≤ n) (h8 : n ≤ 8) : Rdy w V key n B bc sp :=
  ⟨h.va, by rw [cells_at h.hp]; rfl, h1, h8⟩

set_option maxRecDepth 100000 in
theorem sclone_any (s : ByteArray) (w : World) (h : s.size ≤ 281474976710656) :
    Calls Tryz.prog 52 #[.string s] w fun e w' => e = .returned (.string s) ∧ Below w.heap.size w w' := by
  have H := hid (Tryz.stringslite_Clone s w h)
  go_enter Tryz.func52, Tryz.ntmps52
  go_wp2_with fail
  refine H.out.mono ?_
  rintro e w1 ⟨rfl, hb1⟩
  go_wp2
  go_ret
  exact ⟨rfl, hb1⟩

set_option maxRecDepth 100000 in
set_option maxHeartbeats 1000000 in
theorem object_yes (V key n B bc : Nat) (sp : Nat → Nat) (down : Bool) (a : Option Addr) (c : Nat) (rs : List RecV) (r : RecV) (nm : ByteArray) (w : World) (h : Rdy w V key n B bc sp) (hs : St w (sp 0) down a c rs) (hyes : hasName rs nm = true) (hr : r = rs[posOf rs nm]!) :
    Calls Tryz.prog 77 #[.pointer (some ⟨V, 0, none⟩), .string nm] w fun e w' =>
      e = .returned (.tuple #[.agg #[.string r.name, .int .i64 r.mode, .int .i64 r.t, .int .i64 r.l, .int .i64 r.size, .int .i64 r.epoch], .nilIface]) ∧ Below w.heap.size w w' := by
  have hba := (Below.refl w.heap.size w).alloc (Nat.le_refl _) (.cells #[.string ByteArray.empty, .int .i64 0, .int .i64 0, .int .i64 0, .int .i64 0, .int .i64 0] 55)
  have hR := h.keeps hba (Nat.le_refl _)
  have c5 := hR.c5
  have c1 := hR.va.c1
  have k0 := hR.st 0 (by have := h.n1; omega)
  have HC := hid (check_fine V _ c5)
  have HREC := hid (record_yes (sp 0) down a c rs r nm _ (hs.keeps hba (Nat.le_refl _)) hyes hr)
  have hn1 : (0 : Int) < (n : Int) := by have := h.n1; omega
  have hVlt : ¬ V = w.heap.size := by have := h.va.lt; omega
  clear h hs hyes hr hR
  go_enter Tryz.func77, Tryz.ntmps77
  go_wp2_with (go_at_call 88; refine HC.out.mono ?_; rintro e w0 ⟨rfl, rfl⟩)
  refine HREC.out.mono ?_
  rintro e w1 ⟨rfl, hb1⟩
  have hc1 : ∀ o, w1.cell? ⟨w.heap.size, o, none⟩ = _ := fun o => (bcell hb1).1 w.heap.size o (by simp)
  have hf1 : ∀ o, w1.frozen? ⟨w.heap.size, o, none⟩ = _ := fun o => (bcell hb1).2 w.heap.size o (by simp)
  have hz1 : w.heap.size < w1.heap.size := by have := hb1.size; simp at this; omega
  have hb01 : Below w.heap.size w w1 := hba.trans (hb1.mono (by simp))
  have hz1' : ¬ w.heap.size = w1.heap.size := by omega
  go_wp2_with fail
  refine bodyPost_ret (v := .tuple #[.agg #[.string r.name, .int .i64 r.mode, .int .i64 r.t, .int .i64 r.l, .int .i64 r.size, .int .i64 r.epoch], .nilIface]) ?_ rfl ⟨rfl, ?_⟩
  · simp [results, Tryz.results77, go_sem, World.cell?_alloc_lt, hz1, hc1]
  · exact ((((((hb01.setCell (Nat.le_refl _) _).setCell (Nat.le_refl _) _).setCell (Nat.le_refl _) _).setCell (Nat.le_refl _) _).setCell (Nat.le_refl _) _).setCell (Nat.le_refl _) _).alloc (by simp; omega) _

set_option maxRecDepth 100000 in
set_option maxHeartbeats 1000000 in
theorem object_no (V key n B bc : Nat) (sp : Nat → Nat) (down : Bool) (a : Option Addr) (c : Nat) (rs : List RecV) (nm : ByteArray) (w : World) (h : Rdy w V key n B bc sp) (hs : St w (sp 0) down a c rs) (hno : hasName rs nm = false) :
    Calls Tryz.prog 77 #[.pointer (some ⟨V, 0, none⟩), .string nm] w fun e w' =>
      ∃ ev, e = .returned (.tuple #[.agg #[.string ByteArray.empty, .int .i64 0, .int .i64 0, .int .i64 0, .int .i64 0, .int .i64 0], ev]) ∧ Chain w' 9 1 ev ∧ Below w.heap.size w w' := by
  have hba := (Below.refl w.heap.size w).alloc (Nat.le_refl _) (.cells #[.string ByteArray.empty, .int .i64 0, .int .i64 0, .int .i64 0, .int .i64 0, .int .i64 0] 55)
  have hR := h.keeps hba (Nat.le_refl _)
  have c5 := hR.c5
  have c1 := hR.va.c1
  have k0 := hR.st 0 (by have := h.n1; omega)
  have HC := hid (check_fine V _ c5)
  have HREC := hid (record_no (sp 0) down a c rs nm _ (hs.keeps hba (Nat.le_refl _)) hno)
  have hn1 : (0 : Int) < (n : Int) := by have := h.n1; omega
  have hVlt : ¬ V = w.heap.size := by have := h.va.lt; omega
  clear h hs hno hR
  go_enter Tryz.func77, Tryz.ntmps77
  go_wp2_with (go_at_call 88; refine HC.out.mono ?_; rintro e w0 ⟨rfl, rfl⟩)
  refine HREC.out.mono ?_
  rintro e w1 ⟨ev, rfl, hch, hb1⟩
  have hc1 : ∀ o, w1.cell? ⟨w.heap.size, o, none⟩ = _ := fun o => (bcell hb1).1 w.heap.size o (by simp)
  have hf1 : ∀ o, w1.frozen? ⟨w.heap.size, o, none⟩ = _ := fun o => (bcell hb1).2 w.heap.size o (by simp)
  have hz1 : w.heap.size < w1.heap.size := by have := hb1.size; simp at this; omega
  have hb01 : Below w.heap.size w w1 := hba.trans (hb1.mono (by simp))
  have d1 : w1.cell? ⟨w.heap.size, 1, none⟩ = some (.int .i64 0) := by rw [hc1]; simp
  have HCH := hid hch
  obtain ⟨te, ve, rfl⟩ := hch.shape
  clear hch
  go_wp2_with fail
  refine bodyPost_ret (v := .tuple #[.agg #[.string ByteArray.empty, .int .i64 0, .int .i64 0, .int .i64 0, .int .i64 0, .int .i64 0], .iface te ve]) ?_ rfl ⟨_, rfl, ?_, ?_⟩
  · simp [results, Tryz.results77, go_sem, World.cell?_alloc_lt, hz1, hc1]
  · refine Chain.keeps ?_ ((Below.refl _ _).alloc (Nat.le_refl _) _) (Nat.le_refl _)
    exact HCH.out.other w.heap.size (by intro t v; rw [d1]; simp) (fun b hb => by simp [Below.heap_setCell, hb]) (by simp)
  · exact ((((((hb01.setCell (Nat.le_refl _) _).setCell (Nat.le_refl _) _).setCell (Nat.le_refl _) _).setCell (Nat.le_refl _) _).setCell (Nat.le_refl _) _).setCell (Nat.le_refl _) _).alloc (by simp; omega) _

set_option maxRecDepth 100000 in
theorem store_yes (V key n B bc : Nat) (sp : Nat → Nat) (i : Nat) (w : World) (h : Rdy w V key n B bc sp) (hi : i < n) :
    Calls Tryz.prog 82 #[.pointer (some ⟨V, 0, none⟩), .int .i64 i] w fun e w' => e = .returned (.tuple #[.pointer (some ⟨sp i, 0, none⟩), .nilIface]) ∧ w' = w := by
  have c1 := h.va.c1
  have k := h.st i hi
  have hi' : (i : Int) < (n : Int) := by omega
  have hi0 : ¬ (i : Int) < 0 := by omega
  clear h
  go_enter Tryz.func82, Tryz.ntmps82
  go_wp2
  go_ret2
  exact ⟨rfl, rfl⟩

set_option maxRecDepth 100000 in
theorem openStore_yes (V key n B bc : Nat) (sp : Nat → Nat) (i : Nat) (w : World) (h : Rdy w V key n B bc sp) (hi : i < n) :
    Calls Tryz.prog 84 #[.pointer (some ⟨V, 0, none⟩), .int .i64 i] w fun e w' => e = .returned (.tuple #[.pointer (some ⟨sp i, 0, none⟩), .nilIface]) ∧ w' = w := by
  have HC := hid (check_fine V _ h.c5)
  have HS := hid (store_yes V key n B bc sp i w h hi)
  clear h
  go_enter Tryz.func84, Tryz.ntmps84
  go_wp2_with (first | (go_at_call 88; refine HC.out.mono ?_; rintro e w0 ⟨rfl, rfl⟩) | (go_at_call 82; refine HS.out.mono ?_; rintro e w0 ⟨rfl, rfl⟩))
  go_ret2
  exact ⟨rfl, rfl⟩

set_option maxRecDepth 100000 in
set_option maxHeartbeats 1000000 in
theorem vshard_yes (V key n B bc : Nat) (sp : Nat → Nat) (i : Nat) (down : Bool) (a : Option Addr) (c : Nat) (rs : List RecV) (r : RecV) (nm : ByteArray) (w : World) (h : Rdy w V key n B bc sp) (hi : i < n) (hs : St w (sp i) down a c rs) (hyes : hasName rs nm = true) (hr : r = rs[posOf rs nm]!) :
    Calls Tryz.prog 48 #[.pointer (some ⟨V, 0, none⟩), .int .i64 i, .string nm] w fun e w' =>
      e = .returned (.tuple #[.slice r.sa r.sn r.sc, .nilIface]) ∧ Below w.heap.size w w' := by
  have HO := hid (openStore_yes V key n B bc sp i w h hi)
  have HREC := hid (record_yes (sp i) down a c rs r nm w hs hyes hr)
  clear h hs hyes hr
  go_enter Tryz.func48, Tryz.ntmps48
  go_wp2_with (go_at_call 84; refine HO.out.mono ?_; rintro e w0 ⟨rfl, rfl⟩)
  refine HREC.out.mono ?_
  rintro e w1 ⟨rfl, hb1⟩
  go_wp2_with fail
  obtain ⟨w2, hw2⟩ : ∃ w2, w2 = w1.alloc (.cells #[.string r.name, .int .i64 r.mode, .int .i64 r.t, .int .i64 r.l, .int .i64 r.size, .int .i64 r.epoch, .slice r.sa r.sn r.sc, .slice r.na r.nn r.nc] 152) := ⟨_, rfl⟩
  have hb12 : Below w0.heap.size w0 w2 := by rw [hw2]; exact hb1.alloc hb1.size _
  have d6 : w2.cell? ⟨w1.heap.size, 6, none⟩ = some (.slice r.sa r.sn r.sc) := by rw [hw2]; simp
  rw [← hw2]
  clear hw2
  go_region_held3 (fun w' => w'.cell? ⟨w1.heap.size, 6, none⟩ = some (.slice r.sa r.sn r.sc)) (first | exact d6 | go_keep)
    (first | (go_at_call 78; refine (at_nil _ _).mono ?_; rintro e w3 ⟨rfl, rfl⟩))
  go_wp2
  go_ret2
  exact ⟨rfl, hb12.drew⟩
end Go.Proofs.YtcegdgmbponapaaGreatDoor

namespace Go.Proofs.YtcegdgmbponapaaGreatDoor
open Go.RowKit

/-- A number in n bytes, the highest first. -/
def Cof.high (x n : Nat) : List UInt8 := (List.range n).map fun j => UInt8.ofNat (x / 256 ^ (n - 1 - j))

theorem Cof.length_high (x n : Nat) : (Cof.high x n).length = n := by simp [Cof.high]

/-- The last k of its bytes are there. -/
def Cof.highTo (x n k : Nat) : List UInt8 := (List.range n).map fun j => if n - k ≤ j then UInt8.ofNat (x / 256 ^ (n - 1 - j)) else 0

theorem Cof.highTo_zero (x n : Nat) : Cof.highTo x n 0 = List.replicate n 0 := by
  apply List.ext_getElem
  · simp [Cof.highTo]
  · intro i h1 h2
    simp [Cof.highTo] at h1 ⊢
    intro h; omega
theorem Cof.highTo_full (x n : Nat) : Cof.highTo x n n = Cof.high x n := by
  apply List.map_congr_left
  intro i hi
  simp
theorem Cof.length_highTo (x n k : Nat) : (Cof.highTo x n k).length = n := by simp [Cof.highTo]
theorem Cof.highTo_set (x n k : Nat) (h : k < n) : (Cof.highTo x n k).set (n - 1 - k) (UInt8.ofNat (x / 256 ^ k)) = Cof.highTo x n (k + 1) := by
  apply List.ext_getElem
  · simp [Cof.highTo]
  · intro i h1 h2
    simp only [List.getElem_set]
    split
    · rename_i e; subst e
      simp only [Cof.highTo, List.getElem_map, List.getElem_range]
      rw [if_pos (by omega), show n - 1 - (n - 1 - k) = k by omega]
    · rename_i e
      simp only [Cof.highTo, List.getElem_map, List.getElem_range]
      simp [Cof.highTo] at h1
      by_cases hi : n - k ≤ i
      · simp [hi, show n - (k + 1) ≤ i by omega]
      · simp [hi, show ¬ n - (k + 1) ≤ i by omega]

theorem high_byte (x k : Nat) : (x : Int) / 2 ^ (8 * k) % 256 = ((UInt8.ofNat (x / 256 ^ k)).toNat : Int) := by
  have h1 : (2 : Int) ^ (8 * k) = ((256 ^ k : Nat) : Int) := by rw [Int.pow_mul]; norm_cast
  rw [h1, UInt8.toNat_ofNat', ← Int.natCast_ediv, show (256 : Int) = ((2 ^ 8 : Nat) : Int) from rfl, ← Int.natCast_emod]

set_option maxRecDepth 100000 in
set_option maxHeartbeats 1000000 in
theorem highFirst_any (x n : Nat) (w : World) (hn : n ≤ 8) :
    Calls Tryz.prog 198 #[.int .u64 x, .int .i64 n] w fun e w' =>
      ∃ g, e = .returned (.slice (some ⟨g, 0, none⟩) n n) ∧ w'.ownsRow w.heap.size 5 1 (.slice (some ⟨g, 0, none⟩) n n) n (bs (Cof.high x n)) ∧ Below w.heap.size w w' := by
  obtain ⟨i0, hi, hz0, hz1, hz2⟩ := info_parts Tryz.info5
  go_enter Tryz.func198, Tryz.ntmps198
  go_wp2_with (first | (at_make; refine wpList_make_full _ rfl (.tmp 7) (.tmp 7) 50 rfl w.heap.size 5 i0 (.int .u8 0) 1 Tryz.underlying50 hi hz0 hz1 .i64 .i64 _ _ n rfl rfl rfl rfl (by rw [hz2]; omega) (by unfold maxLen; omega) (Nat.le_refl _) ?_; intro w1 hown1 hgrow1; have hb1 := grown_below hgrow1; have HO1 := hid (made_row hown1); clear hown1 hgrow1) | fail)
  go_loopw [11] (fun i wr => ∃ k : Nat, k ≤ n ∧ i = .int .i64 k ∧ wr.ownsRow w.heap.size 5 1 (.slice (some ⟨w.heap.size, 0, none⟩) n n) n (bs (Cof.highTo x n k)) ∧ Below w.heap.size w wr) (fun i _ => n - (intOf i).toNat)
  case atStart =>
    refine ⟨0, Nat.zero_le _, rfl, ?_, hb1⟩
    rw [Cof.highTo_zero]
    exact HO1.out
  case round =>
    obtain ⟨k, hk, rfl, hown, hbel⟩ := hrel
    by_cases hlt : k < n
    · have hs := hown.frozenAt (n - 1 - k)
      have hc := (hown.cellAt (n - 1 - k) (by omega)).trans (bs_get (Cof.highTo x n k) (n - 1 - k) (by rw [Cof.length_highTo]; omega))
      have HST := hid (store_any (k := n - 1 - k) hown (UInt8.ofNat (x / 256 ^ k)))
      have hlt' : (k : Int) < (n : Int) := by omega
      clear hown
      rw [Cof.highTo_set x n k hlt] at HST
      go_wp2
      go_roundw
      case rel => exact ⟨k + 1, by omega, by go_num, by rw [high_byte]; exact HST.out, hbel.setCell (Nat.le_refl _) _⟩
      case measure => simp [intOf]; omega
    · have hkn : k = n := by omega
      subst hkn
      rw [Cof.highTo_full] at hown
      go_wp2
      go_ret
      exact ⟨_, rfl, hown, hbel⟩

/-- The tag: each byte is exclusive or'ed, then the product, modulo 2 to the 64. -/
def Cof.tagStep (t : Nat) (b : UInt8) : Nat := (t ^^^ b.toNat) * 1099511628211 % 18446744073709551616
def Cof.tag (key : Nat) (xs : List UInt8) : Nat := xs.foldl Cof.tagStep (14695981039346656037 ^^^ key)

theorem Cof.fold_lt (xs : List UInt8) : ∀ s, s < 18446744073709551616 → xs.foldl Cof.tagStep s < 18446744073709551616 := by
  induction xs with
  | nil => intro s h; rw [List.foldl_nil]; exact h
  | cons x xs ih =>
    intro s _
    rw [List.foldl_cons]
    apply ih
    unfold Cof.tagStep
    exact Nat.mod_lt _ (by decide)

theorem Cof.fold_snoc (s : Nat) (xs : List UInt8) (k : Nat) (h : k < xs.length) : (xs.take (k + 1)).foldl Cof.tagStep s = Cof.tagStep ((xs.take k).foldl Cof.tagStep s) xs[k] := by
  rw [List.take_succ_eq_append_getElem h, List.foldl_append, List.foldl_cons, List.foldl_nil]

theorem tag_start_lt (key : Nat) (hk : key < 18446744073709551616) : 14695981039346656037 ^^^ key < 18446744073709551616 := by
  have h1 : 14695981039346656037 < 2 ^ 64 := by decide
  generalize 14695981039346656037 = c at *
  exact Nat.xor_lt_two_pow (n := 64) h1 hk

theorem Cof.tag_lt (key : Nat) (hk : key < 18446744073709551616) (xs : List UInt8) : Cof.tag key xs < 18446744073709551616 := by
  unfold Cof.tag
  exact Cof.fold_lt xs _ (tag_start_lt key hk)

theorem Cof.tag_snoc (key : Nat) (xs : List UInt8) (k : Nat) (h : k < xs.length) : Cof.tag key (xs.take (k + 1)) = Cof.tagStep (Cof.tag key (xs.take k)) xs[k] := by
  unfold Cof.tag
  rw [Cof.fold_snoc]

theorem tag_step_val (t : Nat) (x : UInt8) (hx : bits .xor .u64 (t : Int) (x.toNat : Int) = ((t ^^^ x.toNat : Nat) : Int)) : IntKind.u64.wrap (bits .xor .u64 (t : Int) (IntKind.u64.wrap (x.toNat : Int)) * 1099511628211) = (Cof.tagStep t x : Int) := by
  have h1 : IntKind.u64.wrap (x.toNat : Int) = x.toNat := by rw [IntKind.wrap_u64]; have := x.toNat_lt; omega
  rw [h1, hx, IntKind.wrap_u64]
  unfold Cof.tagStep
  generalize t ^^^ x.toNat = y
  omega

theorem tag_nil (key : Nat) : Cof.tag key [] = 14695981039346656037 ^^^ key := by unfold Cof.tag; rw [List.foldl_nil]

theorem tag_xor (t : Nat) (b : UInt8) (ht : t < 18446744073709551616) : bits .xor .u64 (t : Int) (b.toNat : Int) = ((t ^^^ b.toNat : Nat) : Int) := bits_xor_u64_nat _ _ ht (Nat.lt_trans b.toNat_lt (by decide))
theorem tag_start (key : Nat) (hk : key < 18446744073709551616) : bits .xor .u64 (14695981039346656037 : Int) (key : Int) = (Cof.tag key [] : Int) := by
  rw [tag_nil]
  exact bits_xor_u64_nat 14695981039346656037 key (by decide) hk

set_option maxRecDepth 100000 in
set_option maxHeartbeats 1000000 in
theorem tagOf_any (a : Option Addr) (m c : Nat) (xs : List UInt8) (key : Nat) (w : World) (em : m = xs.length) (hr : Rd w a (bs xs)) (hm : m ≤ 1000) (hk : key < 18446744073709551616) :
    Calls Tryz.prog 186 #[.slice a m c, .int .u64 key] w fun e w' =>
      ∃ g, e = .returned (.slice (some ⟨g, 0, none⟩) 8 8) ∧ w'.ownsRow w.heap.size 5 1 (.slice (some ⟨g, 0, none⟩) 8 8) 8 (bs (Cof.high (Cof.tag key xs) 8)) ∧ Below w.heap.size w w' := by
  have EM := hid em
  have h0 := tag_start key hk
  have HK := hid hk
  clear em hk
  go_enter Tryz.func186, Tryz.ntmps186
  go_wp2
  go_loopw [5, 12] (fun t i wr => ∃ k : Nat, k ≤ m ∧ i = .int .i64 k ∧ t = .int .u64 (Cof.tag key (xs.take k)) ∧ wr = w) (fun _ i _ => m - (intOf i).toNat)
  case atStart => exact ⟨0, Nat.zero_le _, rfl, by rw [List.take_zero, ← h0], rfl⟩
  case round =>
    obtain ⟨k, hk, rfl, rfl, rfl⟩ := hrel
    by_cases hlt : k < m
    · have hkl : k < xs.length := by rw [← EM.out]; exact hlt
      obtain ⟨b, o, rfl, hb, hcell⟩ := hr.pos (by rw [bs_length]; omega)
      have hc : wr.cell? ⟨b, o + k, none⟩ = some (.int .u8 xs[k].toNat) := hcell k _ (by rw [bs_get _ _ hkl]; simp [hkl])
      have HT := hid (Cof.tag_snoc key xs k hkl)
      have hx := tag_xor (Cof.tag key (xs.take k)) xs[k] (Cof.tag_lt key HK.out _)
      generalize xs[k] = x at *
      generalize Cof.tag key (xs.take k) = t at *
      clear hcell hr
      go_wp2
      go_roundw
      case rel => exact ⟨k + 1, by omega, by go_num, by rw [HT.out, ← tag_step_val t x hx], trivial⟩
      case measure => simp [intOf]; omega
    · have hkn : k = m := by omega
      subst hkn
      have HTK := hid (show xs.take k = xs by rw [EM.out]; exact List.take_length)
      rw [HTK.out]
      obtain ⟨t, ht⟩ : ∃ t, t = Cof.tag key xs := ⟨_, rfl⟩
      rw [← ht]
      have HV := hid ht
      clear ht
      go_wp2_with (go_at_call 198; refine (highFirst_any t 8 _ (by decide)).mono ?_; rintro e w1 ⟨g, rfl, hown, hb1⟩)
      go_ret
      rw [← HV.out]
      exact ⟨_, rfl, hown, hb1⟩
end Go.Proofs.YtcegdgmbponapaaGreatDoor
