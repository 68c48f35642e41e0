/-
  errors.Is over places: is it of that kind?
  A vault that is read: object, store, openStore.
-/
import Derived.Test.YtcegdgmbponapaaGreatDoorPart09
import Derived.Test.YtcegdgmbponapaaGreatDoorPart18
import Derived.Test.YtcegdgmbponapaaGreatDoorClone
namespace Go.Proofs.YtcegdgmbponapaaGreatDoor
open Go.RowKit Go.Extern.Stop Go.Stop Go.Extern
attribute [local go_sem ↓] Go.wp_at_zero Go.wp_at_succ

theorem Tryz.eqlPK (v : Value) (k : Int) (w : World) : (binOp .eql 97 (.iface 212 v) (.iface 136 (.int .i64 k))).run Tryz.prog w = .ok (.bool false) w := by kernel_rfl
theorem Tryz.eqlKK (j k : Int) (w : World) : (binOp .eql 97 (.iface 136 (.int .i64 j)) (.iface 136 (.int .i64 k))).run Tryz.prog w = .ok (.bool (j == k)) w := by kernel_rfl
theorem Tryz.eqlNN (w : World) : (binOp .eql 97 .nilIface .nilIface).run Tryz.prog w = .ok (.bool true) w := by kernel_rfl
theorem Tryz.eqlNK (v : Value) (w : World) : (binOp .eql 97 .nilIface (.iface 136 v)).run Tryz.prog w = .ok (.bool false) w := by kernel_rfl
theorem Tryz.eqlKN (v : Value) (w : World) : (binOp .eql 97 (.iface 136 v) .nilIface).run Tryz.prog w = .ok (.bool false) w := by kernel_rfl
theorem Tryz.eqlPN (v : Value) (w : World) : (binOp .eql 97 (.iface 212 v) .nilIface).run Tryz.prog w = .ok (.bool false) w := by kernel_rfl
theorem Tryz.methodComparable (h : Value) (w : World) : (Go.method 508 269 (.agg #[h]) "Comparable").run Tryz.prog w = .ok (311, .agg #[h]) w := by kernel_rfl
theorem Tryz.comparableE (w : World) : (ReflectliteType.method (fun t => do Rtype.noPackHeld "Comparable" t; (fun a => Value.bool a.comparable) <$> typeInfo t) #[.agg #[.pointer (some ⟨5, 136, none⟩)]]).run Tryz.prog w = .ok (.bool true) w := by kernel_rfl
theorem Tryz.assertIsP (v : Value) (w : World) : (Instr.typeAssert (.iface 212 v) 97 347 true).run Tryz.prog w = .ok (.tuple #[.nilIface, .bool false]) w := run_typeAssert_lacksB Tryz.underlying347 (by kernel_rfl) (by kernel_rfl) v _ w
theorem Tryz.assertIsK (v : Value) (w : World) : (Instr.typeAssert (.iface 136 v) 97 347 true).run Tryz.prog w = .ok (.tuple #[.nilIface, .bool false]) w := run_typeAssert_lacksB Tryz.underlying347 (by kernel_rfl) (by kernel_rfl) v _ w
theorem Tryz.assertUnK (v : Value) (w : World) : (Instr.typeAssert (.iface 136 v) 97 277 true).run Tryz.prog w = .ok (.tuple #[.nilIface, .bool false]) w := run_typeAssert_lacksB Tryz.underlying277 (by kernel_rfl) (by kernel_rfl) v _ w
theorem Tryz.assertUnsK (v : Value) (w : World) : (Instr.typeAssert (.iface 136 v) 97 278 true).run Tryz.prog w = .ok (.tuple #[.nilIface, .bool false]) w := run_typeAssert_lacksB Tryz.underlying278 (by kernel_rfl) (by kernel_rfl) v _ w

set_option maxRecDepth 100000 in
set_option maxHeartbeats 4000000 in
theorem is_any (k kt : Int) (w : World) (d : Nat) (e : Value) (hc : Chain w k d e) (hd : d ≤ 10) :
    Calls Tryz.prog 241 #[e, .iface 136 (.int .i64 kt), .bool true] w fun ev w' => ev = .returned (.bool (k == kt)) ∧ w' = w := by
  have q1 := Tryz.eqlPK
  have q2 := Tryz.eqlKK
  have sI := Tryz.assertIsP
  have sK := Tryz.assertIsK
  have sU := Tryz.assertUnwrap
  have sV := Tryz.assertUnK
  have sW := Tryz.assertUnsK
  have mU := Tryz.methodUnwrap
  have HC := hid hc
  clear hc
  go_enter Tryz.func241, Tryz.ntmps241
  go_wp2_with fail
  go_loopw [0] (fun e wr => ∃ d, d ≤ 10 ∧ Chain wr k d e ∧ wr = w) (fun e wr => deep wr 10 e)
  case atStart => exact ⟨d, hd, HC.out, rfl⟩
  case round =>
    obtain ⟨d', hd', hc', rfl⟩ := hrel
    have hm := hc'.deep 10 hd'
    cases hc' with
    | hit =>
      by_cases hk : k = kt
      · subst hk
        have hkk : (k == k) = true := by simp
        go_wp2_with fail
        go_ret
        exact ⟨congrArg (fun b => Ending.returned (.bool b)) hkk.symm, rfl⟩
      · have hkk : (k == kt) = false := by simp [hk]
        have HKK := hid hkk
        go_wp2_with fail
        go_ret
        exact ⟨congrArg (fun b => Ending.returned (.bool b)) HKK.out.symm, rfl⟩
    | place d2 b e2 h2 hcell hlt =>
      have h3 := h2.deep 10 (by omega)
      have HM := hid hm
      have H3 := hid h3
      have H2 := hid h2
      obtain ⟨te, ve, rfl⟩ := h2.shape
      clear hm h3 h2
      go_wp2_with (go_at_call 306; refine (unwrap_any b _ _ hcell).mono ?_; rintro ev w2 ⟨rfl, rfl⟩)
      exact ⟨⟨d2, by omega, H2.out, trivial⟩, by rw [H3.out, HM.out]; omega⟩

set_option maxRecDepth 100000 in
set_option maxHeartbeats 4000000 in
theorem Is_any (k kt : Int) (w : World) (d : Nat) (e : Value) (hc : Chain w k d e) (hd : d ≤ 10) :
    Calls Tryz.prog 211 #[e, .iface 136 (.int .i64 kt)] w fun ev w' => ev = .returned (.bool (k == kt)) ∧ w' = w := by
  have HI := hid (is_any k kt w d e hc hd)
  obtain ⟨te, ve, rfl⟩ := hc.shape
  have h1 := @run_callFunc_extern Tryz.prog 171 _ ReflectliteType.typeOf Tryz.func171 (by kernel_rfl) (by kernel_rfl) (by kernel_rfl) (by kernel_rfl)
  have h2 := @run_callFunc_extern Tryz.prog 311 _ (ReflectliteType.method (fun t => do Rtype.noPackHeld "Comparable" t; pure (.bool (← typeInfo t).comparable))) Tryz.func311 (by kernel_rfl) (by kernel_rfl) (by kernel_rfl) (by kernel_rfl)
  have tE := Tryz.typeOfE
  have mC := Tryz.methodComparable
  have cE := Tryz.comparableE
  have n1 := Tryz.eqlKN
  have hn : (binOp .eql 97 (.iface te ve) .nilIface).run Tryz.prog w = .ok (.bool false) w := by
    cases hc with
    | hit => exact Tryz.eqlKN _ _
    | place => exact Tryz.eqlPN _ _
  clear hc
  go_enter Tryz.func211, Tryz.ntmps211
  go_wp2_with (go_at_call 241; refine HI.out.mono ?_; rintro e w1 ⟨rfl, rfl⟩)
  go_ret
  exact ⟨rfl, rfl⟩

set_option maxRecDepth 100000 in
theorem Is_nil (kt : Int) (w : World) :
    Calls Tryz.prog 211 #[.nilIface, .iface 136 (.int .i64 kt)] w fun ev w' => ev = .returned (.bool false) ∧ w' = w := by
  have n1 := Tryz.eqlNN
  have n2 := Tryz.eqlNK
  go_enter Tryz.func211, Tryz.ntmps211
  go_wp2
  go_ret
  exact ⟨rfl, rfl⟩
end Go.Proofs.YtcegdgmbponapaaGreatDoor

namespace Go.Proofs.YtcegdgmbponapaaGreatDoor
open Go.RowKit
attribute [local go_sem ↓] Go.wp_at_zero Go.wp_at_succ

/-- A vault that is not crashed, as it lies. -/
structure Rdy (w : World) (V key n B bc : Nat) (sp : Nat → Nat) : Prop where
  va : Va w V key n B 0 bc sp
  c5 : w.cell? ⟨V, 5, none⟩ = some (.bool false)
  n1 : 1 ≤ n
  n8 : n ≤ 8

theorem Rdy.keeps {B' : Nat} {w w' : World} {V key n B bc : Nat} {sp : Nat → Nat} (h : Rdy w V key n B bc sp) (hb : Below B' w w') (hB : w.heap.size ≤ B') : Rdy w' V key n B bc sp :=
  ⟨h.va.keeps hb hB, by rw [hb.cell (by exact Nat.lt_of_lt_of_le h.va.lt hB)]; exact h.c5, h.n1, h.n8⟩

theorem Rdy.st {w : World} {V key n B bc : Nat} {sp : Nat → Nat} (h : Rdy w V key n B bc sp) (i : Nat) (hi : i < n) : w.cell? ⟨B, i, none⟩ = some (.pointer (some ⟨sp i, 0, none⟩)) := by
  have := h.va.st i hi
  rwa [Nat.zero_add] at this

theorem Vt.rdy {w : World} {V key n B bc : Nat} {sp : Nat → Nat} {done : Int} {crashes : Bool} {ahead : Int} (h : Vt w V key n B bc sp done crashes ahead false) (h1 : 1 ≤ n) (h8 : n ≤ 8) : Rdy w V key n B bc sp :=
  ⟨h.va, by rw [cells_at h.hp]; rfl, h1, h8⟩

set_option maxRecDepth 100000 in
theorem sclone_any (s : ByteArray) (w : World) (h : s.size ≤ 281474976710656) :
    Calls Tryz.prog 52 #[.string s] w fun e w' => e = .returned (.string s) ∧ Below w.heap.size w w' := by
  have H := hid (Tryz.stringslite_Clone s w h)
  go_enter Tryz.func52, Tryz.ntmps52
  go_wp2_with fail
  refine H.out.mono ?_
  rintro e w1 ⟨rfl, hb1⟩
  go_wp2
  go_ret
  exact ⟨rfl, hb1⟩

set_option maxRecDepth 100000 in
set_option maxHeartbeats 1000000 in
theorem object_yes (V key n B bc : Nat) (sp : Nat → Nat) (down : Bool) (a : Option Addr) (c : Nat) (rs : List RecV) (r : RecV) (nm : ByteArray) (w : World) (h : Rdy w V key n B bc sp) (hs : St w (sp 0) down a c rs) (hyes : hasName rs nm = true) (hr : r = rs[posOf rs nm]!) :
    Calls Tryz.prog 77 #[.pointer (some ⟨V, 0, none⟩), .string nm] w fun e w' =>
      e = .returned (.tuple #[.agg #[.string r.name, .int .i64 r.mode, .int .i64 r.t, .int .i64 r.l, .int .i64 r.size, .int .i64 r.epoch], .nilIface]) ∧ Below w.heap.size w w' := by
  have hba := (Below.refl w.heap.size w).alloc (Nat.le_refl _) (.cells #[.string ByteArray.empty, .int .i64 0, .int .i64 0, .int .i64 0, .int .i64 0, .int .i64 0] 55)
  have hR := h.keeps hba (Nat.le_refl _)
  have c5 := hR.c5
  have c1 := hR.va.c1
  have k0 := hR.st 0 (by have := h.n1; omega)
  have HC := hid (check_fine V _ c5)
  have HREC := hid (record_yes (sp 0) down a c rs r nm _ (hs.keeps hba (Nat.le_refl _)) hyes hr)
  have hn1 : (0 : Int) < (n : Int) := by have := h.n1; omega
  have hVlt : ¬ V = w.heap.size := by have := h.va.lt; omega
  clear h hs hyes hr hR
  go_enter Tryz.func77, Tryz.ntmps77
  go_wp2_with (go_at_call 88; refine HC.out.mono ?_; rintro e w0 ⟨rfl, rfl⟩)
  refine HREC.out.mono ?_
  rintro e w1 ⟨rfl, hb1⟩
  have hc1 : ∀ o, w1.cell? ⟨w.heap.size, o, none⟩ = _ := fun o => (bcell hb1).1 w.heap.size o (by simp)
  have hf1 : ∀ o, w1.frozen? ⟨w.heap.size, o, none⟩ = _ := fun o => (bcell hb1).2 w.heap.size o (by simp)
  have hz1 : w.heap.size < w1.heap.size := by have := hb1.size; simp at this; omega
  have hb01 : Below w.heap.size w w1 := hba.trans (hb1.mono (by simp))
  have hz1' : ¬ w.heap.size = w1.heap.size := by omega
  go_wp2_with fail
  refine bodyPost_ret (v := .tuple #[.agg #[.string r.name, .int .i64 r.mode, .int .i64 r.t, .int .i64 r.l, .int .i64 r.size, .int .i64 r.epoch], .nilIface]) ?_ rfl ⟨rfl, ?_⟩
  · simp [results, Tryz.results77, go_sem, World.cell?_alloc_lt, hz1, hc1]
  · exact ((((((hb01.setCell (Nat.le_refl _) _).setCell (Nat.le_refl _) _).setCell (Nat.le_refl _) _).setCell (Nat.le_refl _) _).setCell (Nat.le_refl _) _).setCell (Nat.le_refl _) _).alloc (by simp; omega) _

set_option maxRecDepth 100000 in
set_option maxHeartbeats 1000000 in
theorem object_no (V key n B bc : Nat) (sp : Nat → Nat) (down : Bool) (a : Option Addr) (c : Nat) (rs : List RecV) (nm : ByteArray) (w : World) (h : Rdy w V key n B bc sp) (hs : St w (sp 0) down a c rs) (hno : hasName rs nm = false) :
    Calls Tryz.prog 77 #[.pointer (some ⟨V, 0, none⟩), .string nm] w fun e w' =>
      ∃ ev, e = .returned (.tuple #[.agg #[.string ByteArray.empty, .int .i64 0, .int .i64 0, .int .i64 0, .int .i64 0, .int .i64 0], ev]) ∧ Chain w' 9 1 ev ∧ Below w.heap.size w w' := by
  have hba := (Below.refl w.heap.size w).alloc (Nat.le_refl _) (.cells #[.string ByteArray.empty, .int .i64 0, .int .i64 0, .int .i64 0, .int .i64 0, .int .i64 0] 55)
  have hR := h.keeps hba (Nat.le_refl _)
  have c5 := hR.c5
  have c1 := hR.va.c1
  have k0 := hR.st 0 (by have := h.n1; omega)
  have HC := hid (check_fine V _ c5)
  have HREC := hid (record_no (sp 0) down a c rs nm _ (hs.keeps hba (Nat.le_refl _)) hno)
  have hn1 : (0 : Int) < (n : Int) := by have := h.n1; omega
  have hVlt : ¬ V = w.heap.size := by have := h.va.lt; omega
  clear h hs hno hR
  go_enter Tryz.func77, Tryz.ntmps77
  go_wp2_with (go_at_call 88; refine HC.out.mono ?_; rintro e w0 ⟨rfl, rfl⟩)
  refine HREC.out.mono ?_
  rintro e w1 ⟨ev, rfl, hch, hb1⟩
  have hc1 : ∀ o, w1.cell? ⟨w.heap.size, o, none⟩ = _ := fun o => (bcell hb1).1 w.heap.size o (by simp)
  have hf1 : ∀ o, w1.frozen? ⟨w.heap.size, o, none⟩ = _ := fun o => (bcell hb1).2 w.heap.size o (by simp)
  have hz1 : w.heap.size < w1.heap.size := by have := hb1.size; simp at this; omega
  have hb01 : Below w.heap.size w w1 := hba.trans (hb1.mono (by simp))
  have d1 : w1.cell? ⟨w.heap.size, 1, none⟩ = some (.int .i64 0) := by rw [hc1]; simp
  have HCH := hid hch
  obtain ⟨te, ve, rfl⟩ := hch.shape
  clear hch
  go_wp2_with fail
  refine bodyPost_ret (v := .tuple #[.agg #[.string ByteArray.empty, .int .i64 0, .int .i64 0, .int .i64 0, .int .i64 0, .int .i64 0], .iface te ve]) ?_ rfl ⟨_, rfl, ?_, ?_⟩
  · simp [results, Tryz.results77, go_sem, World.cell?_alloc_lt, hz1, hc1]
  · refine Chain.keeps ?_ ((Below.refl _ _).alloc (Nat.le_refl _) _) (Nat.le_refl _)
    exact HCH.out.other w.heap.size (by intro t v; rw [d1]; simp) (fun b hb => by simp [Below.heap_setCell, hb]) (by simp)
  · exact ((((((hb01.setCell (Nat.le_refl _) _).setCell (Nat.le_refl _) _).setCell (Nat.le_refl _) _).setCell (Nat.le_refl _) _).setCell (Nat.le_refl _) _).setCell (Nat.le_refl _) _).alloc (by simp; omega) _

set_option maxRecDepth 100000 in
theorem store_yes (V key n B bc : Nat) (sp : Nat → Nat) (i : Nat) (w : World) (h : Rdy w V key n B bc sp) (hi : i < n) :
    Calls Tryz.prog 82 #[.pointer (some ⟨V, 0, none⟩), .int .i64 i] w fun e w' => e = .returned (.tuple #[.pointer (some ⟨sp i, 0, none⟩), .nilIface]) ∧ w' = w := by
  have c1 := h.va.c1
  have k := h.st i hi
  have hi' : (i : Int) < (n : Int) := by omega
  have hi0 : ¬ (i : Int) < 0 := by omega
  clear h
  go_enter Tryz.func82, Tryz.ntmps82
  go_wp2
  go_ret2
  exact ⟨rfl, rfl⟩

set_option maxRecDepth 100000 in
theorem openStore_yes (V key n B bc : Nat) (sp : Nat → Nat) (i : Nat) (w : World) (h : Rdy w V key n B bc sp) (hi : i < n) :
    Calls Tryz.prog 84 #[.pointer (some ⟨V, 0, none⟩), .int .i64 i] w fun e w' => e = .returned (.tuple #[.pointer (some ⟨sp i, 0, none⟩), .nilIface]) ∧ w' = w := by
  have HC := hid (check_fine V _ h.c5)
  have HS := hid (store_yes V key n B bc sp i w h hi)
  clear h
  go_enter Tryz.func84, Tryz.ntmps84
  go_wp2_with (first | (go_at_call 88; refine HC.out.mono ?_; rintro e w0 ⟨rfl, rfl⟩) | (go_at_call 82; refine HS.out.mono ?_; rintro e w0 ⟨rfl, rfl⟩))
  go_ret2
  exact ⟨rfl, rfl⟩

set_option maxRecDepth 100000 in
set_option maxHeartbeats 1000000 in
theorem vshard_yes (V key n B bc : Nat) (sp : Nat → Nat) (i : Nat) (down : Bool) (a : Option Addr) (c : Nat) (rs : List RecV) (r : RecV) (nm : ByteArray) (w : World) (h : Rdy w V key n B bc sp) (hi : i < n) (hs : St w (sp i) down a c rs) (hyes : hasName rs nm = true) (hr : r = rs[posOf rs nm]!) :
    Calls Tryz.prog 48 #[.pointer (some ⟨V, 0, none⟩), .int .i64 i, .string nm] w fun e w' =>
      e = .returned (.tuple #[.slice r.sa r.sn r.sc, .nilIface]) ∧ Below w.heap.size w w' := by
  have HO := hid (openStore_yes V key n B bc sp i w h hi)
  have HREC := hid (record_yes (sp i) down a c rs r nm w hs hyes hr)
  clear h hs hyes hr
  go_enter Tryz.func48, Tryz.ntmps48
  go_wp2_with (go_at_call 84; refine HO.out.mono ?_; rintro e w0 ⟨rfl, rfl⟩)
  refine HREC.out.mono ?_
  rintro e w1 ⟨rfl, hb1⟩
  go_wp2_with fail
  obtain ⟨w2, hw2⟩ : ∃ w2, w2 = w1.alloc (.cells #[.string r.name, .int .i64 r.mode, .int .i64 r.t, .int .i64 r.l, .int .i64 r.size, .int .i64 r.epoch, .slice r.sa r.sn r.sc, .slice r.na r.nn r.nc] 152) := ⟨_, rfl⟩
  have hb12 : Below w0.heap.size w0 w2 := by rw [hw2]; exact hb1.alloc hb1.size _
  have d6 : w2.cell? ⟨w1.heap.size, 6, none⟩ = some (.slice r.sa r.sn r.sc) := by rw [hw2]; simp
  rw [← hw2]
  clear hw2
  go_region_held3 (fun w' => w'.cell? ⟨w1.heap.size, 6, none⟩ = some (.slice r.sa r.sn r.sc)) (first | exact d6 | go_keep)
    (first | (go_at_call 78; refine (at_nil _ _).mono ?_; rintro e w3 ⟨rfl, rfl⟩))
  go_wp2
  go_ret2
  exact ⟨rfl, hb12.drew⟩
end Go.Proofs.YtcegdgmbponapaaGreatDoor
