/-
  A value is got.
  The calls of a coffer that only read.
-/
import Derived.Test.YtcegdgmbponapaaGreatDoorPart32
namespace Go.Proofs.YtcegdgmbponapaaGreatDoor
open Go.RowKit
attribute [local go_sem ↓] Go.wp_at_zero Go.wp_at_succ

theorem prd_of_pcs {w : World} {base m : Nat} {e : TypeId} {v : Value} {rows : List (List UInt8)} {ss : List Nat} (h : w.ownsRow base e 2 v m (pcs rows ss)) : ∃ a c, v = .slice a m c ∧ m ≤ c ∧ PRd w a ss (ss.map fun s => (⟨(rows.getD s []).toArray⟩ : ByteArray)) := by
  obtain ⟨a, c, rfl, hrd⟩ := owns_rd_size h
  refine ⟨a, c, rfl, owns_caps h, fun i hi => ?_⟩
  obtain ⟨h1, h2⟩ := pcs_at rows ss i hi
  obtain ⟨b, o, e1, e2, e3⟩ := hrd _ _ h1
  obtain ⟨b', o', e1', _, e3'⟩ := hrd _ _ h2
  rw [e1] at e1'
  obtain ⟨rfl, rfl⟩ := (by simpa using e1' : b = b' ∧ o = o')
  refine ⟨b, o, e1, e2, ?_, ?_⟩
  · rw [e3]; simp [hi]
  · rw [Nat.add_assoc, e3']; simp [hi, str]

set_option maxRecDepth 100000 in
set_option maxHeartbeats 2000000 in
theorem vget_ok (base V key n B bc : Nat) (sp : Nat → Nat) (down : Nat → Bool) (mode t l size epoch : Nat) (nm : ByteArray) (P : Nat → List UInt8) (vs : Nat → Value) (xs : Nat → RecV) (w : World) (h : One w base V key n B bc sp down mode t l size epoch nm P vs xs)
    (hp : IsPlan mode t l n) (he : epoch ≤ 100) (hz : size ≤ 60) (hn1 : 1 ≤ nm.size) (hnm : nm.size ≤ 12) (hk : key < 18446744073709551616) (hl : Cof.ngroups mode t l size ≤ 60) (hP : ∀ i, i < n → (P i).length = Cof.ngroups mode t l size) (hT : Tab w)
    (N : Nat) (hN : N = Cof.gsize mode t l + Cof.tsize mode t) (hen : N ≤ (upTo down n).length) (J : List UInt8) (hJ : Cof.join mode t l size ((upTo down n).take N) (((upTo down n).take N).map P) = J) :
    Calls Tryz.prog 50 #[.pointer (some ⟨V, 0, none⟩), .string nm] w fun e w' =>
      ∃ av cv, e = .returned (.tuple #[.slice av size cv, .nilIface]) ∧ Rd w' av (bs J) ∧ Below w.heap.size w w' := by
  have hn1' := hp.n1
  have hn8 := hp.n8
  obtain ⟨done, ahead, hvt⟩ := h.vt
  have hR := hvt.rdy hn1' hn8
  obtain ⟨a0, c0', _, hst0⟩ := (h.st 0 (by omega)).st
  have hok0 := h.ok 0 (by omega)
  have HOBJ := hid (object_yes V key n B bc sp (down 0) a0 c0' [xs 0] (xs 0) nm w hR hst0 (has_one hok0.e.1) (by rw [pos_one hok0.e.1]; rfl))
  rw [hok0.e.1, hok0.e.2.1, hok0.e.2.2.1, hok0.e.2.2.2.1, hok0.e.2.2.2.2.1, hok0.e.2.2.2.2.2.1] at HOBJ
  have hkeep : ∀ w', Below w.heap.size w w' → One w' base V key n B bc sp down mode t l size epoch nm P vs xs := by
    intro w' hb
    have hs : Spared (fun _ => False) w w' := Spared.ofBelow hb (Nat.le_refl _)
    exact ⟨⟨done, ahead, hvt.keeps hs (fun h => h) (fun h => h)⟩, fun i hi => (h.st i hi).keeps hs (fun h => h) (fun _ _ h => h), fun i hi => (h.ok i hi).keeps hs (fun _ _ h => h), h.xi, h.vi, h.si, h.bV, h.bB, h.bsp, h.bv⟩
  have HRE := hid (fun w' hb => reached_up base V key n B bc sp down mode t l size epoch nm P vs xs w' (hkeep w' hb) hp he hz hn1 hnm hk hl hP (hT.keeps hb (Nat.le_refl _)))
  have hul := upTo_le down n
  have hlt : ∀ s ∈ upTo down n, s < n := fun s hs => by unfold upTo at hs; exact List.mem_range.1 (List.mem_filter.1 hs).1
  have hnd : (upTo down n).Nodup := by unfold upTo; exact List.nodup_range.filter _
  have hmap : (upTo down n).map (fun s => (⟨(((List.range n).map P).getD s []).toArray⟩ : ByteArray)) = (upTo down n).map (fun s => ⟨(P s).toArray⟩) := List.map_congr_left fun s hs => by simp [hlt s hs]
  have HJO := hid (fun (w' : World) (aP : Option Addr) (c : Nat) (hc : (upTo down n).length ≤ c) (hrd : PRd w' aP (upTo down n) ((upTo down n).map fun s => (⟨(((List.range n).map P).getD s []).toArray⟩ : ByteArray))) =>
    cutJoin_ok mode t l n size (upTo down n).length c N aP (upTo down n) _ w' ⟨hp, hz, rfl, hrd, by omega, hc, hlt, hnd, fun i hi => by rw [hmap]; simp [hi, ByteArray.size]; exact hP _ (hlt _ (List.getElem_mem hi))⟩ (by simp) hN hen)
  have hJ' : Cof.join mode t l size ((upTo down n).take N) ((((upTo down n).map fun s => (⟨(((List.range n).map P).getD s []).toArray⟩ : ByteArray)).take N).map fun p => p.data.toList) = J := by
    rw [hmap, ← List.map_take, List.map_map]
    exact hJ
  rw [hJ'] at HJO
  have HRR := hid hR
  clear h hp hP hT hst0 hok0 hvt hR hkeep hmap hJ hJ' hlt hnd
  go_enter Tryz.func50, Tryz.ntmps50
  go_wp2_with fail
  refine HOBJ.out.mono ?_
  rintro e w1 ⟨rfl, hb1⟩
  have hba := hb1.alloc hb1.size (.cells #[.string nm, .int .i64 mode, .int .i64 t, .int .i64 l, .int .i64 size, .int .i64 epoch] 55)
  obtain ⟨w2, hw2⟩ : ∃ w2, w2 = w1.alloc (.cells #[.string nm, .int .i64 mode, .int .i64 t, .int .i64 l, .int .i64 size, .int .i64 epoch] 55) := ⟨_, rfl⟩
  have HOB := hid (show w2.heap[w1.heap.size]? = some (.cells #[.string nm, .int .i64 mode, .int .i64 t, .int .i64 l, .int .i64 size, .int .i64 epoch] 55) by rw [hw2]; exact alloc_at _ _)
  have hl1 : w1.heap.size < w2.heap.size := cells_lt HOB.out
  rw [← hw2] at hba
  have HR2 := hid (HRR.out.keeps hba (Nat.le_refl _))
  have c1 := HR2.out.va.c1
  have lV := HR2.out.va.lt
  have o0 : w2.cell? ⟨w1.heap.size, 0, none⟩ = some (.string nm) := by rw [cells_at HOB.out]; rfl
  have o1 : w2.cell? ⟨w1.heap.size, 1, none⟩ = some (.int .i64 mode) := by rw [cells_at HOB.out]; rfl
  have o2 : w2.cell? ⟨w1.heap.size, 2, none⟩ = some (.int .i64 t) := by rw [cells_at HOB.out]; rfl
  have o3 : w2.cell? ⟨w1.heap.size, 3, none⟩ = some (.int .i64 l) := by rw [cells_at HOB.out]; rfl
  have o4 : w2.cell? ⟨w1.heap.size, 4, none⟩ = some (.int .i64 size) := by rw [cells_at HOB.out]; rfl
  have o5 : w2.cell? ⟨w1.heap.size, 5, none⟩ = some (.int .i64 epoch) := by rw [cells_at HOB.out]; rfl
  have HS := hid (show ∀ w', Below w2.heap.size w2 w' → w'.cell? ⟨V, 1, none⟩ = some (.slice (some ⟨B, 0, none⟩) n bc) ∧ w'.cell? ⟨w1.heap.size, 0, none⟩ = some (.string nm) ∧ w'.cell? ⟨w1.heap.size, 1, none⟩ = some (.int .i64 mode) ∧ w'.cell? ⟨w1.heap.size, 2, none⟩ = some (.int .i64 t) ∧ w'.cell? ⟨w1.heap.size, 3, none⟩ = some (.int .i64 l) ∧ w'.cell? ⟨w1.heap.size, 4, none⟩ = some (.int .i64 size) ∧ w'.cell? ⟨w1.heap.size, 5, none⟩ = some (.int .i64 epoch) from fun w' hb => ⟨(hb.cell lV).trans c1, (hb.cell hl1).trans o0, (hb.cell hl1).trans o1, (hb.cell hl1).trans o2, (hb.cell hl1).trans o3, (hb.cell hl1).trans o4, (hb.cell hl1).trans o5⟩)
  have HW2 := hid hw2
  go_wp2_with fail
  rw [← HW2.out]
  clear hw2 HW2
  generalize (upTo down n).length = m at *
  go_region_held3 (fun w' => w'.cell? ⟨V, 1, none⟩ = some (.slice (some ⟨B, 0, none⟩) n bc) ∧ w'.cell? ⟨w1.heap.size, 0, none⟩ = some (.string nm) ∧ w'.cell? ⟨w1.heap.size, 1, none⟩ = some (.int .i64 mode) ∧ w'.cell? ⟨w1.heap.size, 2, none⟩ = some (.int .i64 t) ∧ w'.cell? ⟨w1.heap.size, 3, none⟩ = some (.int .i64 l) ∧ w'.cell? ⟨w1.heap.size, 4, none⟩ = some (.int .i64 size) ∧ w'.cell? ⟨w1.heap.size, 5, none⟩ = some (.int .i64 epoch)) (first | exact HS.out _ (Below.refl _ _) | exact HS.out _ (Below.refl _ _).drew | exact D4.out | exact D3.out | go_keep)
    (first
      | (go_at_call 87; refine (HRE.out w2.drew hba.drew).mono ?_; rintro e w3 ⟨pv, rfl, hrow, hb3⟩; (have hb23 : Below w2.heap.size w2 w3 := (Below.refl w2.heap.size w2).drew.trans hb3); (have D3 := hid (HS.out w3 hb23)); (obtain ⟨pa, pc, rfl, hpc, hprd⟩ := prd_of_pcs hrow); (have HPRD := hid hprd); (have HPC := hid hpc); clear hrow hprd hpc)
      | (go_at_call 55; refine (HJO.out w3 pa pc HPC.out HPRD.out).mono ?_; rintro e w4 ⟨av, cv, rfl, hrd4, hb4⟩; (have hb24 : Below w2.heap.size w2 w4 := hb23.trans (hb4.mono hb23.size)); (have D4 := hid (HS.out w4 hb24)); (have HRD4 := hid hrd4); clear hrd4))
  have hb04 := hba.trans (hb24.mono hba.size)
  go_wp2_with (go_at_call 78; refine (at_nil _ _).mono ?_; rintro e w7 ⟨rfl, rfl⟩)
  go_ret2
  exact ⟨av, cv, rfl, HRD4.out, hb04⟩

/-! The calls of a coffer. -/

/-- A coffer, as it lies. -/
def Cf (w : World) (C V : Nat) : Prop := w.heap[C]? = some (.cells #[.pointer (some ⟨V, 0, none⟩)] 100)

theorem Cf.keeps {own : Nat → Prop} {w w' : World} {C V : Nat} (h : Cf w C V) (hs : Spared own w w') (ho : ¬ own C) : Cf w' C V := hs.heap h ho

set_option maxRecDepth 100000 in
theorem number_nil (w : World) : Calls Tryz.prog 44 #[.nilIface] w fun e w' => e = .returned (.int .i64 0) ∧ w' = w := by
  go_enter Tryz.func44, Tryz.ntmps44
  go_wp2
  go_ret
  exact ⟨rfl, rfl⟩

set_option maxRecDepth 100000 in
theorem copen_any (n key : Nat) (w : World) (h1 : 1 ≤ n) (h8 : n ≤ 8) :
    Calls Tryz.prog 31 #[.int .i64 n, .int .u64 key] w fun e w' => ∃ C w1 ps v, e = .returned (.pointer (some ⟨C, 0, none⟩)) ∧ Opening w key n ps v w1 ∧ C = w1.heap.size ∧ w' = w1.alloc (.cells #[.pointer (some ⟨w.heap.size, 0, none⟩)] 100) := by
  have H := hid (vopen_any n key w h1 h8)
  go_enter Tryz.func31, Tryz.ntmps31
  go_wp2_with fail
  refine H.out.mono ?_
  rintro e w1 ⟨ps, v, rfl, hop⟩
  have HOP := hid hop
  clear hop
  go_wp2
  go_ret
  exact ⟨_, w1, ps, v, rfl, HOP.out, rfl, rfl⟩

set_option maxRecDepth 100000 in
set_option maxHeartbeats 1000000 in
theorem cput_nil (C V : Nat) (mode t l : Int) (nm vl tape : ByteArray) (w : World) (own : Nat → Prop) (R : World → Prop) (h : Cf w C V) (hoC : ¬ own C) (hown : ∀ b, own b → b < w.heap.size)
    (hv : ∀ w1, Below w.heap.size w w1 → Calls Tryz.prog 75 #[.pointer (some ⟨V, 0, none⟩), .string nm, .string vl, .agg #[.int .i64 mode, .int .i64 t, .int .i64 l], .string tape] w1 fun e w' => e = .returned .nilIface ∧ R w' ∧ Spared own w1 w') :
    Calls Tryz.prog 43 #[.pointer (some ⟨C, 0, none⟩), .string nm, .string vl, .agg #[.int .i64 mode, .int .i64 t, .int .i64 l], .string tape] w fun e w' => e = .returned (.int .i64 0) ∧ R w' ∧ Spared own w w' := by
  have hba := (Below.refl w.heap.size w).alloc (Nat.le_refl _) (.cells #[.int .i64 mode, .int .i64 t, .int .i64 l] 29)
  have hl := cells_lt h
  obtain ⟨w1, hw1⟩ : ∃ w1, w1 = w.alloc (.cells #[.int .i64 mode, .int .i64 t, .int .i64 l] 29) := ⟨_, rfl⟩
  have HPB := hid (show w1.heap[w.heap.size]? = some (.cells #[.int .i64 mode, .int .i64 t, .int .i64 l] 29) by rw [hw1]; exact alloc_at _ _)
  rw [← hw1] at hba
  have h1 : Cf w1 C V := h.keeps (Spared.ofBelow (own := fun _ => False) hba (Nat.le_refl _)) (fun h => h)
  have c0 : w1.cell? ⟨C, 0, none⟩ = some (.pointer (some ⟨V, 0, none⟩)) := by rw [cells_at h1]; rfl
  have p0 : w1.cell? ⟨w.heap.size, 0, none⟩ = some (.int .i64 mode) := by rw [cells_at HPB.out]; rfl
  have p1 : w1.cell? ⟨w.heap.size, 1, none⟩ = some (.int .i64 t) := by rw [cells_at HPB.out]; rfl
  have p2 : w1.cell? ⟨w.heap.size, 2, none⟩ = some (.int .i64 l) := by rw [cells_at HPB.out]; rfl
  have HV := hid (hv w1.drew hba.drew)
  have HCF := hid h1
  have HOC := hid hoC
  have HOW := hid (show ¬ own w.heap.size from fun h => by have := hown _ h; omega)
  have HW1 := hid hw1
  clear h hv h1 hoC hown
  go_enter Tryz.func43, Tryz.ntmps43
  go_wp2_with fail
  rw [← HW1.out]
  clear hw1 HW1
  go_region_held3 (fun w' => w'.cell? ⟨C, 0, none⟩ = some (.pointer (some ⟨V, 0, none⟩)) ∧ w'.cell? ⟨w.heap.size, 0, none⟩ = some (.int .i64 mode) ∧ w'.cell? ⟨w.heap.size, 1, none⟩ = some (.int .i64 t) ∧ w'.cell? ⟨w.heap.size, 2, none⟩ = some (.int .i64 l)) (first | exact ⟨c0, p0, p1, p2⟩ | exact D2.out | go_keep)
    (first
      | (go_at_call 75; refine HV.out.mono ?_; rintro e w2 ⟨rfl, hr, hs⟩; (have HR := hid hr); (have HS := hid hs); (have D2 := hid (show w2.cell? ⟨C, 0, none⟩ = some (.pointer (some ⟨V, 0, none⟩)) ∧ w2.cell? ⟨w.heap.size, 0, none⟩ = some (.int .i64 mode) ∧ w2.cell? ⟨w.heap.size, 1, none⟩ = some (.int .i64 t) ∧ w2.cell? ⟨w.heap.size, 2, none⟩ = some (.int .i64 l) from ⟨(World.cell?_of_block (hs.block C (cells_lt HCF.out) HOC.out)).trans c0, (World.cell?_of_block (hs.block _ (cells_lt HPB.out) HOW.out)).trans p0, (World.cell?_of_block (hs.block _ (cells_lt HPB.out) HOW.out)).trans p1, (World.cell?_of_block (hs.block _ (cells_lt HPB.out) HOW.out)).trans p2⟩)); clear hr hs)
      | (go_at_call 44; refine (number_nil _).mono ?_; rintro e w3 ⟨rfl, rfl⟩))
  go_wp2
  go_ret
  exact ⟨rfl, HR.out, ((Spared.ofBelow hba (Nat.le_refl _)).drew).trans HS.out⟩

set_option maxRecDepth 100000 in
theorem crefresh_nil (C V : Nat) (nm tape : ByteArray) (w : World) (R : World → Prop) (h : Cf w C V)
    (hv : Calls Tryz.prog 45 #[.pointer (some ⟨V, 0, none⟩), .string nm, .string tape] w fun e w' => e = .returned .nilIface ∧ R w') :
    Calls Tryz.prog 17 #[.pointer (some ⟨C, 0, none⟩), .string nm, .string tape] w fun e w' => e = .returned (.int .i64 0) ∧ R w' := by
  have c0 : w.cell? ⟨C, 0, none⟩ = some (.pointer (some ⟨V, 0, none⟩)) := by rw [cells_at h]; rfl
  have HV := hid hv
  clear h hv
  go_enter Tryz.func17, Tryz.ntmps17
  go_wp2_with fail
  refine HV.out.mono ?_
  rintro e w1 ⟨rfl, hr⟩
  have HR := hid hr
  clear hr
  go_wp2_with (go_at_call 44; refine (number_nil _).mono ?_; rintro e w2 ⟨rfl, rfl⟩)
  go_ret
  exact ⟨rfl, HR.out⟩
end Go.Proofs.YtcegdgmbponapaaGreatDoor

namespace Go.Proofs.YtcegdgmbponapaaGreatDoor
open Go.RowKit
attribute [local go_sem ↓] Go.wp_at_zero Go.wp_at_succ

set_option maxRecDepth 100000 in
theorem cget_of (C V size : Nat) (nm : ByteArray) (J : List UInt8) (w : World) (h : Cf w C V) (hJ : size = J.length)
    (hv : Calls Tryz.prog 50 #[.pointer (some ⟨V, 0, none⟩), .string nm] w fun e w' => ∃ av cv, e = .returned (.tuple #[.slice av size cv, .nilIface]) ∧ Rd w' av (bs J) ∧ Below w.heap.size w w') :
    Calls Tryz.prog 24 #[.pointer (some ⟨C, 0, none⟩), .string nm] w fun e w' => e = .returned (.tuple #[.string ⟨J.toArray⟩, .int .i64 0]) ∧ Below w.heap.size w w' := by
  have c0 : w.cell? ⟨C, 0, none⟩ = some (.pointer (some ⟨V, 0, none⟩)) := by rw [cells_at h]; rfl
  have HV := hid hv
  have HJ := hid hJ
  clear h hv hJ
  go_enter Tryz.func24, Tryz.ntmps24
  go_wp2_with fail
  refine HV.out.mono ?_
  rintro e w1 ⟨av, cv, rfl, hrd, hb1⟩
  have HRD := hid hrd
  clear hrd
  go_wp2_with (go_at_call 47; refine (told_ok av cv size J _ HJ.out HRD.out).mono ?_; rintro e w2 ⟨rfl, rfl⟩)
  go_ret2
  exact ⟨rfl, hb1⟩

set_option maxRecDepth 100000 in
theorem cshard_of (C V i m : Nat) (nm : ByteArray) (X : List UInt8) (w : World) (h : Cf w C V) (hm : m = X.length)
    (hv : Calls Tryz.prog 48 #[.pointer (some ⟨V, 0, none⟩), .int .i64 i, .string nm] w fun e w' => ∃ av cv, e = .returned (.tuple #[.slice av m cv, .nilIface]) ∧ Rd w' av (bs X) ∧ Below w.heap.size w w') :
    Calls Tryz.prog 22 #[.pointer (some ⟨C, 0, none⟩), .int .i64 i, .string nm] w fun e w' => e = .returned (.tuple #[.string ⟨X.toArray⟩, .int .i64 0]) ∧ Below w.heap.size w w' := by
  have c0 : w.cell? ⟨C, 0, none⟩ = some (.pointer (some ⟨V, 0, none⟩)) := by rw [cells_at h]; rfl
  have HV := hid hv
  have HJ := hid hm
  clear h hv hm
  go_enter Tryz.func22, Tryz.ntmps22
  go_wp2_with fail
  refine HV.out.mono ?_
  rintro e w1 ⟨av, cv, rfl, hrd, hb1⟩
  have HRD := hid hrd
  clear hrd
  go_wp2_with (go_at_call 47; refine (told_ok av cv m X _ HJ.out HRD.out).mono ?_; rintro e w2 ⟨rfl, rfl⟩)
  go_ret2
  exact ⟨rfl, hb1⟩

/-- The shard of store i. -/
theorem One.shard {w : World} {base V key n B bc : Nat} {sp : Nat → Nat} {down : Nat → Bool} {mode t l size epoch : Nat} {nm : ByteArray} {P : Nat → List UInt8} {vs : Nat → Value} {xs : Nat → RecV} (h : One w base V key n B bc sp down mode t l size epoch nm P vs xs) (C i : Nat) (hc : Cf w C V) (hp : IsPlan mode t l n) (hi : i < n) :
    Calls Tryz.prog 22 #[.pointer (some ⟨C, 0, none⟩), .int .i64 i, .string nm] w fun e w' => e = .returned (.tuple #[.string ⟨(Cof.sealed key (Cof.head mode t l n i epoch size nm.data.toList ++ P i)).toArray⟩, .int .i64 0]) ∧ Below w.heap.size w w' := by
  obtain ⟨done, ahead, hvt⟩ := h.vt
  have hR := hvt.rdy hp.n1 hp.n8
  obtain ⟨a, c, _, hst⟩ := (h.st i hi).st
  have hok := h.ok i hi
  have hnm' := hok.e.1
  have hXl : (Cof.sealed key (Cof.head mode t l n i epoch size nm.data.toList ++ P i)).length = 10 + nm.size + (P i).length + 8 := by
    unfold Cof.sealed
    simp [Cof.length_head, Cof.length_high]
    omega
  refine cshard_of C V i (10 + nm.size + (P i).length + 8) nm _ w hc hXl.symm ?_
  refine (vshard_yes V key n B bc sp i (down i) a c [xs i] (xs i) nm w hR hi hst (has_one hnm') (by rw [pos_one hnm']; rfl)).mono ?_
  rintro e w' ⟨rfl, hb⟩
  obtain ⟨sa', sc', hsv, hrd⟩ := owns_rd_size hok.own
  have hsn := hok.sn
  refine ⟨(xs i).sa, (xs i).sc, by rw [hsn], ?_, hb⟩
  cases hsv
  exact hrd.below hb (Nat.le_refl _)

set_option maxRecDepth 100000 in
set_option maxHeartbeats 1000000 in
theorem cobjects_one (C V key n B bc : Nat) (sp : Nat → Nat) (down : Bool) (v : Value) (r : RecV) (w : World) (hc : Cf w C V) (h : Rdy w V key n B bc sp) (hs : Sto w (sp 0) down v [r]) (hnm : r.name.size ≤ 1000) :
    Calls Tryz.prog 27 #[.pointer (some ⟨C, 0, none⟩)] w fun e w' => ∃ ov, e = .returned ov ∧ w'.ownsRow w.heap.size 55 6 ov 1 r.obj ∧ Below w.heap.size w w' := by
  have c0 : w.cell? ⟨C, 0, none⟩ = some (.pointer (some ⟨V, 0, none⟩)) := by rw [cells_at hc]; rfl
  have HV := hid (vobjects_any V key n B bc sp down v [r] w h hs)
  clear hc h hs
  go_enter Tryz.func27, Tryz.ntmps27
  go_wp2_with fail
  refine HV.out.mono ?_
  rintro e w1 ⟨ov, rfl, hown, hb1⟩
  rw [show objs [r] = r.obj by simp [objs], show [r].length = 1 from rfl] at hown
  obtain ⟨g, cap, rfl, hg1, hg2⟩ := row_some hown (by decide)
  have HO := hid hown
  clear hown
  go_wp2_with fail
  go_loopw [12] (fun u wr => ∃ (k : Nat), k ≤ 1 ∧ u = .int .i64 k ∧ Below w1.heap.size w1 wr) (fun u _ => 1 - (intOf u).toNat)
  case atStart => exact ⟨0, Nat.zero_le _, rfl, Below.refl _ _⟩
  case round =>
    obtain ⟨k, hk, rfl, hbr⟩ := hrel
    have hor := owns_below_size HO.out hbr (Nat.le_refl _)
    have q0 : wr.cell? ⟨g, 0, none⟩ = some (.string r.name) := by rw [hor.cellAt 0 (by decide)]; rfl
    by_cases hk0 : k = 0
    · subst hk0
      clear hor
      go_wp2_with fail
      refine (sclone_any r.name wr (by omega)).mono ?_
      rintro e w4 ⟨rfl, hb4⟩
      have hbr4 := hbr.trans (hb4.mono hbr.size)
      have hor4 := owns_below_size HO.out hbr4 (Nat.le_refl _)
      have q4 : w4.cell? ⟨g, 0, none⟩ = some (.string r.name) := by rw [hor4.cellAt 0 (by decide)]; rfl
      have f4 : w4.frozen? ⟨g, 0, none⟩ = false := hor4.frozenAt 0
      have HSS := hid (setCell_self q4)
      clear hor4
      go_wp2_with fail
      go_roundw
      case rel => exact ⟨1, Nat.le_refl _, by go_num, by rw [HSS.out]; exact hbr4⟩
      case measure => simp [intOf]
    · have hk1 : k = 1 := by omega
      subst hk1
      have HOR := hid hor
      clear hor
      go_wp2_with fail
      go_ret
      exact ⟨_, rfl, HOR.out, hb1.trans (hbr.mono hb1.size)⟩

/-- What an opened coffer has, for a Put. -/
theorem Opening.parts {w w1 : World} {key n : Nat} {ps : List Nat} {v : Value} (h : Opening w key n ps v w1) (h1 : 1 ≤ n) : ∃ B bc, Vt w1 w.heap.size key n B bc (fun i => ps[i]!) 0 false 0 false ∧ (∀ i, i < n → Sto w1 (ps[i]!) false (.slice none 0 0) []) ∧ (∀ i j, i < j → j < n → ps[i]! ≠ ps[j]!) ∧ w.heap.size ≤ B ∧ ∀ i, i < n → w.heap.size ≤ ps[i]! := by
  obtain ⟨g, cap, rfl, hg1, hg2⟩ := row_some h.row (by omega)
  have hlen := h.len
  rcases h.row with ⟨_, ⟨hx, _⟩ | ⟨g', cap', cur, hv, _, h4, _, _, _, h8⟩⟩
  · cases hx
  · cases hv
    have hmem : ∀ i, i < n → ps[i]! ∈ ps := fun i hi => by rw [getElem!_pos ps i (by omega)]; exact List.getElem_mem _
    refine ⟨g, cap, ⟨h.hp, cur, h4, fun i hi => ?_⟩, fun i hi => ⟨(h.st _ (hmem i hi)).1, ⟨rfl, .inl ⟨rfl, rfl⟩⟩, sorted_nil, by simp⟩, fun i j hij hj e => ?_, hg1, fun i hi => Nat.le_of_lt (h.st _ (hmem i hi)).2⟩
    · have e1 : (cur.toList.take (n * 1))[i]? = (ptrs ps)[i]? := by rw [h8]
      rw [List.getElem?_take, if_pos (by omega)] at e1
      rw [← Array.getElem?_toList, e1, getElem!_pos ps i (by omega)]
      simp [ptrs, show i < ps.length by omega]
    · rw [getElem!_pos ps i (by omega), getElem!_pos ps j (by omega)] at e
      exact List.pairwise_iff_getElem.1 h.nd i j (by omega) (by omega) hij e
end Go.Proofs.YtcegdgmbponapaaGreatDoor
