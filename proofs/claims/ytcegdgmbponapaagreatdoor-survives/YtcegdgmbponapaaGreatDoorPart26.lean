/-
  A new object: the checks, and its pieces.
  The pieces of a value that can be put.
-/
import Derived.Test.YtcegdgmbponapaaGreatDoorPart25
namespace Go.Proofs.YtcegdgmbponapaaGreatDoor
open Go.RowKit
attribute [local go_sem ↓] Go.wp_at_zero Go.wp_at_succ

set_option maxRecDepth 100000 in
set_option maxHeartbeats 1000000 in
theorem checkNew_ok (V key n B bc : Nat) (sp : Nat → Nat) (down : Bool) (v : Value) (rs : List RecV) (mode t l size : Nat) (nm : ByteArray) (w : World) (h : Rdy w V key n B bc sp) (hs : Sto w (sp 0) down v rs) (hno : hasName rs nm = false) (hfew : rs.length < 10)
    (hp : IsPlan mode t l n) (hz : size ≤ 60) (h1 : 1 ≤ nm.size) (h12 : nm.size ≤ 12) (hng : Cof.ngroups mode t l size ≤ 60) :
    Calls Tryz.prog 170 #[.pointer (some ⟨V, 0, none⟩), .agg #[.string nm, .int .i64 mode, .int .i64 t, .int .i64 l, .int .i64 size, .int .i64 0]] w fun e w' => e = .returned .nilIface ∧ Below w.heap.size w w' := by
  have hba := (Below.refl w.heap.size w).alloc (Nat.le_refl _) (.cells #[.string nm, .int .i64 mode, .int .i64 t, .int .i64 l, .int .i64 size, .int .i64 0] 55)
  have hR := h.keeps hba (Nat.le_refl _)
  have c5 := hR.c5
  have HC := hid (check_fine V _ c5)
  have HLB := hid (label_any V key n B 0 bc sp 0 mode t l size 0 nm _ hR.va)
  have HLN := hid (fun w' => llen_ok mode t l n 0 0 size nm w' hp hz h1 h12 hng)
  have HS := hid hs
  have HR := hid hR
  have HNO := hid hno
  have hVlt : ¬ V = w.heap.size := by have := h.va.lt; omega
  have hfew' : ¬ (10 : Int) ≤ (rs.length : Int) := by omega
  generalize Cof.ngroups mode t l size = ng at *
  clear h hs hno hp hz hR hfew
  go_enter Tryz.func170, Tryz.ntmps170
  go_wp2_with (first | (go_at_call 88; refine HC.out.mono ?_; rintro e w0 ⟨rfl, rfl⟩))
  refine HLB.out.mono ?_
  rintro e w1 ⟨rfl, hb1⟩
  have hb01 : Below w.heap.size w w1 := hba.trans (hb1.mono (by simp))
  have hz1 : w.heap.size < w1.heap.size := by have := hb1.size; simp at this; omega
  have e1 : ∀ o, w1.cell? ⟨w.heap.size, o, none⟩ = (w.alloc (.cells #[.string nm, .int .i64 mode, .int .i64 t, .int .i64 l, .int .i64 size, .int .i64 0] 55)).cell? ⟨w.heap.size, o, none⟩ := fun o => hb1.cell (by simp)
  have o1 : w1.cell? ⟨w.heap.size, 0, none⟩ = some (.string nm) := by rw [e1]; simp
  have HR1 := hid (HR.out.keeps hb1 (Nat.le_refl _))
  clear e1
  go_wp2_with fail
  refine (HLN.out w1).mono ?_
  rintro e w2 ⟨rfl, hb2⟩
  have hb02 := hb01.trans (hb2.mono hb01.size)
  have o2 : w2.cell? ⟨w.heap.size, 0, none⟩ = some (.string nm) := (hb2.cell hz1).trans o1
  have HR2 := hid (HR1.out.keeps hb2 (Nat.le_refl _))
  have HS2 := hid (HS.out.keeps (Spared.ofBelow (own := fun _ => False) hb02 (Nat.le_refl _)) (fun h => h) (fun _ _ h => h))
  obtain ⟨a, c, hv, hst⟩ := HS2.out.st
  have hz2 : w.heap.size < w2.heap.size := Nat.lt_of_lt_of_le hz1 hb2.size
  go_wp2_with fail
  refine (object_no V key n B bc sp down a c rs nm w2 HR2.out hst HNO.out).mono ?_
  rintro e w3 ⟨ev, rfl, hch, hb3⟩
  have hb03 := hb02.trans (hb3.mono hb02.size)
  have o3 : w3.cell? ⟨w.heap.size, 0, none⟩ = some (.string nm) := (hb3.cell hz2).trans o2
  obtain ⟨te, ve, rfl⟩ := hch.shape
  have HCH := hid hch
  have HR3 := hid (HR2.out.keeps hb3 (Nat.le_refl _))
  have HS3 := hid (HS2.out.keeps (Spared.ofBelow (own := fun _ => False) hb3 (Nat.le_refl _)) (fun h => h) (fun _ _ h => h))
  clear hch hst hv
  go_wp2_with fail
  have hba4 := (Below.refl w3.heap.size w3).alloc (Nat.le_refl _) (.cells #[.string ByteArray.empty, .int .i64 0, .int .i64 0, .int .i64 0, .int .i64 0, .int .i64 0] 55)
  refine (Is_any 9 9 _ 1 _ (HCH.out.keeps hba4 (Nat.le_refl _)) (by decide)).mono ?_
  rintro e w4 ⟨rfl, rfl⟩
  have HV := hid (vobjects_any V key n B bc sp down v rs _ (HR3.out.keeps hba4 (Nat.le_refl _)) (HS3.out.keeps (Spared.ofBelow (own := fun _ => False) hba4 (Nat.le_refl _)) (fun h => h) (fun _ _ h => h)))
  go_wp2_with fail
  refine HV.out.mono ?_
  rintro e w5 ⟨ov, rfl, hown, hb5⟩
  obtain ⟨oa, oc, rfl, _⟩ := owns_rd_size hown
  have hb05 := (hb03.trans (hba4.mono hb03.size)).trans (hb5.mono (by have := hb03.size; simp; omega))
  clear hown
  go_wp2_with fail
  go_ret
  exact ⟨rfl, hb05⟩
end Go.Proofs.YtcegdgmbponapaaGreatDoor

namespace Go.Proofs.YtcegdgmbponapaaGreatDoor
open Go.RowKit
attribute [local go_sem ↓] Go.wp_at_zero Go.wp_at_succ

set_option maxRecDepth 100000 in
set_option maxHeartbeats 1000000 in
theorem cut_ok (V key n B bc : Nat) (sp : Nat → Nat) (down : Bool) (v : Value) (rs : List RecV) (mode t l size : Nat) (nm vl tape : ByteArray) (w : World) (h : Rdy w V key n B bc sp) (hs : Sto w (sp 0) down v rs) (hno : hasName rs nm = false) (hfew : rs.length < 10)
    (hp : IsPlan mode t l n) (hz : size ≤ 60) (hvs : vl.size = size) (h1 : 1 ≤ nm.size) (h12 : nm.size ≤ 12) (hng : Cof.ngroups mode t l size ≤ 60) (htp : Cof.tsize mode t * Cof.ngroups mode t l size ≤ tape.size)
    (hup : ∀ i, i < n → w.cell? ⟨sp i, 0, none⟩ = some (.bool false)) (hlt : ∀ i, i < n → sp i < w.heap.size) :
    Calls Tryz.prog 125 #[.pointer (some ⟨V, 0, none⟩), .agg #[.string nm, .int .i64 mode, .int .i64 t, .int .i64 l, .int .i64 size, .int .i64 0], .string vl, .string tape] w fun e w' =>
      ∃ g, e = .returned (.tuple #[.slice (some ⟨g, 0, none⟩) n n, .nilIface]) ∧ RdRows w' (some ⟨g, 0, none⟩) (Cof.split vl.data.toList mode t l n tape.data.toList) ∧ Below w.heap.size w w' := by
  have hba := (Below.refl w.heap.size w).alloc (Nat.le_refl _) (.cells #[.string nm, .int .i64 mode, .int .i64 t, .int .i64 l, .int .i64 size, .int .i64 0] 55)
  have HCN := hid (checkNew_ok V key n B bc sp down v rs mode t l size nm _ (h.keeps hba (Nat.le_refl _)) (hs.keeps (Spared.ofBelow (own := fun _ => False) hba (Nat.le_refl _)) (fun h => h) (fun _ _ h => h)) hno hfew hp hz h1 h12 hng)
  have HSP := hid (fun w' => cutSplit_ok mode t l n vl tape w' hp (by omega) (by rw [hvs]; exact htp))
  have HR := hid h
  have HUP := hid hup
  have HLT := hid hlt
  generalize Cof.split vl.data.toList mode t l n tape.data.toList = rows at *
  clear h hs hno hfew hp hz hvs hng htp hup hlt h1 h12
  go_enter Tryz.func125, Tryz.ntmps125
  go_wp2_with fail
  refine HCN.out.mono ?_
  rintro e w1 ⟨rfl, hb1⟩
  have hb01 : Below w.heap.size w w1 := hba.trans (hb1.mono (by simp))
  have hz1 : w.heap.size < w1.heap.size := by have := hb1.size; simp at this; omega
  have e1 : ∀ o, w1.cell? ⟨w.heap.size, o, none⟩ = (w.alloc (.cells #[.string nm, .int .i64 mode, .int .i64 t, .int .i64 l, .int .i64 size, .int .i64 0] 55)).cell? ⟨w.heap.size, o, none⟩ := fun o => hb1.cell (by simp)
  have o1 : w1.cell? ⟨w.heap.size, 1, none⟩ = some (.int .i64 mode) := by rw [e1]; simp
  have o2 : w1.cell? ⟨w.heap.size, 2, none⟩ = some (.int .i64 t) := by rw [e1]; simp
  have o3 : w1.cell? ⟨w.heap.size, 3, none⟩ = some (.int .i64 l) := by rw [e1]; simp
  have HR1 := hid (HR.out.keeps hb01 (Nat.le_refl _))
  have c1 := HR1.out.va.c1
  have lV := HR1.out.va.lt
  have hn8 := HR1.out.n8
  clear e1
  go_wp2_with fail
  go_region_held3 (fun w' => w'.cell? ⟨V, 1, none⟩ = some (.slice (some ⟨B, 0, none⟩) n bc) ∧ w'.cell? ⟨w.heap.size, 1, none⟩ = some (.int .i64 mode) ∧ w'.cell? ⟨w.heap.size, 2, none⟩ = some (.int .i64 t) ∧ w'.cell? ⟨w.heap.size, 3, none⟩ = some (.int .i64 l)) (first | exact ⟨c1, o1, o2, o3⟩ | exact D2.out | go_keep)
    (first | (go_at_call 53; refine (HSP.out _).mono ?_; rintro e w2 ⟨g, rfl, hrows, hb2, _⟩; (have hb12 : Below w1.heap.size w1 w2 := (Below.refl w1.heap.size w1).drew.trans hb2); (have D2 := hid (show w2.cell? ⟨V, 1, none⟩ = some (.slice (some ⟨B, 0, none⟩) n bc) ∧ w2.cell? ⟨w.heap.size, 1, none⟩ = some (.int .i64 mode) ∧ w2.cell? ⟨w.heap.size, 2, none⟩ = some (.int .i64 t) ∧ w2.cell? ⟨w.heap.size, 3, none⟩ = some (.int .i64 l) from ⟨(hb12.cell lV).trans c1, (hb12.cell hz1).trans o1, (hb12.cell hz1).trans o2, (hb12.cell hz1).trans o3⟩)); (have HROWS := hid hrows); clear hrows))
  have hb02 := hb01.trans (hb12.mono hb01.size)
  have HAU := hid (allUp_yes V key n B 0 bc sp w2 (HR1.out.va.keeps hb12 (Nat.le_refl _)) hn8 (fun i hi => (hb02.cell (HLT.out i hi)).trans (HUP.out i hi)))
  go_wp2_with (go_at_call 104; refine HAU.out.mono ?_; rintro e w3 ⟨rfl, rfl⟩)
  go_ret2
  exact ⟨g, rfl, HROWS.out, hb02⟩
end Go.Proofs.YtcegdgmbponapaaGreatDoor
