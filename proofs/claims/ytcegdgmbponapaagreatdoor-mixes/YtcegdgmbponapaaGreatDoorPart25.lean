/-
  The objects of a vault.
  A new object: the checks, and its pieces.
-/
import Derived.Test.YtcegdgmbponapaaGreatDoorPart24
namespace Go.Proofs.YtcegdgmbponapaaGreatDoor
open Go.RowKit
attribute [local go_sem ↓] Go.wp_at_zero Go.wp_at_succ

theorem recs_one_cell (rs : List RecV) (u : Value) (h : u ∈ recs rs) : u.oneCell' = true := by
  simp only [recs, List.mem_flatMap] at h
  obtain ⟨r, _, hr⟩ := h
  simp [RecV.cells] at hr
  rcases hr with rfl | rfl | rfl | rfl | rfl | rfl | rfl | rfl <;> rfl

set_option maxRecDepth 100000 in
theorem cloneR (b : Addr) (n c : Nat) (rs : List RecV) (w : World) (hsp : b.spot = none) (en : n = rs.length) (hr : Rd w (some b) (recs rs)) (hn : n ≤ 10) :
    Calls Tryz.prog 141 #[.slice (some b) n c] w fun e w' => ∃ v, e = .returned v ∧ w'.ownsRow w.heap.size 152 8 v n (recs rs) ∧ Below w.heap.size w w' := by
  obtain ⟨i0, hi, hz0, hz1, hz2⟩ := info_parts Tryz.infoR
  have HL := hid (show (recs rs).length = n * 8 by rw [recs_length, en])
  have hba := (Below.refl w.heap.size w).alloc (Nat.le_refl _) (.cells #[] 152)
  have HR := hid (hr.below hba (Nat.le_refl _))
  have hq := Lib.run_eql_slice_nil (P := Tryz.prog) w 145 152 (some b) n c 0 0 Tryz.underlying145
  have HE := hid (show (w.alloc (.cells #[] 152)).ownsRow w.heap.size 152 8 (.slice (some ⟨w.heap.size, 0, none⟩) 0 0) 0 [] from ⟨rfl, .inr ⟨w.heap.size, 0, #[], rfl, Nat.le_refl _, alloc_at _ _, Nat.le_refl _, by unfold maxLen; omega, rfl, rfl⟩⟩)
  obtain ⟨bb, bo, _⟩ := b
  cases hsp
  clear en hr
  go_enter Tryz.func141, Tryz.ntmps141
  go_wp2_with (first | (at_builtin; refine wpList_append_own _ rfl (.tmp 5) (.tmp 6) 145 rfl w.heap.size 152 i0 _ 8 104 Tryz.underlying145 hi hz0 hz1 hz2 rfl (by decide) _ 0 [] rfl HE.out ⟨bb, bo, none⟩ n c (recs rs) rfl HL.out (fun j u hj => by obtain ⟨b', o', e1, _, e3⟩ := HR.out j u hj; cases e1; rw [add_at]; exact e3) (fun u hu => recs_one_cell rs u hu) (by unfold maxLen; omega) (by omega) (by simp) ?_; intro v2 w2 hown2 hgrow2 _; rw [Nat.zero_add, List.nil_append] at hown2; have hb2 : Below w.heap.size w w2 := hba.grown hgrow2 (by simp) (fun k hk => (HE.out.lt k hk).1); have HO2 := hid hown2; clear hown2 hgrow2) | fail)
  go_ret
  exact ⟨_, rfl, HO2.out, hb2⟩

set_option maxRecDepth 100000 in
theorem cloneR_nil (n c : Nat) (w : World) :
    Calls Tryz.prog 141 #[.slice none n c] w fun e w' => e = .returned (.slice none 0 0) ∧ w' = w := by
  have hq := Lib.run_eql_slice_nil (P := Tryz.prog) w 145 152 none n c 0 0 Tryz.underlying145
  go_enter Tryz.func141, Tryz.ntmps141
  go_wp2
  go_ret
  exact ⟨rfl, rfl⟩

set_option maxRecDepth 100000 in
theorem srecords_any (S : Nat) (down : Bool) (v : Value) (rs : List RecV) (w : World) (h : Sto w S down v rs) :
    Calls Tryz.prog 89 #[.pointer (some ⟨S, 0, none⟩)] w fun e w' => ∃ v, e = .returned v ∧ w'.ownsRow w.heap.size 152 8 v rs.length (recs rs) ∧ Below w.heap.size w w' := by
  obtain ⟨a, c, hv, hst⟩ := h.st
  have c1 := hst.c1
  rcases h.row with ⟨_, ⟨hv0, h0⟩ | ⟨g, cap, cur, hv2, _, h4, _⟩⟩
  · have hrs : rs = [] := List.length_eq_zero_iff.1 h0
    subst hrs
    rw [hv] at hv0
    cases hv0
    clear h hst
    go_enter Tryz.func89, Tryz.ntmps89
    go_wp2_with (go_at_call 141; refine (cloneR_nil 0 0 w).mono ?_; rintro e w1 ⟨rfl, rfl⟩)
    go_ret
    exact ⟨_, rfl, ⟨rfl, .inl ⟨rfl, rfl⟩⟩, Below.refl _ _⟩
  · rw [hv] at hv2
    obtain ⟨rfl, _, rfl⟩ := (by simpa using hv2 : a = some ⟨g, 0, none⟩ ∧ True ∧ c = cap)
    have HC := hid (cloneR ⟨g, 0, none⟩ rs.length c rs w rfl rfl hst.rd h.le)
    clear h hst
    go_enter Tryz.func89, Tryz.ntmps89
    go_wp2_with (go_at_call 141; refine HC.out.mono ?_; rintro e w1 ⟨v1, rfl, hown, hb1⟩; have HO := hid hown; clear hown)
    go_ret
    exact ⟨_, rfl, HO.out, hb1⟩

def RecV.obj (r : RecV) : List Value := [.string r.name, .int .i64 r.mode, .int .i64 r.t, .int .i64 r.l, .int .i64 r.size, .int .i64 r.epoch]
def objs (rs : List RecV) : List Value := rs.flatMap RecV.obj
theorem Tryz.infoO : (Tryz.prog.info? 55).map (fun i => (i.zero, i.size, i.bytes)) = some (some (.agg #[.string ByteArray.empty, .int .i64 0, .int .i64 0, .int .i64 0, .int .i64 0, .int .i64 0]), 6, 56) := by kernel_rfl

theorem objs_take (rs : List RecV) (k : Nat) (hk : k < rs.length) : objs (rs.take (k + 1)) = objs (rs.take k) ++ (rs[k]!).obj := by
  rw [List.take_add_one, getElem!_pos rs k hk, List.getElem?_eq_getElem hk]
  unfold objs
  rw [List.flatMap_append]
  simp

set_option maxRecDepth 100000 in
set_option maxHeartbeats 1000000 in
theorem vobjects_any (V key n B bc : Nat) (sp : Nat → Nat) (down : Bool) (v : Value) (rs : List RecV) (w : World) (h : Rdy w V key n B bc sp) (hs : Sto w (sp 0) down v rs) :
    Calls Tryz.prog 51 #[.pointer (some ⟨V, 0, none⟩)] w fun e w' =>
      ∃ ov, e = .returned ov ∧ w'.ownsRow w.heap.size 55 6 ov rs.length (objs rs) ∧ Below w.heap.size w w' := by
  obtain ⟨i0, hi, hz0, hz1, hz2⟩ := info_parts Tryz.infoO
  have c5 := h.c5
  have c1 := h.va.c1
  have k0 := h.st 0 (by have := h.n1; omega)
  have HC := hid (check_fine V _ c5)
  have HREC := hid (srecords_any (sp 0) down v rs w hs)
  have hn1 : (0 : Int) < (n : Int) := by have := h.n1; omega
  have hle := hs.le
  clear h hs
  obtain ⟨m, hm⟩ : ∃ m, m = rs.length := ⟨_, rfl⟩
  rw [← hm] at HREC hle ⊢
  have HM := hid hm
  clear hm
  go_enter Tryz.func51, Tryz.ntmps51
  go_wp2_with (go_at_call 88; refine HC.out.mono ?_; rintro e w0 ⟨rfl, rfl⟩)
  refine HREC.out.mono ?_
  rintro e w1 ⟨rv, rfl, hrow, hb1⟩
  obtain ⟨ra, rc, rfl, hrd⟩ := owns_rd_size hrow
  have HRD := hid hrd
  clear hrow hrd
  go_wp2_with fail
  go_loopw [3, 19] (fun ov u wr => ∃ (k : Nat), k ≤ m ∧ u = .int .i64 k ∧ wr.ownsRow w1.heap.size 55 6 ov k (objs (rs.take k)) ∧ Below w1.heap.size w1 wr) (fun _ u _ => m - (intOf u).toNat)
  case atStart => exact ⟨0, Nat.zero_le _, rfl, ⟨rfl, .inl ⟨rfl, rfl⟩⟩, Below.refl _ _⟩
  case round =>
    obtain ⟨k, hk, rfl, hrow, hbr⟩ := hrel
    by_cases hlt : k < m
    · obtain ⟨b, o, rfl, hb, _⟩ := HRD.out.pos (by rw [recs_length, ← HM.out]; omega)
      obtain ⟨_, r0, r1, r2, r3, r4, r5, r6, r7⟩ := rec_at (HRD.out.below hbr (Nat.le_refl _)) k (by rw [← HM.out]; exact hlt)
      have HX := hid (objs_take rs k (by rw [← HM.out]; exact hlt))
      generalize rs[k]! = r at *
      have hlt' : (k : Int) < (m : Int) := by omega
      have HROW := hid hrow
      have hba1 := (Below.refl wr.heap.size wr).alloc (Nat.le_refl _) (.cells #[.string r.name, .int .i64 r.mode, .int .i64 r.t, .int .i64 r.l, .int .i64 r.size, .int .i64 r.epoch, .slice r.sa r.sn r.sc, .slice r.na r.nn r.nc] 152)
      have hba2 := hba1.alloc (by simp) (.cells #[.string r.name, .int .i64 r.mode, .int .i64 r.t, .int .i64 r.l, .int .i64 r.size, .int .i64 r.epoch] 55)
      have HRW2 := hid (owns_below_size hrow hba2 (Nat.le_refl _))
      clear hrow
      go_wp2_with (first | (at_builtin; refine wpList_append_own _ rfl (.tmp 23) (.tmp 26) 52 rfl w1.heap.size 55 i0 _ 6 56 Tryz.underlying52 hi hz0 hz1 hz2 rfl (by decide) _ k (objs (rs.take k)) rfl HRW2.out ⟨wr.heap.size + 1, 0, none⟩ 1 1 r.obj rfl rfl (fun j u hj => by rw [add_at, World.cell?_alloc_at _ _ _ _ (by simp), Nat.zero_add]; simpa [RecV.obj] using hj) (fun u hu => by simp [RecV.obj] at hu; rcases hu with rfl | rfl | rfl | rfl | rfl | rfl <;> rfl) (by unfold maxLen; omega) (by omega) (by have := hbr.size; simp; omega) ?_; intro v2 w2 hown2 hgrow2 _; (have HO2 := hid hown2); (have HB2 := hid ((hbr.trans (hba2.mono hbr.size)).grown hgrow2 (by have := hbr.size; simp; omega) (fun q hq => (HRW2.out.lt q hq).1))); clear hown2 hgrow2) | fail)
      go_roundw
      case rel => exact ⟨k + 1, by omega, by go_num, by rw [HX.out]; exact HO2.out, HB2.out⟩
      case measure => simp [intOf]; omega
    · have hkm : k = m := by omega
      subst hkm
      have HROW := hid hrow
      clear hrow
      go_wp2
      go_ret
      refine ⟨_, rfl, ?_, hb1.trans (hbr.mono hb1.size)⟩
      have := HROW.out
      rw [List.take_of_length_le (Nat.le_of_eq HM.out.symm)] at this
      exact World.ownsRow.mono this hb1.size
end Go.Proofs.YtcegdgmbponapaaGreatDoor

namespace Go.Proofs.YtcegdgmbponapaaGreatDoor
open Go.RowKit
attribute [local go_sem ↓] Go.wp_at_zero Go.wp_at_succ

set_option maxRecDepth 100000 in
set_option maxHeartbeats 1000000 in
theorem checkNew_ok (V key n B bc : Nat) (sp : Nat → Nat) (down : Bool) (v : Value) (rs : List RecV) (mode t l size : Nat) (nm : ByteArray) (w : World) (h : Rdy w V key n B bc sp) (hs : Sto w (sp 0) down v rs) (hno : hasName rs nm = false) (hfew : rs.length < 10)
    (hp : IsPlan mode t l n) (hz : size ≤ 60) (h1 : 1 ≤ nm.size) (h12 : nm.size ≤ 12) (hng : Cof.ngroups mode t l size ≤ 60) :
    Calls Tryz.prog 170 #[.pointer (some ⟨V, 0, none⟩), .agg #[.string nm, .int .i64 mode, .int .i64 t, .int .i64 l, .int .i64 size, .int .i64 0]] w fun e w' => e = .returned .nilIface ∧ Below w.heap.size w w' := by
  have hba := (Below.refl w.heap.size w).alloc (Nat.le_refl _) (.cells #[.string nm, .int .i64 mode, .int .i64 t, .int .i64 l, .int .i64 size, .int .i64 0] 55)
  have hR := h.keeps hba (Nat.le_refl _)
  have c5 := hR.c5
  have HC := hid (check_fine V _ c5)
  have HLB := hid (label_any V key n B 0 bc sp 0 mode t l size 0 nm _ hR.va)
  have HLN := hid (fun w' => llen_ok mode t l n 0 0 size nm w' hp hz h1 h12 hng)
  have HS := hid hs
  have HR := hid hR
  have HNO := hid hno
  have hVlt : ¬ V = w.heap.size := by have := h.va.lt; omega
  have hfew' : ¬ (10 : Int) ≤ (rs.length : Int) := by omega
  generalize Cof.ngroups mode t l size = ng at *
  clear h hs hno hp hz hR hfew
  go_enter Tryz.func170, Tryz.ntmps170
  go_wp2_with (first | (go_at_call 88; refine HC.out.mono ?_; rintro e w0 ⟨rfl, rfl⟩))
  refine HLB.out.mono ?_
  rintro e w1 ⟨rfl, hb1⟩
  have hb01 : Below w.heap.size w w1 := hba.trans (hb1.mono (by simp))
  have hz1 : w.heap.size < w1.heap.size := by have := hb1.size; simp at this; omega
  have e1 : ∀ o, w1.cell? ⟨w.heap.size, o, none⟩ = (w.alloc (.cells #[.string nm, .int .i64 mode, .int .i64 t, .int .i64 l, .int .i64 size, .int .i64 0] 55)).cell? ⟨w.heap.size, o, none⟩ := fun o => hb1.cell (by simp)
  have o1 : w1.cell? ⟨w.heap.size, 0, none⟩ = some (.string nm) := by rw [e1]; simp
  have HR1 := hid (HR.out.keeps hb1 (Nat.le_refl _))
  clear e1
  go_wp2_with fail
  refine (HLN.out w1).mono ?_
  rintro e w2 ⟨rfl, hb2⟩
  have hb02 := hb01.trans (hb2.mono hb01.size)
  have o2 : w2.cell? ⟨w.heap.size, 0, none⟩ = some (.string nm) := (hb2.cell hz1).trans o1
  have HR2 := hid (HR1.out.keeps hb2 (Nat.le_refl _))
  have HS2 := hid (HS.out.keeps (Spared.ofBelow (own := fun _ => False) hb02 (Nat.le_refl _)) (fun h => h) (fun _ _ h => h))
  obtain ⟨a, c, hv, hst⟩ := HS2.out.st
  have hz2 : w.heap.size < w2.heap.size := Nat.lt_of_lt_of_le hz1 hb2.size
  go_wp2_with fail
  refine (object_no V key n B bc sp down a c rs nm w2 HR2.out hst HNO.out).mono ?_
  rintro e w3 ⟨ev, rfl, hch, hb3⟩
  have hb03 := hb02.trans (hb3.mono hb02.size)
  have o3 : w3.cell? ⟨w.heap.size, 0, none⟩ = some (.string nm) := (hb3.cell hz2).trans o2
  obtain ⟨te, ve, rfl⟩ := hch.shape
  have HCH := hid hch
  have HR3 := hid (HR2.out.keeps hb3 (Nat.le_refl _))
  have HS3 := hid (HS2.out.keeps (Spared.ofBelow (own := fun _ => False) hb3 (Nat.le_refl _)) (fun h => h) (fun _ _ h => h))
  clear hch hst hv
  go_wp2_with fail
  have hba4 := (Below.refl w3.heap.size w3).alloc (Nat.le_refl _) (.cells #[.string ByteArray.empty, .int .i64 0, .int .i64 0, .int .i64 0, .int .i64 0, .int .i64 0] 55)
  refine (Is_any 9 9 _ 1 _ (HCH.out.keeps hba4 (Nat.le_refl _)) (by decide)).mono ?_
  rintro e w4 ⟨rfl, rfl⟩
  have HV := hid (vobjects_any V key n B bc sp down v rs _ (HR3.out.keeps hba4 (Nat.le_refl _)) (HS3.out.keeps (Spared.ofBelow (own := fun _ => False) hba4 (Nat.le_refl _)) (fun h => h) (fun _ _ h => h)))
  go_wp2_with fail
  refine HV.out.mono ?_
  rintro e w5 ⟨ov, rfl, hown, hb5⟩
  obtain ⟨oa, oc, rfl, _⟩ := owns_rd_size hown
  have hb05 := (hb03.trans (hba4.mono hb03.size)).trans (hb5.mono (by have := hb03.size; simp; omega))
  clear hown
  go_wp2_with fail
  go_ret
  exact ⟨rfl, hb05⟩
end Go.Proofs.YtcegdgmbponapaaGreatDoor
