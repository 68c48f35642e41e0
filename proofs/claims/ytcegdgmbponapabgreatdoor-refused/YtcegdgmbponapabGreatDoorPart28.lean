/-
  Split, where it refuses.
  A new object that is refused: the checks, Put.
  A shard with one byte changed is told: each step of the tag is one to one.
-/
import Derived.Test.YtcegdgmbponapabGreatDoorPart08
import Derived.BigQuiet
import Derived.Test.YtcegdgmbponapabGreatDoorPart27
import Derived.Test.YtcegdgmbponapabGreatDoorPart15
namespace Go.Proofs.YtcegdgmbponapabGreatDoor
open Go.RowKit
attribute [local go_sem ↓] Go.wp_at_zero Go.wp_at_succ

set_option maxRecDepth 100000 in
theorem checkTape_bad (tape : ByteArray) (need : Nat) (w : World) (h : tape.size < need) (hn : need ≤ 1000) (hT : Tab w) :
    Calls Tryz.prog 116 #[.string tape, .int .i64 need] w fun e w' => ∃ ev, e = .returned ev ∧ Chain w' 7 1 ev ∧ Below w.heap.size w w' := by
  have h1 : ¬ (need : Int) ≤ (tape.size : Int) := by omega
  have HS := hid (show I64 (tape.size : Int) by unfold I64; omega)
  go_enter Tryz.func116, Tryz.ntmps116
  go_wp2_with (go_at_call 77; refine (atCount_any _ _ _ 7 0 _ HS.out (by decide) hT .hit).mono ?_; rintro e w3 ⟨ev, rfl, hch, hb3⟩)
  go_ret
  exact ⟨_, rfl, hch, hb3⟩

set_option maxRecDepth 100000 in
set_option maxHeartbeats 1000000 in
theorem cutSplit_refused (m t l n : Int) (v tape : ByteArray) (k : Int) (w : World) (hT : Tab w)
    (h : ∀ w, Tab w → Calls Tryz.prog 99 #[.agg #[.int .i64 m, .int .i64 t, .int .i64 l], .int .i64 n, .int .i64 v.size] w fun e w' => ∃ ev, e = .returned (.tuple #[noLay, ev]) ∧ Chain w' k 1 ev ∧ Below w.heap.size w w') :
    Calls Tryz.prog 88 #[.string v, .agg #[.int .i64 m, .int .i64 t, .int .i64 l], .int .i64 n, .string tape] w fun e w' =>
      ∃ ev, e = .returned (.tuple #[.slice none 0 0, ev]) ∧ Chain w' k 2 ev ∧ Below w.heap.size w w' := by
  have hba := (Below.refl w.heap.size w).alloc (Nat.le_refl _) (.cells #[.int .i64 m, .int .i64 t, .int .i64 l] 29)
  have HH := hid (h _ (hT.keeps hba (Nat.le_refl _)))
  clear h hT
  go_enter Tryz.func88, Tryz.ntmps88
  go_wp2_with fail
  refine HH.out.mono ?_
  rintro e w1 ⟨ev, rfl, hch, hb1⟩
  obtain ⟨te, ve, rfl⟩ := hch.shape
  have hbl := (Below.refl w1.heap.size w1).alloc (Nat.le_refl _) (.cells #[.slice none 0 0, .slice none 0 0, .int .i64 0] 181)
  have HC := hid (hch.keeps hbl (Nat.le_refl _))
  unfold noLay
  clear hch
  go_wp2_with (go_at_call 53; refine (at_chain _ _ k 1 _ HC.out).mono ?_; rintro e w3 ⟨ev, rfl, hch, hb3⟩)
  go_ret2
  exact ⟨_, rfl, hch, ((hba.trans (hb1.mono (by simp))).trans (hbl.mono (by have := hb1.size; simp at this; omega))).trans (hb3.mono (by have := hb1.size; simp at this; simp; omega))⟩

set_option maxRecDepth 100000 in
set_option maxHeartbeats 1000000 in
theorem cutSplit_tape (mode t l n : Nat) (v tape : ByteArray) (w : World) (hT : Tab w) (h : IsPlan mode t l n) (hv : v.size ≤ 60) (hsh : tape.size < Cof.tsize mode t * Cof.ngroups mode t l v.size) :
    Calls Tryz.prog 88 #[.string v, .agg #[.int .i64 mode, .int .i64 t, .int .i64 l], .int .i64 n, .string tape] w fun e w' =>
      ∃ ev, e = .returned (.tuple #[.slice none 0 0, ev]) ∧ Chain w' 7 2 ev ∧ Below w.heap.size w w' := by
  have hng := ngroups_le h v.size hv
  have hts : Cof.tsize mode t ≤ 8 := by obtain ⟨_, _, _, _, _, h6⟩ := h; unfold Cof.tsize; split <;> omega
  have hba := (Below.refl w.heap.size w).alloc (Nat.le_refl _) (.cells #[.int .i64 mode, .int .i64 t, .int .i64 l] 29)
  have HT := hid (hT.keeps hba (Nat.le_refl _))
  clear hT
  go_enter Tryz.func88, Tryz.ntmps88
  go_wp2_with fail
  refine (layoutFor_ok mode t l n v.size _ h hv).mono ?_
  rintro e w1 ⟨ag, cg, at', ct, rfl, hlay, hb1⟩
  generalize Cof.gsize mode t l = gs at *
  generalize Cof.tsize mode t = ts at *
  generalize Cof.ngroups mode t l v.size = ng at *
  have hbl := (Below.refl w1.heap.size w1).alloc (Nat.le_refl _) (.cells #[.slice ag gs cg, .slice at' ts ct, .int .i64 ng] 181)
  have HT1 := hid ((HT.out.keeps hb1 (Nat.le_refl _)).keeps hbl (Nat.le_refl _))
  have hb01 : Below w.heap.size w w1 := hba.trans (hb1.mono (by simp))
  have hq480 : ts * ng ≤ 8 * 60 := Nat.mul_le_mul hts hng
  clear hlay h hb1
  go_wp2_with fail
  refine (tapeNeed_any ag at' gs cg ts ct ng _ hts hng).mono ?_
  rintro e w2 ⟨rfl, hb2⟩
  have HT2 := hid (HT1.out.keeps hb2 (Nat.le_refl _))
  generalize ts * ng = need at *
  have HSH := hid hsh
  clear hsh
  go_wp2_with fail
  refine (checkTape_bad tape need _ HSH.out (by omega) HT2.out).mono ?_
  rintro e w3 ⟨ev, rfl, hch, hb3⟩
  obtain ⟨te, ve, rfl⟩ := hch.shape
  have HC := hid hch
  clear hch
  go_wp2_with (go_at_call 53; refine (at_chain _ _ 7 1 _ HC.out).mono ?_; rintro e w4 ⟨ev, rfl, hch, hb4⟩)
  go_ret2
  have z1 := hb01.size
  have z2 := hb2.size
  have z3 := hb3.size
  simp at z2
  exact ⟨_, rfl, hch, (((hb01.trans (hbl.mono z1)).trans (hb2.mono (by simp; omega))).trans (hb3.mono (by omega))).trans (hb4.mono (by omega))⟩

end Go.Proofs.YtcegdgmbponapabGreatDoor

namespace Go.Proofs.YtcegdgmbponapabGreatDoor
open Go.RowKit
attribute [local go_sem ↓] Go.wp_at_zero Go.wp_at_succ

set_option maxRecDepth 100000 in
set_option maxHeartbeats 1000000 in
theorem label_int (V key n b o c : Nat) (sp : Nat → Nat) (s : Nat) (mode t l size epoch : Int) (name : ByteArray) (w : World) (h : Va w V key n b o c sp) :
    Calls Tryz.prog 91 #[.pointer (some ⟨V, 0, none⟩), .int .i64 s, .agg #[.string name, .int .i64 mode, .int .i64 t, .int .i64 l, .int .i64 size, .int .i64 epoch]] w fun e w' =>
      e = .returned (.agg #[.string name, .int .i64 mode, .int .i64 t, .int .i64 l, .int .i64 size, .int .i64 epoch, .int .i64 n, .int .i64 s]) ∧ Below w.heap.size w w' := by
  have hlt := h.lt
  have hne : ¬ V = w.heap.size := by omega
  have hne1 : ¬ V = w.heap.size + 1 := by omega
  have c1 := h.c1
  clear h
  go_enter Tryz.func91, Tryz.ntmps91
  go_wp2_with fail
  go_region
  go_wp2_with fail
  refine bodyPost_ret (v := .agg #[.string name, .int .i64 mode, .int .i64 t, .int .i64 l, .int .i64 size, .int .i64 epoch, .int .i64 n, .int .i64 s]) ?_ rfl ⟨rfl, (((Below.refl _ _).alloc (Nat.le_refl _) _).alloc (by simp) _).drew⟩
  simp [results, Tryz.results91, go_sem]

set_option maxRecDepth 100000 in
set_option maxHeartbeats 1000000 in
theorem checkNew_crash (V : Nat) (m t l size : Int) (nm : ByteArray) (w : World) (hV : V < w.heap.size) (c5 : w.cell? ⟨V, 5, none⟩ = some (.bool true)) :
    Calls Tryz.prog 87 #[.pointer (some ⟨V, 0, none⟩), .agg #[.string nm, .int .i64 m, .int .i64 t, .int .i64 l, .int .i64 size, .int .i64 0]] w fun e w' => ∃ ev, e = .returned ev ∧ Chain w' 1 0 ev ∧ Below w.heap.size w w' := by
  have hba := (Below.refl w.heap.size w).alloc (Nat.le_refl _) (.cells #[.string nm, .int .i64 m, .int .i64 t, .int .i64 l, .int .i64 size, .int .i64 0] 65)
  have HC := hid (check_crashed V _ ((hba.cell (p := ⟨V, 5, none⟩) hV).trans c5))
  clear c5
  go_enter Tryz.func87, Tryz.ntmps87
  go_wp2_with (go_at_call 70; refine HC.out.mono ?_; rintro e w0 ⟨rfl, rfl⟩)
  go_ret
  exact ⟨_, rfl, .hit, hba⟩

set_option maxRecDepth 100000 in
set_option maxHeartbeats 1000000 in
theorem checkNew_len (V key n B bc : Nat) (sp : Nat → Nat) (m t l size k : Int) (d : Nat) (nm : ByteArray) (w : World) (h : Rdy w V key n B bc sp) (hT : Tab w)
    (hl : ∀ w, Tab w → Calls Tryz.prog 114 #[.agg #[.string nm, .int .i64 m, .int .i64 t, .int .i64 l, .int .i64 size, .int .i64 0, .int .i64 n, .int .i64 0]] w fun e w' => ∃ x ev, e = .returned (.tuple #[.int .i64 x, ev]) ∧ Chain w' k d ev ∧ Below w.heap.size w w') :
    Calls Tryz.prog 87 #[.pointer (some ⟨V, 0, none⟩), .agg #[.string nm, .int .i64 m, .int .i64 t, .int .i64 l, .int .i64 size, .int .i64 0]] w fun e w' => ∃ ev, e = .returned ev ∧ Chain w' k d ev ∧ Below w.heap.size w w' := by
  have hba := (Below.refl w.heap.size w).alloc (Nat.le_refl _) (.cells #[.string nm, .int .i64 m, .int .i64 t, .int .i64 l, .int .i64 size, .int .i64 0] 65)
  have hR := h.keeps hba (Nat.le_refl _)
  have c5 := hR.c5
  have HC := hid (check_fine V _ c5)
  have HLB := hid (label_int V key n B 0 bc sp 0 m t l size 0 nm _ hR.va)
  have HLN := hid hl
  have HT := hid (hT.keeps hba (Nat.le_refl _))
  have hVlt : ¬ V = w.heap.size := by have := h.va.lt; omega
  clear h hl hR hT
  go_enter Tryz.func87, Tryz.ntmps87
  go_wp2_with (first | (go_at_call 70; refine HC.out.mono ?_; rintro e w0 ⟨rfl, rfl⟩))
  refine HLB.out.mono ?_
  rintro e w1 ⟨rfl, hb1⟩
  have hb01 : Below w.heap.size w w1 := hba.trans (hb1.mono (by simp))
  go_wp2_with fail
  refine (HLN.out w1 (HT.out.keeps hb1 (Nat.le_refl _))).mono ?_
  rintro e w2 ⟨x, ev, rfl, hch, hb2⟩
  obtain ⟨te, ve, rfl⟩ := hch.shape
  have HCH := hid hch
  clear hch
  go_wp2_with fail
  go_ret
  exact ⟨_, rfl, HCH.out, hb01.trans (hb2.mono hb01.size)⟩

set_option maxRecDepth 100000 in
set_option maxHeartbeats 1000000 in
theorem checkNew_twice (V key n B bc : Nat) (sp : Nat → Nat) (down : Bool) (v : Value) (rs : List RecV) (mode t l size : Nat) (nm : ByteArray) (w : World) (h : Rdy w V key n B bc sp) (hs : Sto w (sp 0) down v rs) (hyes : hasName rs nm = true)
    (hp : IsPlan mode t l n) (hz : size ≤ 60) (h1 : 1 ≤ nm.size) (h12 : nm.size ≤ 12) (hng : Cof.ngroups mode t l size ≤ 60) :
    Calls Tryz.prog 87 #[.pointer (some ⟨V, 0, none⟩), .agg #[.string nm, .int .i64 mode, .int .i64 t, .int .i64 l, .int .i64 size, .int .i64 0]] w fun e w' => ∃ ev, e = .returned ev ∧ Chain w' 5 1 ev ∧ Below w.heap.size w w' := by
  have hba := (Below.refl w.heap.size w).alloc (Nat.le_refl _) (.cells #[.string nm, .int .i64 mode, .int .i64 t, .int .i64 l, .int .i64 size, .int .i64 0] 65)
  have hR := h.keeps hba (Nat.le_refl _)
  have c5 := hR.c5
  have HC := hid (check_fine V _ c5)
  have HLB := hid (label_any V key n B 0 bc sp 0 mode t l size 0 nm _ hR.va)
  have HLN := hid (fun w' => llen_ok mode t l n 0 0 size nm w' hp hz h1 h12 hng)
  have HS := hid hs
  have HR := hid hR
  have HYES := hid hyes
  have hVlt : ¬ V = w.heap.size := by have := h.va.lt; omega
  generalize Cof.ngroups mode t l size = ng at *
  clear h hs hyes hp hz hR
  go_enter Tryz.func87, Tryz.ntmps87
  go_wp2_with (first | (go_at_call 70; refine HC.out.mono ?_; rintro e w0 ⟨rfl, rfl⟩))
  refine HLB.out.mono ?_
  rintro e w1 ⟨rfl, hb1⟩
  have hb01 : Below w.heap.size w w1 := hba.trans (hb1.mono (by simp))
  have hz1 : w.heap.size < w1.heap.size := by have := hb1.size; simp at this; omega
  have e1 : ∀ o, w1.cell? ⟨w.heap.size, o, none⟩ = (w.alloc (.cells #[.string nm, .int .i64 mode, .int .i64 t, .int .i64 l, .int .i64 size, .int .i64 0] 65)).cell? ⟨w.heap.size, o, none⟩ := fun o => hb1.cell (by simp)
  have o1 : w1.cell? ⟨w.heap.size, 0, none⟩ = some (.string nm) := by rw [e1]; simp
  have HR1 := hid (HR.out.keeps hb1 (Nat.le_refl _))
  clear e1
  go_wp2_with fail
  refine (HLN.out w1).mono ?_
  rintro e w2 ⟨rfl, hb2⟩
  have hb02 := hb01.trans (hb2.mono hb01.size)
  have o2 : w2.cell? ⟨w.heap.size, 0, none⟩ = some (.string nm) := (hb2.cell hz1).trans o1
  have HR2 := hid (HR1.out.keeps hb2 (Nat.le_refl _))
  have HS2 := hid (HS.out.keeps (Spared.ofBelow (own := fun _ => False) hb02 (Nat.le_refl _)) (fun h => h) (fun _ _ h => h))
  obtain ⟨a, c, hv, hst⟩ := HS2.out.st
  have hz2 : w.heap.size < w2.heap.size := Nat.lt_of_lt_of_le hz1 hb2.size
  have HOB := hid (object_yes V key n B bc sp down a c rs _ nm w2 HR2.out hst HYES.out rfl)
  generalize rs[posOf rs nm]! = r at *
  clear hst hv
  go_wp2_with fail
  refine HOB.out.mono ?_
  rintro e w3 ⟨rfl, hb3⟩
  have hb03 := hb02.trans (hb3.mono hb02.size)
  have o3 : w3.cell? ⟨w.heap.size, 0, none⟩ = some (.string nm) := (hb3.cell hz2).trans o2
  have hz3 : w.heap.size < w3.heap.size := Nat.lt_of_lt_of_le hz2 hb3.size
  have hba4 := (Below.refl w3.heap.size w3).alloc (Nat.le_refl _) (.cells #[.string r.name, .int .i64 r.mode, .int .i64 r.t, .int .i64 r.l, .int .i64 r.size, .int .i64 r.epoch] 65)
  go_wp2_with (first | (go_at_call 115; refine (Is_nil 9 _).mono ?_; rintro e w4 ⟨rfl, rfl⟩) | (go_at_call 53; refine (at_chain _ _ 5 0 _ .hit).mono ?_; rintro e w5 ⟨e5, rfl, hch5, hb5⟩))
  go_ret
  have hb04 := hb03.trans (hba4.mono hb03.size)
  exact ⟨_, rfl, hch5, hb04.trans (hb5.mono hb04.size)⟩

set_option maxRecDepth 100000 in
set_option maxHeartbeats 1000000 in
theorem checkNew_full (V key n B bc : Nat) (sp : Nat → Nat) (down : Bool) (v : Value) (rs : List RecV) (mode t l size : Nat) (nm : ByteArray) (w : World) (h : Rdy w V key n B bc sp) (hs : Sto w (sp 0) down v rs) (hno : hasName rs nm = false) (hfull : ¬ rs.length < 10)
    (hp : IsPlan mode t l n) (hz : size ≤ 60) (h1 : 1 ≤ nm.size) (h12 : nm.size ≤ 12) (hng : Cof.ngroups mode t l size ≤ 60) (hT : Tab w) :
    Calls Tryz.prog 87 #[.pointer (some ⟨V, 0, none⟩), .agg #[.string nm, .int .i64 mode, .int .i64 t, .int .i64 l, .int .i64 size, .int .i64 0]] w fun e w' => ∃ ev, e = .returned ev ∧ Chain w' 6 1 ev ∧ Below w.heap.size w w' := by
  have hba := (Below.refl w.heap.size w).alloc (Nat.le_refl _) (.cells #[.string nm, .int .i64 mode, .int .i64 t, .int .i64 l, .int .i64 size, .int .i64 0] 65)
  have hR := h.keeps hba (Nat.le_refl _)
  have c5 := hR.c5
  have HC := hid (check_fine V _ c5)
  have HLB := hid (label_any V key n B 0 bc sp 0 mode t l size 0 nm _ hR.va)
  have HLN := hid (fun w' => llen_ok mode t l n 0 0 size nm w' hp hz h1 h12 hng)
  have HS := hid hs
  have HR := hid hR
  have HNO := hid hno
  have HT := hid hT
  have hVlt : ¬ V = w.heap.size := by have := h.va.lt; omega
  have hfull' : (10 : Int) ≤ (rs.length : Int) := by omega
  have HI := hid (show I64 (rs.length : Int) by have := hs.le; unfold I64; omega)
  generalize Cof.ngroups mode t l size = ng at *
  clear h hs hno hp hz hR hfull hT
  go_enter Tryz.func87, Tryz.ntmps87
  go_wp2_with (first | (go_at_call 70; refine HC.out.mono ?_; rintro e w0 ⟨rfl, rfl⟩))
  refine HLB.out.mono ?_
  rintro e w1 ⟨rfl, hb1⟩
  have hb01 : Below w.heap.size w w1 := hba.trans (hb1.mono (by simp))
  have hz1 : w.heap.size < w1.heap.size := by have := hb1.size; simp at this; omega
  have e1 : ∀ o, w1.cell? ⟨w.heap.size, o, none⟩ = (w.alloc (.cells #[.string nm, .int .i64 mode, .int .i64 t, .int .i64 l, .int .i64 size, .int .i64 0] 65)).cell? ⟨w.heap.size, o, none⟩ := fun o => hb1.cell (by simp)
  have o1 : w1.cell? ⟨w.heap.size, 0, none⟩ = some (.string nm) := by rw [e1]; simp
  have HR1 := hid (HR.out.keeps hb1 (Nat.le_refl _))
  clear e1
  go_wp2_with fail
  refine (HLN.out w1).mono ?_
  rintro e w2 ⟨rfl, hb2⟩
  have hb02 := hb01.trans (hb2.mono hb01.size)
  have o2 : w2.cell? ⟨w.heap.size, 0, none⟩ = some (.string nm) := (hb2.cell hz1).trans o1
  have HR2 := hid (HR1.out.keeps hb2 (Nat.le_refl _))
  have HS2 := hid (HS.out.keeps (Spared.ofBelow (own := fun _ => False) hb02 (Nat.le_refl _)) (fun h => h) (fun _ _ h => h))
  obtain ⟨a, c, hv, hst⟩ := HS2.out.st
  have hz2 : w.heap.size < w2.heap.size := Nat.lt_of_lt_of_le hz1 hb2.size
  go_wp2_with fail
  refine (object_no V key n B bc sp down a c rs nm w2 HR2.out hst HNO.out).mono ?_
  rintro e w3 ⟨ev, rfl, hch, hb3⟩
  have hb03 := hb02.trans (hb3.mono hb02.size)
  have o3 : w3.cell? ⟨w.heap.size, 0, none⟩ = some (.string nm) := (hb3.cell hz2).trans o2
  obtain ⟨te, ve, rfl⟩ := hch.shape
  have HCH := hid hch
  have HR3 := hid (HR2.out.keeps hb3 (Nat.le_refl _))
  have HS3 := hid (HS2.out.keeps (Spared.ofBelow (own := fun _ => False) hb3 (Nat.le_refl _)) (fun h => h) (fun _ _ h => h))
  clear hch hst hv
  go_wp2_with fail
  have hba4 := (Below.refl w3.heap.size w3).alloc (Nat.le_refl _) (.cells #[.string ByteArray.empty, .int .i64 0, .int .i64 0, .int .i64 0, .int .i64 0, .int .i64 0] 65)
  refine (Is_any 9 9 _ 1 _ (HCH.out.keeps hba4 (Nat.le_refl _)) (by decide)).mono ?_
  rintro e w4 ⟨rfl, rfl⟩
  have HV := hid (vobjects_any V key n B bc sp down v rs _ (HR3.out.keeps hba4 (Nat.le_refl _)) (HS3.out.keeps (Spared.ofBelow (own := fun _ => False) hba4 (Nat.le_refl _)) (fun h => h) (fun _ _ h => h)))
  have hb04 := hb03.trans (hba4.mono hb03.size)
  go_wp2_with fail
  refine HV.out.mono ?_
  rintro e w5 ⟨ov, rfl, hown, hb5⟩
  obtain ⟨oa, oc, rfl, _⟩ := owns_rd_size hown
  have hb05 := hb04.trans (hb5.mono hb04.size)
  have HT5 := hid (HT.out.keeps hb05 (Nat.le_refl _))
  clear hown
  go_wp2_with (go_at_call 77; refine (atCount_any (rs.length : Int) _ _ 6 0 _ HI.out (by decide) HT5.out .hit).mono ?_; rintro e w6 ⟨e6, rfl, hch6, hb6⟩)
  go_ret
  exact ⟨_, rfl, hch6, hb05.trans (hb6.mono hb05.size)⟩

set_option maxRecDepth 100000 in
set_option maxHeartbeats 1000000 in
/-- cut, where the checks refuse. -/
theorem cut_new (V : Nat) (m t l size k : Int) (d : Nat) (nm vl tape : ByteArray) (w : World)
    (hc : ∀ w', Below w.heap.size w w' → Calls Tryz.prog 87 #[.pointer (some ⟨V, 0, none⟩), .agg #[.string nm, .int .i64 m, .int .i64 t, .int .i64 l, .int .i64 size, .int .i64 0]] w' fun e w'' => ∃ ev, e = .returned ev ∧ Chain w'' k d ev ∧ Below w'.heap.size w' w'') :
    Calls Tryz.prog 58 #[.pointer (some ⟨V, 0, none⟩), .agg #[.string nm, .int .i64 m, .int .i64 t, .int .i64 l, .int .i64 size, .int .i64 0], .string vl, .string tape] w fun e w' =>
      ∃ a x c ev, e = .returned (.tuple #[.slice a x c, ev]) ∧ Chain w' k d ev ∧ Below w.heap.size w w' := by
  have hba := (Below.refl w.heap.size w).alloc (Nat.le_refl _) (.cells #[.string nm, .int .i64 m, .int .i64 t, .int .i64 l, .int .i64 size, .int .i64 0] 65)
  have HC := hid (hc _ hba)
  clear hc
  go_enter Tryz.func58, Tryz.ntmps58
  go_wp2_with fail
  refine HC.out.mono ?_
  rintro e w1 ⟨ev, rfl, hch, hb1⟩
  obtain ⟨te, ve, rfl⟩ := hch.shape
  have HCH := hid hch
  clear hch
  go_wp2_with fail
  go_ret2
  exact ⟨_, _, _, _, rfl, HCH.out, hba.trans (hb1.mono (by simp))⟩

set_option maxRecDepth 100000 in
set_option maxHeartbeats 1000000 in
/-- cut, where the tape is too short. -/
theorem cut_tape (V key n B bc : Nat) (sp : Nat → Nat) (down : Bool) (v : Value) (rs : List RecV) (mode t l size : Nat) (nm vl tape : ByteArray) (w : World) (h : Rdy w V key n B bc sp) (hs : Sto w (sp 0) down v rs) (hno : hasName rs nm = false) (hfew : rs.length < 10)
    (hp : IsPlan mode t l n) (hz : size ≤ 60) (hvs : vl.size = size) (h1 : 1 ≤ nm.size) (h12 : nm.size ≤ 12) (hng : Cof.ngroups mode t l size ≤ 60) (htp : tape.size < Cof.tsize mode t * Cof.ngroups mode t l size) (hT : Tab w) :
    Calls Tryz.prog 58 #[.pointer (some ⟨V, 0, none⟩), .agg #[.string nm, .int .i64 mode, .int .i64 t, .int .i64 l, .int .i64 size, .int .i64 0], .string vl, .string tape] w fun e w' =>
      ∃ a x c ev, e = .returned (.tuple #[.slice a x c, ev]) ∧ Chain w' 7 2 ev ∧ Below w.heap.size w w' := by
  have hba := (Below.refl w.heap.size w).alloc (Nat.le_refl _) (.cells #[.string nm, .int .i64 mode, .int .i64 t, .int .i64 l, .int .i64 size, .int .i64 0] 65)
  have HCN := hid (checkNew_ok V key n B bc sp down v rs mode t l size nm _ (h.keeps hba (Nat.le_refl _)) (hs.keeps (Spared.ofBelow (own := fun _ => False) hba (Nat.le_refl _)) (fun h => h) (fun _ _ h => h)) hno hfew hp hz h1 h12 hng)
  have HSP := hid (fun w' hT' => cutSplit_tape mode t l n vl tape w' hT' hp (by omega) (by rw [hvs]; exact htp))
  have HR := hid h
  have HT := hid hT
  clear h hs hno hfew hp hz hvs hng htp h1 h12 hT
  go_enter Tryz.func58, Tryz.ntmps58
  go_wp2_with fail
  refine HCN.out.mono ?_
  rintro e w1 ⟨rfl, hb1⟩
  have hb01 : Below w.heap.size w w1 := hba.trans (hb1.mono (by simp))
  have hz1 : w.heap.size < w1.heap.size := by have := hb1.size; simp at this; omega
  have e1 : ∀ o, w1.cell? ⟨w.heap.size, o, none⟩ = (w.alloc (.cells #[.string nm, .int .i64 mode, .int .i64 t, .int .i64 l, .int .i64 size, .int .i64 0] 65)).cell? ⟨w.heap.size, o, none⟩ := fun o => hb1.cell (by simp)
  have o1 : w1.cell? ⟨w.heap.size, 1, none⟩ = some (.int .i64 mode) := by rw [e1]; simp
  have o2 : w1.cell? ⟨w.heap.size, 2, none⟩ = some (.int .i64 t) := by rw [e1]; simp
  have o3 : w1.cell? ⟨w.heap.size, 3, none⟩ = some (.int .i64 l) := by rw [e1]; simp
  have HR1 := hid (HR.out.keeps hb01 (Nat.le_refl _))
  have c1 := HR1.out.va.c1
  have lV := HR1.out.va.lt
  have HT1 := hid (HT.out.keeps hb01 (Nat.le_refl _))
  clear e1
  go_wp2_with fail
  go_region_held3 (fun w' => w'.cell? ⟨V, 1, none⟩ = some (.slice (some ⟨B, 0, none⟩) n bc) ∧ w'.cell? ⟨w.heap.size, 1, none⟩ = some (.int .i64 mode) ∧ w'.cell? ⟨w.heap.size, 2, none⟩ = some (.int .i64 t) ∧ w'.cell? ⟨w.heap.size, 3, none⟩ = some (.int .i64 l)) (first | exact ⟨c1, o1, o2, o3⟩ | exact D2.out | go_keep)
    (first | (go_at_call 88; refine (HSP.out _ (HT1.out.keeps (Below.refl _ _).drew (Nat.le_refl _))).mono ?_; rintro e w2 ⟨ev, rfl, hch, hb2⟩; (have hb12 : Below w1.heap.size w1 w2 := (Below.refl w1.heap.size w1).drew.trans hb2); (have D2 := hid (show w2.cell? ⟨V, 1, none⟩ = some (.slice (some ⟨B, 0, none⟩) n bc) ∧ w2.cell? ⟨w.heap.size, 1, none⟩ = some (.int .i64 mode) ∧ w2.cell? ⟨w.heap.size, 2, none⟩ = some (.int .i64 t) ∧ w2.cell? ⟨w.heap.size, 3, none⟩ = some (.int .i64 l) from ⟨(hb12.cell lV).trans c1, (hb12.cell hz1).trans o1, (hb12.cell hz1).trans o2, (hb12.cell hz1).trans o3⟩)); (have HCH := hid hch); obtain ⟨te, ve, rfl⟩ := hch.shape; clear hch))
  have hb02 := hb01.trans (hb12.mono hb01.size)
  go_wp2_with fail
  go_ret2
  exact ⟨_, _, _, _, rfl, HCH.out, hb02⟩

set_option maxRecDepth 100000 in
set_option maxHeartbeats 1000000 in
/-- cut, where a store is down. -/
theorem cut_down (V key n B bc : Nat) (sp : Nat → Nat) (dn : Nat → Bool) (v : Value) (rs : List RecV) (mode t l size : Nat) (nm vl tape : ByteArray) (w : World) (h : Rdy w V key n B bc sp) (hs : Sto w (sp 0) (dn 0) v rs) (hno : hasName rs nm = false) (hfew : rs.length < 10)
    (hp : IsPlan mode t l n) (hz : size ≤ 60) (hvs : vl.size = size) (h1 : 1 ≤ nm.size) (h12 : nm.size ≤ 12) (hng : Cof.ngroups mode t l size ≤ 60) (htp : Cof.tsize mode t * Cof.ngroups mode t l size ≤ tape.size) (hT : Tab w)
    (hup : ∀ i, i < n → w.cell? ⟨sp i, 0, none⟩ = some (.bool (dn i))) (hlt : ∀ i, i < n → sp i < w.heap.size) (hd : ∃ i, i < n ∧ dn i = true) :
    Calls Tryz.prog 58 #[.pointer (some ⟨V, 0, none⟩), .agg #[.string nm, .int .i64 mode, .int .i64 t, .int .i64 l, .int .i64 size, .int .i64 0], .string vl, .string tape] w fun e w' =>
      ∃ a x c ev, e = .returned (.tuple #[.slice a x c, ev]) ∧ Chain w' 8 1 ev ∧ Below w.heap.size w w' := by
  have hba := (Below.refl w.heap.size w).alloc (Nat.le_refl _) (.cells #[.string nm, .int .i64 mode, .int .i64 t, .int .i64 l, .int .i64 size, .int .i64 0] 65)
  have HCN := hid (checkNew_ok V key n B bc sp (dn 0) v rs mode t l size nm _ (h.keeps hba (Nat.le_refl _)) (hs.keeps (Spared.ofBelow (own := fun _ => False) hba (Nat.le_refl _)) (fun h => h) (fun _ _ h => h)) hno hfew hp hz h1 h12 hng)
  have HSP := hid (fun w' => cutSplit_ok mode t l n vl tape w' hp (by omega) (by rw [hvs]; exact htp))
  have HR := hid h
  have HT := hid hT
  have HUP := hid hup
  have HLT := hid hlt
  have HD := hid hd
  generalize Cof.split vl.data.toList mode t l n tape.data.toList = rows at *
  clear h hs hno hfew hp hz hvs hng htp hup hlt h1 h12 hT hd
  go_enter Tryz.func58, Tryz.ntmps58
  go_wp2_with fail
  refine HCN.out.mono ?_
  rintro e w1 ⟨rfl, hb1⟩
  have hb01 : Below w.heap.size w w1 := hba.trans (hb1.mono (by simp))
  have hz1 : w.heap.size < w1.heap.size := by have := hb1.size; simp at this; omega
  have e1 : ∀ o, w1.cell? ⟨w.heap.size, o, none⟩ = (w.alloc (.cells #[.string nm, .int .i64 mode, .int .i64 t, .int .i64 l, .int .i64 size, .int .i64 0] 65)).cell? ⟨w.heap.size, o, none⟩ := fun o => hb1.cell (by simp)
  have o1 : w1.cell? ⟨w.heap.size, 1, none⟩ = some (.int .i64 mode) := by rw [e1]; simp
  have o2 : w1.cell? ⟨w.heap.size, 2, none⟩ = some (.int .i64 t) := by rw [e1]; simp
  have o3 : w1.cell? ⟨w.heap.size, 3, none⟩ = some (.int .i64 l) := by rw [e1]; simp
  have HR1 := hid (HR.out.keeps hb01 (Nat.le_refl _))
  have c1 := HR1.out.va.c1
  have lV := HR1.out.va.lt
  have hn8 := HR1.out.n8
  clear e1
  go_wp2_with fail
  go_region_held3 (fun w' => w'.cell? ⟨V, 1, none⟩ = some (.slice (some ⟨B, 0, none⟩) n bc) ∧ w'.cell? ⟨w.heap.size, 1, none⟩ = some (.int .i64 mode) ∧ w'.cell? ⟨w.heap.size, 2, none⟩ = some (.int .i64 t) ∧ w'.cell? ⟨w.heap.size, 3, none⟩ = some (.int .i64 l)) (first | exact ⟨c1, o1, o2, o3⟩ | exact D2.out | go_keep)
    (first | (go_at_call 88; refine (HSP.out _).mono ?_; rintro e w2 ⟨g, rfl, _, hb2, _⟩; (have hb12 : Below w1.heap.size w1 w2 := (Below.refl w1.heap.size w1).drew.trans hb2); (have D2 := hid (show w2.cell? ⟨V, 1, none⟩ = some (.slice (some ⟨B, 0, none⟩) n bc) ∧ w2.cell? ⟨w.heap.size, 1, none⟩ = some (.int .i64 mode) ∧ w2.cell? ⟨w.heap.size, 2, none⟩ = some (.int .i64 t) ∧ w2.cell? ⟨w.heap.size, 3, none⟩ = some (.int .i64 l) from ⟨(hb12.cell lV).trans c1, (hb12.cell hz1).trans o1, (hb12.cell hz1).trans o2, (hb12.cell hz1).trans o3⟩))))
  have hb02 := hb01.trans (hb12.mono hb01.size)
  have HAU := hid (allUp_no V key n B 0 bc sp dn w2 (HR1.out.va.keeps hb12 (Nat.le_refl _)) hn8 (fun i hi => (hb02.cell (HLT.out i hi)).trans (HUP.out i hi)) HD.out (HT.out.keeps hb02 (Nat.le_refl _)))
  go_wp2_with (go_at_call 63; refine HAU.out.mono ?_; rintro e w3 ⟨ev, rfl, hch, hb3⟩)
  go_ret2
  exact ⟨_, _, _, _, rfl, hch, hb02.trans (hb3.mono hb02.size)⟩

set_option maxRecDepth 100000 in
set_option maxHeartbeats 1000000 in
/-- Put, where cut refuses. -/
theorem vput_no (V : Nat) (m t l k : Int) (d : Nat) (nm vl tape : ByteArray) (w : World)
    (hc : ∀ w', Below w.heap.size w w' → Calls Tryz.prog 58 #[.pointer (some ⟨V, 0, none⟩), .agg #[.string nm, .int .i64 m, .int .i64 t, .int .i64 l, .int .i64 vl.size, .int .i64 0], .string vl, .string tape] w' fun e w'' => ∃ a x c ev, e = .returned (.tuple #[.slice a x c, ev]) ∧ Chain w'' k d ev ∧ Below w'.heap.size w' w'') :
    Calls Tryz.prog 38 #[.pointer (some ⟨V, 0, none⟩), .string nm, .string vl, .agg #[.int .i64 m, .int .i64 t, .int .i64 l], .string tape] w fun e w' =>
      ∃ ev, e = .returned ev ∧ Chain w' k (d + 1) ev ∧ Below w.heap.size w w' := by
  have hba1 := (Below.refl w.heap.size w).alloc (Nat.le_refl _) (.cells #[.int .i64 m, .int .i64 t, .int .i64 l] 29)
  have hba2 := hba1.alloc (by simp) (.cells #[.string nm, .int .i64 m, .int .i64 t, .int .i64 l, .int .i64 vl.size, .int .i64 0] 65)
  have HC := hid (hc _ hba2)
  clear hc
  go_enter Tryz.func38, Tryz.ntmps38
  go_wp2_with fail
  refine HC.out.mono ?_
  rintro e w3 ⟨a, x, c, ev, rfl, hch, hb3⟩
  have hb23 : Below w.heap.size w w3 := hba2.trans (hb3.mono (by simp; omega))
  obtain ⟨te, ve, rfl⟩ := hch.shape
  have HCH := hid hch
  clear hch
  go_wp2_with (go_at_call 53; refine (at_chain _ _ k d _ HCH.out).mono ?_; rintro e w4 ⟨e4, rfl, hch4, hb4⟩)
  go_ret
  exact ⟨_, rfl, hch4, hb23.trans (hb4.mono hb23.size)⟩

set_option maxRecDepth 100000 in
set_option maxHeartbeats 1000000 in
/-- The coffer's Put, where the vault's refuses. -/
theorem cput_no (C V : Nat) (mode t l k : Int) (d : Nat) (nm vl tape : ByteArray) (w : World) (h : Cf w C V) (hd : d ≤ 10) (hE : ErrType w)
    (hv : ∀ w1, Below w.heap.size w w1 → Calls Tryz.prog 38 #[.pointer (some ⟨V, 0, none⟩), .string nm, .string vl, .agg #[.int .i64 mode, .int .i64 t, .int .i64 l], .string tape] w1 fun e w' => ∃ ev, e = .returned ev ∧ Chain w' k d ev ∧ Below w1.heap.size w1 w') :
    Calls Tryz.prog 16 #[.pointer (some ⟨C, 0, none⟩), .string nm, .string vl, .agg #[.int .i64 mode, .int .i64 t, .int .i64 l], .string tape] w fun e w' => e = .returned (.int .i64 k) ∧ Below w.heap.size w w' := by
  have hba := (Below.refl w.heap.size w).alloc (Nat.le_refl _) (.cells #[.int .i64 mode, .int .i64 t, .int .i64 l] 29)
  have hl := cells_lt h
  obtain ⟨w1, hw1⟩ : ∃ w1, w1 = w.alloc (.cells #[.int .i64 mode, .int .i64 t, .int .i64 l] 29) := ⟨_, rfl⟩
  have HPB := hid (show w1.heap[w.heap.size]? = some (.cells #[.int .i64 mode, .int .i64 t, .int .i64 l] 29) by rw [hw1]; exact alloc_at _ _)
  rw [← hw1] at hba
  have h1 : Cf w1 C V := h.keeps (Spared.ofBelow (own := fun _ => False) hba (Nat.le_refl _)) (fun h => h)
  have c0 : w1.cell? ⟨C, 0, none⟩ = some (.pointer (some ⟨V, 0, none⟩)) := by rw [cells_at h1]; rfl
  have p0 : w1.cell? ⟨w.heap.size, 0, none⟩ = some (.int .i64 mode) := by rw [cells_at HPB.out]; rfl
  have p1 : w1.cell? ⟨w.heap.size, 1, none⟩ = some (.int .i64 t) := by rw [cells_at HPB.out]; rfl
  have p2 : w1.cell? ⟨w.heap.size, 2, none⟩ = some (.int .i64 l) := by rw [cells_at HPB.out]; rfl
  have HS := hid (show ∀ w', Below w1.heap.size w1 w' → w'.cell? ⟨C, 0, none⟩ = some (.pointer (some ⟨V, 0, none⟩)) ∧ w'.cell? ⟨w.heap.size, 0, none⟩ = some (.int .i64 mode) ∧ w'.cell? ⟨w.heap.size, 1, none⟩ = some (.int .i64 t) ∧ w'.cell? ⟨w.heap.size, 2, none⟩ = some (.int .i64 l) from fun w' hb => ⟨(hb.cell (by show C < w1.heap.size; exact cells_lt (h := h1))).trans c0, (hb.cell (by exact cells_lt HPB.out)).trans p0, (hb.cell (by exact cells_lt HPB.out)).trans p1, (hb.cell (by exact cells_lt HPB.out)).trans p2⟩)
  have HV := hid (hv w1.drew hba.drew)
  have HE := hid (hE.keeps hba (Nat.le_refl _))
  have HW1 := hid hw1
  clear h hv h1 hE
  go_enter Tryz.func16, Tryz.ntmps16
  go_wp2_with fail
  rw [← HW1.out]
  clear hw1 HW1
  go_region_held3 (fun w' => w'.cell? ⟨C, 0, none⟩ = some (.pointer (some ⟨V, 0, none⟩)) ∧ w'.cell? ⟨w.heap.size, 0, none⟩ = some (.int .i64 mode) ∧ w'.cell? ⟨w.heap.size, 1, none⟩ = some (.int .i64 t) ∧ w'.cell? ⟨w.heap.size, 2, none⟩ = some (.int .i64 l)) (first | exact ⟨c0, p0, p1, p2⟩ | exact D3.out | exact D2.out | go_keep)
    (first
      | (go_at_call 38; refine HV.out.mono ?_; rintro e w2 ⟨ev, rfl, hch, hb2⟩; (have hb12 : Below w1.heap.size w1 w2 := (Below.refl w1.heap.size w1).drew.trans hb2); (have D2 := hid (HS.out w2 hb12)); (have HCH := hid hch); clear hch)
      | (go_at_call 36; refine (number_chain k w2 d ev HCH.out hd (HE.out.keeps hb12 (Nat.le_refl _))).mono ?_; rintro e w3 ⟨rfl, hb3⟩; (have hb13 := hb12.trans (hb3.mono hb12.size)); (have D3 := hid (HS.out w3 hb13))))
  go_wp2
  go_ret
  exact ⟨rfl, hba.trans (hb13.mono hba.size)⟩
end Go.Proofs.YtcegdgmbponapabGreatDoor

namespace Go.Proofs.YtcegdgmbponapabGreatDoor
open Go.RowKit

theorem Cof.xor_cancel {a b c : Nat} (h : a ^^^ c = b ^^^ c) : a = b := by
  have h2 : (a ^^^ c) ^^^ c = (b ^^^ c) ^^^ c := by rw [h]
  rwa [Nat.xor_assoc, Nat.xor_assoc, Nat.xor_self, Nat.xor_zero, Nat.xor_zero] at h2

theorem Cof.mul_back (x y : Nat) (hx : x < 18446744073709551616) (hy : y < 18446744073709551616) (h : x * 1099511628211 % 18446744073709551616 = y * 1099511628211 % 18446744073709551616) : x = y := by
  have key : ∀ z, z < 18446744073709551616 → (z * 1099511628211 % 18446744073709551616) * 14886173955864302971 % 18446744073709551616 = z := by
    intro z hz
    rw [Nat.mod_mul_mod, Nat.mul_assoc, show 1099511628211 * 14886173955864302971 = 1 + 887285111055 * 18446744073709551616 from by decide, Nat.mul_add, Nat.mul_one, ← Nat.mul_assoc, Nat.add_mul_mod_self_right]
    exact Nat.mod_eq_of_lt hz
  rw [← key x hx, h, key y hy]

theorem Cof.xor_byte_lt (s : Nat) (b : UInt8) (h : s < 18446744073709551616) : s ^^^ b.toNat < 18446744073709551616 :=
  Nat.xor_lt_two_pow (n := 64) h (Nat.lt_of_lt_of_le (UInt8.toNat_lt b) (by decide))

theorem Cof.tagStep_back (s s' : Nat) (b b' : UInt8) (h : s < 18446744073709551616) (h' : s' < 18446744073709551616) (e : Cof.tagStep s b = Cof.tagStep s' b') : s ^^^ b.toNat = s' ^^^ b'.toNat :=
  Cof.mul_back _ _ (Cof.xor_byte_lt s b h) (Cof.xor_byte_lt s' b' h') e

theorem Cof.fold_back (xs : List UInt8) : ∀ s s', s < 18446744073709551616 → s' < 18446744073709551616 → xs.foldl Cof.tagStep s = xs.foldl Cof.tagStep s' → s = s' := by
  induction xs with
  | nil => intro s s' _ _ h; exact h
  | cons x xs ih =>
    intro s s' h h' e
    rw [List.foldl_cons, List.foldl_cons] at e
    have e1 := ih _ _ (Nat.mod_lt _ (by decide)) (Nat.mod_lt _ (by decide)) e
    exact Cof.xor_cancel (Cof.tagStep_back s s' x x h h' e1)

/-- One byte changed: another tag. -/
theorem Cof.tag_one (key : Nat) (A C : List UInt8) (b b' : UInt8) (hk : key < 18446744073709551616) (h : Cof.tag key (A ++ b :: C) = Cof.tag key (A ++ b' :: C)) : b = b' := by
  unfold Cof.tag at h
  rw [List.foldl_append, List.foldl_append, List.foldl_cons, List.foldl_cons] at h
  have h0 : 14695981039346656037 ^^^ key < 18446744073709551616 := Nat.xor_lt_two_pow (n := 64) (by decide) hk
  have h1 := Cof.fold_lt A _ h0
  have e := Cof.fold_back C _ _ (Nat.mod_lt _ (by decide)) (Nat.mod_lt _ (by decide)) h
  have e2 := Cof.tagStep_back _ _ b b' h1 h1 e
  rw [Nat.xor_comm _ b.toNat, Nat.xor_comm _ b'.toNat] at e2
  exact UInt8.toNat_inj.1 (Cof.xor_cancel e2)

theorem Cof.high_back (x y : Nat) (hx : x < 18446744073709551616) (hy : y < 18446744073709551616) (h : Cof.high x 8 = Cof.high y 8) : x = y := by
  have key : ∀ j, j < 8 → x / 256 ^ (8 - 1 - j) % 256 = y / 256 ^ (8 - 1 - j) % 256 := by
    intro j hj
    have h2 : (Cof.high x 8)[j]? = (Cof.high y 8)[j]? := by rw [h]
    unfold Cof.high at h2
    simp [hj] at h2
    have h3 := congrArg UInt8.toNat h2
    simpa [UInt8.toNat_ofNat'] using h3
  have k0 := key 0 (by omega)
  have k1 := key 1 (by omega)
  have k2 := key 2 (by omega)
  have k3 := key 3 (by omega)
  have k4 := key 4 (by omega)
  have k5 := key 5 (by omega)
  have k6 := key 6 (by omega)
  have k7 := key 7 (by omega)
  simp at k0 k1 k2 k3 k4 k5 k6 k7
  omega

/-- A shard with one byte changed. -/
def Cof.spoil (X : List UInt8) (at' : Nat) (d : UInt8) : List UInt8 := X.set at' (X.getD at' 0 ^^^ d)

theorem Cof.length_spoil (X : List UInt8) (at' : Nat) (d : UInt8) : (Cof.spoil X at' d).length = X.length := by simp [Cof.spoil]

theorem Cof.byte_twice (a d : UInt8) : a ^^^ d ^^^ d = a := by
  rw [UInt8.xor_assoc, UInt8.xor_self, UInt8.xor_zero]

theorem Cof.spoil_twice (X : List UInt8) (at' : Nat) (d : UInt8) (h : at' < X.length) : Cof.spoil (Cof.spoil X at' d) at' d = X := by
  unfold Cof.spoil
  simp only [List.set_set]
  apply List.ext_getElem (by simp)
  intro i h1 h2
  rw [List.getElem_set]
  split
  · rename_i e
    subst e
    simp [h, Cof.byte_twice]
  · rfl

theorem Cof.byte_moves (a d : UInt8) (hd : d ≠ 0) : a ^^^ d ≠ a := by
  intro h
  apply hd
  have h2 : a ^^^ (a ^^^ d) = a ^^^ a := by rw [h]
  rw [← UInt8.xor_assoc, UInt8.xor_self, UInt8.zero_xor] at h2
  exact h2

theorem Cof.spoilt_told (key : Nat) (hd P P' : List UInt8) (at' : Nat) (d : UInt8) (hk : key < 18446744073709551616) (hl : P'.length = P.length) (hat : at' < (Cof.sealed key (hd ++ P)).length) (h0 : d ≠ 0) : Cof.spoil (Cof.sealed key (hd ++ P)) at' d ≠ Cof.sealed key (hd ++ P') := by
  intro h
  obtain ⟨A, hA⟩ : ∃ A, A = hd ++ P := ⟨_, rfl⟩
  obtain ⟨A', hA'⟩ : ∃ A', A' = hd ++ P' := ⟨_, rfl⟩
  have hlA : A'.length = A.length := by rw [hA, hA']; simp [hl]
  rw [← hA] at h hat
  rw [← hA'] at h
  clear hA hA'
  have tlt : ∀ L, Cof.tag key L < 18446744073709551616 := fun L => by
    unfold Cof.tag
    exact Cof.fold_lt L _ (Nat.xor_lt_two_pow (n := 64) (by decide) hk)
  unfold Cof.sealed at h hat
  unfold Cof.spoil at h
  obtain ⟨z, hz⟩ : ∃ z, z = (A ++ Cof.high (Cof.tag key A) 8).getD at' 0 ^^^ d := ⟨_, rfl⟩
  have hmv := Cof.byte_moves ((A ++ Cof.high (Cof.tag key A) 8).getD at' 0) d h0
  rw [← hz] at h hmv
  clear hz
  by_cases hc : at' < A.length
  · rw [List.set_append_left _ _ hc] at h
    obtain ⟨e1, e2⟩ := List.append_inj h (by simp [hlA])
    have e3 := Cof.high_back _ _ (tlt _) (tlt _) e2
    rw [← e1] at e3
    have hs : A = A.take at' ++ A[at'] :: A.drop (at' + 1) := by simp
    have hs2 : A.set at' z = A.take at' ++ z :: A.drop (at' + 1) := by
      rw [List.set_eq_take_append_cons_drop]; simp [hc]
    rw [hs2] at e3
    have e4 : Cof.tag key (A.take at' ++ A[at'] :: A.drop (at' + 1)) = Cof.tag key (A.take at' ++ z :: A.drop (at' + 1)) := by rw [← hs]; exact e3
    have e5 := Cof.tag_one key _ _ _ _ hk e4
    apply hmv
    rw [← e5, List.getD_eq_getElem?_getD, List.getElem?_append_left hc, List.getElem?_eq_getElem hc]
    rfl
  · rw [List.set_append_right _ _ (by omega)] at h
    obtain ⟨e1, e2⟩ := List.append_inj h (by simp [hlA])
    subst e1
    have hat2 : at' - A.length < (Cof.high (Cof.tag key A) 8).length := by rw [List.length_append] at hat; omega
    have e3 : ((Cof.high (Cof.tag key A) 8).set (at' - A.length) z)[at' - A.length]? = (Cof.high (Cof.tag key A) 8)[at' - A.length]? := by rw [e2]
    rw [List.getElem?_set_self hat2] at e3
    apply hmv
    rw [List.getD_eq_getElem?_getD, List.getElem?_append_right (by omega), ← e3]
    rfl
end Go.Proofs.YtcegdgmbponapabGreatDoor
