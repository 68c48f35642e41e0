/-
  A store: place, Record, CheckUp, SetUp.
  Where Split refuses: the plan, the size, the tape.
-/
import Derived.Test.YtcegdgmbponapaaGreatDoorPart11
import Derived.Test.YtcegdgmbponapaaGreatDoorPart10
import Derived.Test.YtcegdgmbponapaaGreatDoorPart05
import Derived.BigQuiet
namespace Go.Proofs.YtcegdgmbponapaaGreatDoor
open Go.RowKit
attribute [local go_sem ↓] Go.wp_at_zero Go.wp_at_succ

/-- A store, as it lies. -/
structure St (w : World) (S : Nat) (down : Bool) (a : Option Addr) (c : Nat) (rs : List RecV) : Prop where
  lt : S < w.heap.size
  c0 : w.cell? ⟨S, 0, none⟩ = some (.bool down)
  c1 : w.cell? ⟨S, 1, none⟩ = some (.slice a rs.length c)
  rd : Rd w a (recs rs)
  so : Sorted rs
  le : rs.length ≤ 10

theorem St.keeps {B : Nat} {w w' : World} {S : Nat} {down : Bool} {a : Option Addr} {c : Nat} {rs : List RecV} (h : St w S down a c rs) (hb : Below B w w') (hB : w.heap.size ≤ B) : St w' S down a c rs :=
  ⟨Nat.lt_of_lt_of_le h.lt hb.size, by rw [hb.cell (by exact Nat.lt_of_lt_of_le h.lt hB)]; exact h.c0, by rw [hb.cell (by exact Nat.lt_of_lt_of_le h.lt hB)]; exact h.c1, h.rd.below hb hB, h.so, h.le⟩

set_option maxRecDepth 100000 in
theorem place_any (S : Nat) (down : Bool) (a : Option Addr) (c : Nat) (rs : List RecV) (nm : ByteArray) (w : World) (h : St w S down a c rs) :
    Calls Tryz.prog 139 #[.pointer (some ⟨S, 0, none⟩), .string nm] w fun e w' => e = .returned (.tuple #[.int .i64 (posOf rs nm : Nat), .bool (hasName rs nm)]) ∧ Below w.heap.size w w' := by
  have HS := hid (search_any a rs.length c rs nm w rfl h.rd (Nat.le_trans h.le (by decide)) h.so)
  have c1 := h.c1
  generalize posOf rs nm = p at *
  generalize hasName rs nm = q at *
  generalize rs.length = n at *
  clear h
  go_enter Tryz.func139, Tryz.ntmps139
  go_wp2_with fail
  refine HS.out.mono ?_
  rintro e w1 ⟨rfl, hb1⟩
  go_wp2
  go_ret2
  exact ⟨rfl, hb1⟩

theorem Chain.other {w w' : World} {k : Int} {d : Nat} {e : Value} (h : Chain w k d e) (g : Nat) (hne : ∀ t v, w.cell? ⟨g, 1, none⟩ ≠ some (.iface t v)) (hb : ∀ b, b ≠ g → w'.heap[b]? = w.heap[b]?) (hs : w.heap.size ≤ w'.heap.size) : Chain w' k d e := by
  induction h with
  | hit => exact .hit
  | place d b e h hc hlt ih =>
    obtain ⟨t, v, rfl⟩ := h.shape
    have hbg : b ≠ g := fun e => hne t v (by rw [← e]; exact hc)
    exact .place d b _ ih (by rw [World.cell?_of_block (hb b hbg)]; exact hc) (by omega)

/-- A record is laid over a variable. -/
def recSet (w : World) (g : Nat) (r : RecV) : World :=
  (((((((w.setCell ⟨g, 0, none⟩ (.string r.name)).setCell ⟨g, 1, none⟩ (.int .i64 r.mode)).setCell ⟨g, 2, none⟩ (.int .i64 r.t)).setCell ⟨g, 3, none⟩ (.int .i64 r.l)).setCell ⟨g, 4, none⟩ (.int .i64 r.size)).setCell ⟨g, 5, none⟩ (.int .i64 r.epoch)).setCell ⟨g, 6, none⟩ (.slice r.sa r.sn r.sc)).setCell ⟨g, 7, none⟩ (.slice r.na r.nn r.nc)

set_option maxRecDepth 100000 in
set_option maxHeartbeats 1000000 in
theorem record_no (S : Nat) (down : Bool) (a : Option Addr) (c : Nat) (rs : List RecV) (nm : ByteArray) (w : World) (h : St w S down a c rs) (hno : hasName rs nm = false) :
    Calls Tryz.prog 85 #[.pointer (some ⟨S, 0, none⟩), .string nm] w fun e w' => ∃ ev, e = .returned (.tuple #[.agg #[.string ByteArray.empty, .int .i64 0, .int .i64 0, .int .i64 0, .int .i64 0, .int .i64 0, .slice none 0 0, .slice none 0 0], ev]) ∧ Chain w' 9 1 ev ∧ Below w.heap.size w w' := by
  have hba := (Below.refl w.heap.size w).alloc (Nat.le_refl _) (.cells #[.string ByteArray.empty, .int .i64 0, .int .i64 0, .int .i64 0, .int .i64 0, .int .i64 0, .slice none 0 0, .slice none 0 0] 152)
  have HP := hid (place_any S down a c rs nm _ (h.keeps hba (Nat.le_refl _)))
  rw [hno] at HP
  clear h hno
  go_enter Tryz.func85, Tryz.ntmps85
  go_wp2_with fail
  refine HP.out.mono ?_
  rintro e w1 ⟨rfl, hb1⟩
  obtain ⟨hc1, hf1⟩ := bcell hb1
  go_wp2_with (go_at_call 78; refine (at_chain _ _ 9 0 _ .hit).mono ?_; rintro e w2 ⟨e2, rfl, hch, hb2⟩; have HCH := hid hch; clear hch; obtain ⟨hc2, hf2⟩ := bcell (hb1.trans (hb2.mono hb1.size)))
  have hz2 : w.heap.size < w2.heap.size := by have := hb1.size; have := hb2.size; simp at *; omega
  have d1 : w2.cell? ⟨w.heap.size, 1, none⟩ = some (.int .i64 0) := (hc2 _ _ (by simp)).trans (by simp)
  have hb02 : Below w.heap.size w w2 := (hba.trans (hb1.mono (by simp))).trans (hb2.mono (by have := hb1.size; simp at this; omega))
  refine bodyPost_ret (v := .tuple #[.agg #[.string ByteArray.empty, .int .i64 0, .int .i64 0, .int .i64 0, .int .i64 0, .int .i64 0, .slice none 0 0, .slice none 0 0], e2]) ?_ rfl ⟨_, rfl, HCH.out.other w.heap.size (by intro t v; rw [d1]; simp) (fun b hb => ?_) (by simp), ?_⟩
  · simp [results, Tryz.results85, go_sem, hc2]
    rfl
  · simp [Below.heap_setCell, hb]
  · exact (((((((hb02.setCell (Nat.le_refl _) _).setCell (Nat.le_refl _) _).setCell (Nat.le_refl _) _).setCell (Nat.le_refl _) _).setCell (Nat.le_refl _) _).setCell (Nat.le_refl _) _).setCell (Nat.le_refl _) _).setCell (Nat.le_refl _) _

set_option maxRecDepth 100000 in
set_option maxHeartbeats 1000000 in
theorem record_yes (S : Nat) (down : Bool) (a : Option Addr) (c : Nat) (rs : List RecV) (r : RecV) (nm : ByteArray) (w : World) (h : St w S down a c rs) (hyes : hasName rs nm = true) (hr : r = rs[posOf rs nm]!) :
    Calls Tryz.prog 85 #[.pointer (some ⟨S, 0, none⟩), .string nm] w fun e w' => e = .returned (.tuple #[.agg #[.string r.name, .int .i64 r.mode, .int .i64 r.t, .int .i64 r.l, .int .i64 r.size, .int .i64 r.epoch, .slice r.sa r.sn r.sc, .slice r.na r.nn r.nc], .nilIface]) ∧ Below w.heap.size w w' := by
  have hba := (Below.refl w.heap.size w).alloc (Nat.le_refl _) (.cells #[.string ByteArray.empty, .int .i64 0, .int .i64 0, .int .i64 0, .int .i64 0, .int .i64 0, .slice none 0 0, .slice none 0 0] 152)
  have hS := h.keeps hba (Nat.le_refl _)
  have HP := hid (place_any S down a c rs nm _ hS)
  rw [hyes] at HP
  have hlt : posOf rs nm < rs.length := by unfold hasName at hyes; simp at hyes; exact hyes.1
  have hle := h.le
  have HST := hid hS
  have hSlt := h.lt
  obtain ⟨p, hp⟩ : ∃ p, p = posOf rs nm := ⟨_, rfl⟩
  rw [← hp] at HP hlt hr
  clear h hyes hS hp
  go_enter Tryz.func85, Tryz.ntmps85
  go_wp2_with fail
  refine HP.out.mono ?_
  rintro e w1 ⟨rfl, hb1⟩
  have hS1 := HST.out.keeps hb1 (Nat.le_refl _)
  have c1 := hS1.c1
  obtain ⟨b, o, rfl, hb, _⟩ := hS1.rd.pos (by rw [recs_length]; omega)
  obtain ⟨_, k0, k1, k2, k3, k4, k5, k6, k7⟩ := rec_at hS1.rd p hlt
  rw [← hr] at k0 k1 k2 k3 k4 k5 k6 k7
  have hc1 : ∀ o, w1.cell? ⟨w.heap.size, o, none⟩ = _ := fun o => (bcell hb1).1 w.heap.size o (by simp)
  have hf1 : ∀ o, w1.frozen? ⟨w.heap.size, o, none⟩ = _ := fun o => (bcell hb1).2 w.heap.size o (by simp)
  have hz1 : w.heap.size < w1.heap.size := by have := hb1.size; simp at this; omega
  have hb01 : Below w.heap.size w w1 := hba.trans (hb1.mono (by simp))
  have hlt' : (p : Int) < (rs.length : Int) := by omega
  generalize rs.length = n at *
  clear hr hS1 HST HP
  go_wp2_with fail
  refine bodyPost_ret (v := .tuple #[.agg #[.string r.name, .int .i64 r.mode, .int .i64 r.t, .int .i64 r.l, .int .i64 r.size, .int .i64 r.epoch, .slice r.sa r.sn r.sc, .slice r.na r.nn r.nc], .nilIface]) ?_ rfl ⟨rfl, ?_⟩
  · simp [results, Tryz.results85, go_sem, hc1]
  · exact (((((((hb01.setCell (Nat.le_refl _) _).setCell (Nat.le_refl _) _).setCell (Nat.le_refl _) _).setCell (Nat.le_refl _) _).setCell (Nat.le_refl _) _).setCell (Nat.le_refl _) _).setCell (Nat.le_refl _) _).setCell (Nat.le_refl _) _
end Go.Proofs.YtcegdgmbponapaaGreatDoor

namespace Go.Proofs.YtcegdgmbponapaaGreatDoor
open Go.RowKit
attribute [local go_sem ↓] Go.wp_at_zero Go.wp_at_succ

theorem Chain.setCell {w : World} {k : Int} {d : Nat} {e : Value} (h : Chain w k d e) (g o : Nat) (u : Value) (hne : ∀ t v, w.cell? ⟨g, 1, none⟩ ≠ some (.iface t v)) : Chain (w.setCell ⟨g, o, none⟩ u) k d e := by
  induction h with
  | hit => exact .hit
  | place d b e h hc hb ih =>
    obtain ⟨t, v, rfl⟩ := h.shape
    have hbg : b ≠ g := fun e => hne t v (by rw [← e]; exact hc)
    exact .place d b _ ih (by rw [World.cell?_of_block (Below.heap_setCell w ⟨g, o, none⟩ u b hbg)]; exact hc) (by simpa using hb)

def noLay : Value := .agg #[.slice none 0 0, .slice none 0 0, .int .i64 0]

theorem Chain.setLay {w : World} {k : Int} {d : Nat} {e : Value} (h : Chain w k d e) (g : Nat) (h1 : w.cell? ⟨g, 1, none⟩ = some (.slice none 0 0)) :
    Chain (((w.setCell ⟨g, 0, none⟩ (.slice none 0 0)).setCell ⟨g, 1, none⟩ (.slice none 0 0)).setCell ⟨g, 2, none⟩ (.int .i64 0)) k d e := by
  have e1 : (w.setCell ⟨g, 0, none⟩ (.slice none 0 0)).cell? ⟨g, 1, none⟩ = some (.slice none 0 0) := by
    simp [go_sem, h1]
  have e2 : ((w.setCell ⟨g, 0, none⟩ (.slice none 0 0)).setCell ⟨g, 1, none⟩ (.slice none 0 0)).cell? ⟨g, 1, none⟩ = some (.slice none 0 0) := World.cell?_setCell_same _ _ _ e1
  refine ((h.setCell g 0 _ ?_).setCell g 1 _ ?_).setCell g 2 _ ?_
  · intro t v; rw [h1]; simp
  · intro t v; rw [e1]; simp
  · intro t v; rw [e2]; simp

set_option maxRecDepth 100000 in
set_option maxHeartbeats 1000000 in
theorem layoutFor_noplan (m t l n size : Int) (w : World) (hm : I64 m) (ht : I64 t) (hl : I64 l) (hn : I64 n) (h : ¬ (1 ≤ n ∧ n ≤ 8 ∧ Fits m t l n)) (hT : Tab w) :
    Calls Tryz.prog 91 #[.agg #[.int .i64 m, .int .i64 t, .int .i64 l], .int .i64 n, .int .i64 size] w fun e w' =>
      ∃ ev, e = .returned (.tuple #[noLay, ev]) ∧ Chain w' 3 1 ev ∧ Below w.heap.size w w' := by
  have hba := ((Below.refl w.heap.size w).alloc (Nat.le_refl _) (.cells #[.int .i64 m, .int .i64 t, .int .i64 l] 29)).alloc (by simp) (.cells #[.slice none 0 0, .slice none 0 0, .int .i64 0] 165)
  have HH := hid (checkPlan_bad m t l n _ hm ht hl hn h (hT.keeps hba (Nat.le_refl _)))
  clear h hT hm ht hl hn
  go_enter Tryz.func91, Tryz.ntmps91
  go_wp2_with fail
  refine HH.out.mono ?_
  rintro e w1 ⟨ev, rfl, hch, hb1⟩
  obtain ⟨te, ve, rfl⟩ := hch.shape
  obtain ⟨hc1, hf1⟩ := bcell hb1
  have HC := hid hch
  have hz1 : w.heap.size + 1 < w1.heap.size := by have := hb1.size; simp at this; omega
  have c0 : w1.cell? ⟨w.heap.size + 1, 0, none⟩ = some (.slice none 0 0) := (hc1 _ _ (by simp)).trans (by simp)
  have c1 : w1.cell? ⟨w.heap.size + 1, 1, none⟩ = some (.slice none 0 0) := (hc1 _ _ (by simp)).trans (by simp)
  have c2 : w1.cell? ⟨w.heap.size + 1, 2, none⟩ = some (.int .i64 0) := (hc1 _ _ (by simp)).trans (by simp)
  clear hch
  go_wp2_with fail
  refine bodyPost_ret (v := .tuple #[noLay, .iface te ve]) ?_ rfl ⟨_, rfl, HC.out.setLay _ c1, ?_⟩
  · simp [results, Tryz.results91, go_sem, hc1, noLay]
  · exact ((hba.trans (hb1.mono (by simp; omega))).setCell (by simp) _ |>.setCell (by simp) _).setCell (by simp) _

set_option maxRecDepth 100000 in
set_option maxHeartbeats 1000000 in
theorem layoutFor_big (mode t l n : Nat) (size : Int) (w : World) (h : IsPlan mode t l n) (hs : I64 size) (hbig : size < 0 ∨ 60 < size) (hT : Tab w) :
    Calls Tryz.prog 91 #[.agg #[.int .i64 mode, .int .i64 t, .int .i64 l], .int .i64 n, .int .i64 size] w fun e w' =>
      ∃ ev, e = .returned (.tuple #[noLay, ev]) ∧ Chain w' 4 1 ev ∧ Below w.heap.size w w' := by
  have hba := ((Below.refl w.heap.size w).alloc (Nat.le_refl _) (.cells #[.int .i64 mode, .int .i64 t, .int .i64 l] 29)).alloc (by simp) (.cells #[.slice none 0 0, .slice none 0 0, .int .i64 0] 165)
  have HT := hid (hT.keeps hba (Nat.le_refl _))
  have HS := hid hs
  have HP := hid h
  clear hT h
  rcases hbig with hbig | hbig
  · go_enter Tryz.func91, Tryz.ntmps91
    go_wp2_with fail
    refine (checkPlan_ok mode t l n _ HP.out).mono ?_
    rintro e w1 ⟨rfl, hb1⟩
    have HT1 := hid (HT.out.keeps hb1 (Nat.le_refl _))
    go_wp2_with (go_at_call 130; refine (atCount_any size _ _ 4 0 _ HS.out (by decide) HT1.out .hit).mono ?_; rintro e w3 ⟨ev, rfl, hch, hb3⟩; obtain ⟨hc3, hf3⟩ := bcell (hb1.trans (hb3.mono hb1.size)); have hz3 : w.heap.size + 1 < w3.heap.size := (by have := hb1.size; have := hb3.size; simp at *; omega); have c0 : w3.cell? ⟨w.heap.size + 1, 0, none⟩ = some (.slice none 0 0) := (hc3 _ _ (by simp)).trans (by simp); have c1 : w3.cell? ⟨w.heap.size + 1, 1, none⟩ = some (.slice none 0 0) := (hc3 _ _ (by simp)).trans (by simp); have HC := hid hch; clear hch)
    refine bodyPost_ret (v := .tuple #[noLay, ev]) ?_ rfl ⟨_, rfl, HC.out.setLay _ c1, ?_⟩
    · simp [results, Tryz.results91, go_sem, hc3, noLay]
    · exact (((hba.trans (hb1.mono (by simp; omega))).trans (hb3.mono (by have := hb1.size; simp at this; omega))).setCell (by simp) _ |>.setCell (by simp) _).setCell (by simp) _
  · have h0 : ¬ size < 0 := by omega
    go_enter Tryz.func91, Tryz.ntmps91
    go_wp2_with fail
    refine (checkPlan_ok mode t l n _ HP.out).mono ?_
    rintro e w1 ⟨rfl, hb1⟩
    have HT1 := hid (HT.out.keeps hb1 (Nat.le_refl _))
    go_wp2_with (go_at_call 130; refine (atCount_any size _ _ 4 0 _ HS.out (by decide) HT1.out .hit).mono ?_; rintro e w3 ⟨ev, rfl, hch, hb3⟩; obtain ⟨hc3, hf3⟩ := bcell (hb1.trans (hb3.mono hb1.size)); have hz3 : w.heap.size + 1 < w3.heap.size := (by have := hb1.size; have := hb3.size; simp at *; omega); have c0 : w3.cell? ⟨w.heap.size + 1, 0, none⟩ = some (.slice none 0 0) := (hc3 _ _ (by simp)).trans (by simp); have c1 : w3.cell? ⟨w.heap.size + 1, 1, none⟩ = some (.slice none 0 0) := (hc3 _ _ (by simp)).trans (by simp); have HC := hid hch; clear hch)
    refine bodyPost_ret (v := .tuple #[noLay, ev]) ?_ rfl ⟨_, rfl, HC.out.setLay _ c1, ?_⟩
    · simp [results, Tryz.results91, go_sem, hc3, noLay]
    · exact (((hba.trans (hb1.mono (by simp; omega))).trans (hb3.mono (by have := hb1.size; simp at this; omega))).setCell (by simp) _ |>.setCell (by simp) _).setCell (by simp) _
end Go.Proofs.YtcegdgmbponapaaGreatDoor
