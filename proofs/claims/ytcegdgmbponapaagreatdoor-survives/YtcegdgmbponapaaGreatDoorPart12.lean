/-
  A store's records: where a name is.
  A store: place, Record, CheckUp, SetUp.
-/
import Derived.Test.YtcegdgmbponapaaGreatDoorPart11
import Derived.Test.YtcegdgmbponapaaGreatDoorCompare
import Derived.Test.YtcegdgmbponapaaGreatDoorPart10
import Derived.BigQuiet
namespace Go.Proofs.YtcegdgmbponapaaGreatDoor
open Go.RowKit
attribute [local go_sem ↓] Go.wp_at_zero Go.wp_at_succ

theorem Tryz.cellsRec : (Tryz.prog.info? 152).map (fun i => i.size) = some 8 := by kernel_rfl

set_option maxRecDepth 100000 in
theorem cmp_any (r : RecV) (nm : ByteArray) (w : World) :
    Calls Tryz.prog 188 #[.agg #[.string r.name, .int .i64 r.mode, .int .i64 r.t, .int .i64 r.l, .int .i64 r.size, .int .i64 r.epoch, .slice r.sa r.sn r.sc, .slice r.na r.nn r.nc], .string nm] w fun e w' => e = .returned (.int .i64 (cmpB r.name nm)) ∧ Below w.heap.size w w' := by
  obtain ⟨name, mode, t, l, size, epoch, sa, sn, sc, na, nn, nc⟩ := r
  have hba := (Below.refl w.heap.size w).alloc (Nat.le_refl _) (.cells #[.string name, .int .i64 mode, .int .i64 t, .int .i64 l, .int .i64 size, .int .i64 epoch, .slice sa sn sc, .slice na nn nc] 152)
  go_enter Tryz.func188, Tryz.ntmps188
  go_wp2_with (go_at_call 189; refine (Tryz.strings_Compare _ _ _).mono ?_; rintro e w1 ⟨rfl, rfl⟩)
  go_ret
  exact ⟨rfl, hba⟩

/-- A list of records, as it lies. -/
theorem rec_at {w : World} {b o : Nat} {rs : List RecV} (h : Rd w (some ⟨b, o, none⟩) (recs rs)) (k : Nat) (hk : k < rs.length) : b < w.heap.size ∧
    w.cell? ⟨b, o + k * 8, none⟩ = some (.string (rs[k]!).name) ∧ w.cell? ⟨b, o + k * 8 + 1, none⟩ = some (.int .i64 (rs[k]!).mode) ∧ w.cell? ⟨b, o + k * 8 + 2, none⟩ = some (.int .i64 (rs[k]!).t) ∧ w.cell? ⟨b, o + k * 8 + 3, none⟩ = some (.int .i64 (rs[k]!).l) ∧
    w.cell? ⟨b, o + k * 8 + 4, none⟩ = some (.int .i64 (rs[k]!).size) ∧ w.cell? ⟨b, o + k * 8 + 5, none⟩ = some (.int .i64 (rs[k]!).epoch) ∧ w.cell? ⟨b, o + k * 8 + 6, none⟩ = some (.slice (rs[k]!).sa (rs[k]!).sn (rs[k]!).sc) ∧ w.cell? ⟨b, o + k * 8 + 7, none⟩ = some (.slice (rs[k]!).na (rs[k]!).nn (rs[k]!).nc) := by
  rw [getElem!_pos rs k hk]
  have key : ∀ j v, j < 8 → (rs[k]).cells[j]? = some v → b < w.heap.size ∧ w.cell? ⟨b, o + (k * 8 + j), none⟩ = some v := by
    intro j v hj hv
    obtain ⟨b', o', h1, h2, h3⟩ := h (k * 8 + j) v (by rw [recs_at rs k j hk hj]; exact hv)
    simp at h1
    obtain ⟨rfl, rfl⟩ := h1
    exact ⟨h2, h3⟩
  refine ⟨(key 0 _ (by decide) rfl).1, ?_, ?_, ?_, ?_, ?_, ?_, ?_, ?_⟩
  · exact (key 0 _ (by decide) rfl).2
  · exact (key 1 _ (by decide) rfl).2
  · exact (key 2 _ (by decide) rfl).2
  · exact (key 3 _ (by decide) rfl).2
  · exact (key 4 _ (by decide) rfl).2
  · exact (key 5 _ (by decide) rfl).2
  · exact (key 6 _ (by decide) rfl).2
  · exact (key 7 _ (by decide) rfl).2

theorem half_shr (lo hi : Nat) (h : lo + hi ≤ 1000) : IntKind.i64.wrap (IntKind.u64.wrap ((lo : Int) + (hi : Int)) / 2) = (((lo + hi) / 2 : Nat) : Int) := by
  rw [IntKind.wrap_u64, IntKind.wrap_i64]; omega

set_option maxRecDepth 100000 in
set_option maxHeartbeats 1000000 in
theorem search_any (a : Option Addr) (n c : Nat) (rs : List RecV) (nm : ByteArray) (w : World) (en : n = rs.length) (hr : Rd w a (recs rs)) (hn : n ≤ 100) (hs : Sorted rs) :
    Calls Tryz.prog 187 #[.slice a n c, .string nm, .func (.func 188) #[] #[]] w fun e w' => e = .returned (.tuple #[.int .i64 (posOf rs nm : Nat), .bool (hasName rs nm)]) ∧ Below w.heap.size w w' := by
  have EN := hid en
  have HS := hid hs
  have HR := hid hr
  clear en hs hr
  go_enter Tryz.func187, Tryz.ntmps187
  go_wp2
  go_loopw [9, 10] (fun u v wr => ∃ lo hi : Nat, u = .int .i64 lo ∧ v = .int .i64 hi ∧ lo ≤ hi ∧ hi ≤ n ∧ (∀ k, k < lo → cmpB (rs[k]!).name nm < 0) ∧ (∀ k, hi ≤ k → k < n → 0 ≤ cmpB (rs[k]!).name nm) ∧ Below w.heap.size w wr) (fun u v _ => (intOf v).toNat - (intOf u).toNat)
  case atStart => exact ⟨0, n, rfl, rfl, Nat.zero_le _, Nat.le_refl _, fun k hk => by omega, fun k h1 h2 => by omega, Below.refl _ _⟩
  case round =>
    obtain ⟨lo, hi, rfl, rfl, hlh, hhn, hbelow, habove, hbel⟩ := hrel
    have HBL := hid hbelow
    have HAB := hid habove
    clear hbelow habove
    by_cases hlt : lo < hi
    · obtain ⟨md, hmd⟩ : ∃ md, md = (lo + hi) / 2 := ⟨_, rfl⟩
      have hm1 : lo ≤ md := by omega
      have hm2 : md < hi := by omega
      have hlt' : (lo : Int) < (hi : Int) := by omega
      obtain ⟨b, o, rfl, hb, _⟩ := HR.out.pos (by rw [recs_length, ← EN.out]; omega)
      obtain ⟨_, k0, k1, k2, k3, k4, k5, k6, k7⟩ := rec_at (HR.out.below hbel (Nat.le_refl _)) md (by rw [← EN.out]; omega)
      have hhalf : ((lo : Int) + (hi : Int)) / 2 = (md : Int) := by omega
      have hmn : (md : Int) < (n : Int) := by omega
      have HMD := hid hmd
      clear hmd
      obtain ⟨r, hr⟩ : ∃ r, r = rs[md]! := ⟨_, rfl⟩
      rw [← hr] at k0 k1 k2 k3 k4 k5 k6 k7
      have HRR := hid hr
      clear hr
      have HC := hid (fun w' => cmp_any r nm w')
      by_cases hneg : cmpB r.name nm < 0
      · have HLT := hid hneg
        go_wp2_with fail
        refine (HC.out _).mono ?_
        rintro e w1 ⟨rfl, hb1⟩
        have hb01 := hbel.trans (hb1.mono hbel.size)
        go_wp2
        go_roundw
        case rel => exact ⟨md + 1, hi, by go_num, rfl, by omega, hhn, fun k hk => HS.out.mono nm k md (by omega) (by rw [← EN.out]; omega) (by rw [← HRR.out]; exact HLT.out), HAB.out, hb01⟩
        case measure => simp [intOf]; omega
      · have HLT := hid hneg
        go_wp2_with fail
        refine (HC.out _).mono ?_
        rintro e w1 ⟨rfl, hb1⟩
        have hb01 := hbel.trans (hb1.mono hbel.size)
        go_wp2
        go_roundw
        case rel => exact ⟨lo, md, rfl, rfl, hm1, by omega, HBL.out, fun k h1 h2 => Int.not_lt.1 fun h3 => Int.not_lt.2 HLT.out (by rw [HRR.out]; exact HS.out.mono nm md k h1 (by rw [← EN.out]; exact h2) h3), hb01⟩
        case measure => simp [intOf]; omega
    · have hlo : hi = lo := by omega
      subst hlo
      have HP := hid (posOf_eq rs nm hi (by rw [← EN.out]; exact hhn) HBL.out (fun k h1 h2 => Int.not_lt.2 (HAB.out k h1 (by rw [EN.out]; exact h2))))
      have HHN := hid (show hasName rs nm = (decide (hi < n) && decide (cmpB (rs[hi]!).name nm = 0)) by unfold hasName; rw [HP.out, EN.out])
      by_cases hin : hi < n
      · obtain ⟨b, o, rfl, hb, _⟩ := HR.out.pos (by rw [recs_length, ← EN.out]; omega)
        obtain ⟨_, k0, k1, k2, k3, k4, k5, k6, k7⟩ := rec_at (HR.out.below hbel (Nat.le_refl _)) hi (by rw [← EN.out]; omega)
        obtain ⟨r, hr⟩ : ∃ r, r = rs[hi]! := ⟨_, rfl⟩
        rw [← hr] at k0 k1 k2 k3 k4 k5 k6 k7 HHN
        clear hr
        have hin' : (hi : Int) < (n : Int) := by omega
        have HIN := hid hin
        clear hin
        go_wp2_with fail
        refine (cmp_any r nm _).mono ?_
        rintro e w1 ⟨rfl, hb1⟩
        have hb01 := hbel.trans (hb1.mono hbel.size)
        go_wp2
        go_ret2
        rw [HP.out, HHN.out, decide_eq_true HIN.out]
        exact ⟨rfl, hb01⟩
      · have hin' : ¬ (hi : Int) < (n : Int) := by omega
        have HIN := hid hin
        clear hin
        go_wp2
        go_ret2
        rw [HP.out, HHN.out, decide_eq_false HIN.out]
        exact ⟨rfl, hbel⟩
end Go.Proofs.YtcegdgmbponapaaGreatDoor

namespace Go.Proofs.YtcegdgmbponapaaGreatDoor
open Go.RowKit
attribute [local go_sem ↓] Go.wp_at_zero Go.wp_at_succ

/-- A store, as it lies. -/
structure St (w : World) (S : Nat) (down : Bool) (a : Option Addr) (c : Nat) (rs : List RecV) : Prop where
  lt : S < w.heap.size
  c0 : w.cell? ⟨S, 0, none⟩ = some (.bool down)
  c1 : w.cell? ⟨S, 1, none⟩ = some (.slice a rs.length c)
  rd : Rd w a (recs rs)
  so : Sorted rs
  le : rs.length ≤ 10

theorem St.keeps {B : Nat} {w w' : World} {S : Nat} {down : Bool} {a : Option Addr} {c : Nat} {rs : List RecV} (h : St w S down a c rs) (hb : Below B w w') (hB : w.heap.size ≤ B) : St w' S down a c rs :=
  ⟨Nat.lt_of_lt_of_le h.lt hb.size, by rw [hb.cell (by exact Nat.lt_of_lt_of_le h.lt hB)]; exact h.c0, by rw [hb.cell (by exact Nat.lt_of_lt_of_le h.lt hB)]; exact h.c1, h.rd.below hb hB, h.so, h.le⟩

set_option maxRecDepth 100000 in
theorem place_any (S : Nat) (down : Bool) (a : Option Addr) (c : Nat) (rs : List RecV) (nm : ByteArray) (w : World) (h : St w S down a c rs) :
    Calls Tryz.prog 139 #[.pointer (some ⟨S, 0, none⟩), .string nm] w fun e w' => e = .returned (.tuple #[.int .i64 (posOf rs nm : Nat), .bool (hasName rs nm)]) ∧ Below w.heap.size w w' := by
  have HS := hid (search_any a rs.length c rs nm w rfl h.rd (Nat.le_trans h.le (by decide)) h.so)
  have c1 := h.c1
  generalize posOf rs nm = p at *
  generalize hasName rs nm = q at *
  generalize rs.length = n at *
  clear h
  go_enter Tryz.func139, Tryz.ntmps139
  go_wp2_with fail
  refine HS.out.mono ?_
  rintro e w1 ⟨rfl, hb1⟩
  go_wp2
  go_ret2
  exact ⟨rfl, hb1⟩

theorem Chain.other {w w' : World} {k : Int} {d : Nat} {e : Value} (h : Chain w k d e) (g : Nat) (hne : ∀ t v, w.cell? ⟨g, 1, none⟩ ≠ some (.iface t v)) (hb : ∀ b, b ≠ g → w'.heap[b]? = w.heap[b]?) (hs : w.heap.size ≤ w'.heap.size) : Chain w' k d e := by
  induction h with
  | hit => exact .hit
  | place d b e h hc hlt ih =>
    obtain ⟨t, v, rfl⟩ := h.shape
    have hbg : b ≠ g := fun e => hne t v (by rw [← e]; exact hc)
    exact .place d b _ ih (by rw [World.cell?_of_block (hb b hbg)]; exact hc) (by omega)

/-- A record is laid over a variable. -/
def recSet (w : World) (g : Nat) (r : RecV) : World :=
  (((((((w.setCell ⟨g, 0, none⟩ (.string r.name)).setCell ⟨g, 1, none⟩ (.int .i64 r.mode)).setCell ⟨g, 2, none⟩ (.int .i64 r.t)).setCell ⟨g, 3, none⟩ (.int .i64 r.l)).setCell ⟨g, 4, none⟩ (.int .i64 r.size)).setCell ⟨g, 5, none⟩ (.int .i64 r.epoch)).setCell ⟨g, 6, none⟩ (.slice r.sa r.sn r.sc)).setCell ⟨g, 7, none⟩ (.slice r.na r.nn r.nc)

set_option maxRecDepth 100000 in
set_option maxHeartbeats 1000000 in
theorem record_no (S : Nat) (down : Bool) (a : Option Addr) (c : Nat) (rs : List RecV) (nm : ByteArray) (w : World) (h : St w S down a c rs) (hno : hasName rs nm = false) :
    Calls Tryz.prog 85 #[.pointer (some ⟨S, 0, none⟩), .string nm] w fun e w' => ∃ ev, e = .returned (.tuple #[.agg #[.string ByteArray.empty, .int .i64 0, .int .i64 0, .int .i64 0, .int .i64 0, .int .i64 0, .slice none 0 0, .slice none 0 0], ev]) ∧ Chain w' 9 1 ev ∧ Below w.heap.size w w' := by
  have hba := (Below.refl w.heap.size w).alloc (Nat.le_refl _) (.cells #[.string ByteArray.empty, .int .i64 0, .int .i64 0, .int .i64 0, .int .i64 0, .int .i64 0, .slice none 0 0, .slice none 0 0] 152)
  have HP := hid (place_any S down a c rs nm _ (h.keeps hba (Nat.le_refl _)))
  rw [hno] at HP
  clear h hno
  go_enter Tryz.func85, Tryz.ntmps85
  go_wp2_with fail
  refine HP.out.mono ?_
  rintro e w1 ⟨rfl, hb1⟩
  obtain ⟨hc1, hf1⟩ := bcell hb1
  go_wp2_with (go_at_call 78; refine (at_chain _ _ 9 0 _ .hit).mono ?_; rintro e w2 ⟨e2, rfl, hch, hb2⟩; have HCH := hid hch; clear hch; obtain ⟨hc2, hf2⟩ := bcell (hb1.trans (hb2.mono hb1.size)))
  have hz2 : w.heap.size < w2.heap.size := by have := hb1.size; have := hb2.size; simp at *; omega
  have d1 : w2.cell? ⟨w.heap.size, 1, none⟩ = some (.int .i64 0) := (hc2 _ _ (by simp)).trans (by simp)
  have hb02 : Below w.heap.size w w2 := (hba.trans (hb1.mono (by simp))).trans (hb2.mono (by have := hb1.size; simp at this; omega))
  refine bodyPost_ret (v := .tuple #[.agg #[.string ByteArray.empty, .int .i64 0, .int .i64 0, .int .i64 0, .int .i64 0, .int .i64 0, .slice none 0 0, .slice none 0 0], e2]) ?_ rfl ⟨_, rfl, HCH.out.other w.heap.size (by intro t v; rw [d1]; simp) (fun b hb => ?_) (by simp), ?_⟩
  · simp [results, Tryz.results85, go_sem, hc2]
    rfl
  · simp [Below.heap_setCell, hb]
  · exact (((((((hb02.setCell (Nat.le_refl _) _).setCell (Nat.le_refl _) _).setCell (Nat.le_refl _) _).setCell (Nat.le_refl _) _).setCell (Nat.le_refl _) _).setCell (Nat.le_refl _) _).setCell (Nat.le_refl _) _).setCell (Nat.le_refl _) _

set_option maxRecDepth 100000 in
set_option maxHeartbeats 1000000 in
theorem record_yes (S : Nat) (down : Bool) (a : Option Addr) (c : Nat) (rs : List RecV) (r : RecV) (nm : ByteArray) (w : World) (h : St w S down a c rs) (hyes : hasName rs nm = true) (hr : r = rs[posOf rs nm]!) :
    Calls Tryz.prog 85 #[.pointer (some ⟨S, 0, none⟩), .string nm] w fun e w' => e = .returned (.tuple #[.agg #[.string r.name, .int .i64 r.mode, .int .i64 r.t, .int .i64 r.l, .int .i64 r.size, .int .i64 r.epoch, .slice r.sa r.sn r.sc, .slice r.na r.nn r.nc], .nilIface]) ∧ Below w.heap.size w w' := by
  have hba := (Below.refl w.heap.size w).alloc (Nat.le_refl _) (.cells #[.string ByteArray.empty, .int .i64 0, .int .i64 0, .int .i64 0, .int .i64 0, .int .i64 0, .slice none 0 0, .slice none 0 0] 152)
  have hS := h.keeps hba (Nat.le_refl _)
  have HP := hid (place_any S down a c rs nm _ hS)
  rw [hyes] at HP
  have hlt : posOf rs nm < rs.length := by unfold hasName at hyes; simp at hyes; exact hyes.1
  have hle := h.le
  have HST := hid hS
  have hSlt := h.lt
  obtain ⟨p, hp⟩ : ∃ p, p = posOf rs nm := ⟨_, rfl⟩
  rw [← hp] at HP hlt hr
  clear h hyes hS hp
  go_enter Tryz.func85, Tryz.ntmps85
  go_wp2_with fail
  refine HP.out.mono ?_
  rintro e w1 ⟨rfl, hb1⟩
  have hS1 := HST.out.keeps hb1 (Nat.le_refl _)
  have c1 := hS1.c1
  obtain ⟨b, o, rfl, hb, _⟩ := hS1.rd.pos (by rw [recs_length]; omega)
  obtain ⟨_, k0, k1, k2, k3, k4, k5, k6, k7⟩ := rec_at hS1.rd p hlt
  rw [← hr] at k0 k1 k2 k3 k4 k5 k6 k7
  have hc1 : ∀ o, w1.cell? ⟨w.heap.size, o, none⟩ = _ := fun o => (bcell hb1).1 w.heap.size o (by simp)
  have hf1 : ∀ o, w1.frozen? ⟨w.heap.size, o, none⟩ = _ := fun o => (bcell hb1).2 w.heap.size o (by simp)
  have hz1 : w.heap.size < w1.heap.size := by have := hb1.size; simp at this; omega
  have hb01 : Below w.heap.size w w1 := hba.trans (hb1.mono (by simp))
  have hlt' : (p : Int) < (rs.length : Int) := by omega
  generalize rs.length = n at *
  clear hr hS1 HST HP
  go_wp2_with fail
  refine bodyPost_ret (v := .tuple #[.agg #[.string r.name, .int .i64 r.mode, .int .i64 r.t, .int .i64 r.l, .int .i64 r.size, .int .i64 r.epoch, .slice r.sa r.sn r.sc, .slice r.na r.nn r.nc], .nilIface]) ?_ rfl ⟨rfl, ?_⟩
  · simp [results, Tryz.results85, go_sem, hc1]
  · exact (((((((hb01.setCell (Nat.le_refl _) _).setCell (Nat.le_refl _) _).setCell (Nat.le_refl _) _).setCell (Nat.le_refl _) _).setCell (Nat.le_refl _) _).setCell (Nat.le_refl _) _).setCell (Nat.le_refl _) _).setCell (Nat.le_refl _) _
end Go.Proofs.YtcegdgmbponapaaGreatDoor
