/-
  cutting.PieceLength.
  A vault that is only read: label, allUp.
-/
import Derived.Test.YtcegdgmbponapaaGreatDoorPart13
import Derived.Test.YtcegdgmbponapaaGreatDoorPart12
namespace Go.Proofs.YtcegdgmbponapaaGreatDoor
open Go.RowKit
attribute [local go_sem ↓] Go.wp_at_zero Go.wp_at_succ

set_option maxRecDepth 100000 in
theorem at_nil (where_ : ByteArray) (w : World) :
    Calls Tryz.prog 78 #[.string where_, .nilIface] w fun e w' => e = .returned .nilIface ∧ w' = w := by
  go_enter Tryz.func78, Tryz.ntmps78
  go_wp2
  go_ret
  exact ⟨rfl, rfl⟩

set_option maxRecDepth 100000 in
set_option maxHeartbeats 1000000 in
theorem length_ok (mode t l n size : Nat) (w : World) (h : IsPlan mode t l n) (hs : size ≤ 60) :
    Calls Tryz.prog 240 #[.agg #[.int .i64 mode, .int .i64 t, .int .i64 l], .int .i64 n, .int .i64 size] w fun e w' => e = .returned (.tuple #[.int .i64 (Cof.ngroups mode t l size : Nat), .nilIface]) ∧ Below w.heap.size w w' := by
  have hba := (Below.refl w.heap.size w).alloc (Nat.le_refl _) (.cells #[.int .i64 mode, .int .i64 t, .int .i64 l] 29)
  have HL := hid (layoutFor_ok mode t l n size (w.alloc (.cells #[.int .i64 mode, .int .i64 t, .int .i64 l] 29)) h hs)
  generalize Cof.gsize mode t l = gs at *
  generalize Cof.tsize mode t = ts at *
  generalize Cof.ngroups mode t l size = ng at *
  clear h
  go_enter Tryz.func240, Tryz.ntmps240
  go_wp2_with fail
  refine HL.out.mono ?_
  rintro e w1 ⟨ag, cg, at', ct, rfl, hlay, hb1⟩
  have hb01 : Below w.heap.size w w1 := hba.trans (hb1.mono (by simp))
  clear hlay HL
  go_wp2_with fail
  obtain ⟨w2, hw2⟩ : ∃ w2, w2 = w1.alloc (.cells #[.slice ag gs cg, .slice at' ts ct, .int .i64 ng] 165) := ⟨_, rfl⟩
  have hb02 : Below w.heap.size w w2 := by rw [hw2]; exact hb01.alloc hb01.size _
  have d2 : w2.cell? ⟨w1.heap.size, 2, none⟩ = some (.int .i64 ng) := by rw [hw2]; simp
  rw [← hw2]
  clear hw2
  go_region_held3 (fun w' => w'.cell? ⟨w1.heap.size, 2, none⟩ = some (.int .i64 ng)) (first | exact d2 | go_keep)
    (first | (go_at_call 78; refine (at_nil _ _).mono ?_; rintro e w3 ⟨rfl, rfl⟩))
  go_wp2
  go_ret2
  exact ⟨rfl, hb02.drew⟩

set_option maxRecDepth 100000 in
set_option maxHeartbeats 1000000 in
theorem length_no (m t l n size k : Int) (w : World) (hT : Tab w)
    (h : ∀ w, Tab w → Calls Tryz.prog 91 #[.agg #[.int .i64 m, .int .i64 t, .int .i64 l], .int .i64 n, .int .i64 size] w fun e w' => ∃ ev, e = .returned (.tuple #[noLay, ev]) ∧ Chain w' k 1 ev ∧ Below w.heap.size w w') :
    Calls Tryz.prog 240 #[.agg #[.int .i64 m, .int .i64 t, .int .i64 l], .int .i64 n, .int .i64 size] w fun e w' => ∃ ev, e = .returned (.tuple #[.int .i64 0, ev]) ∧ Chain w' k 2 ev ∧ Below w.heap.size w w' := by
  have hba := (Below.refl w.heap.size w).alloc (Nat.le_refl _) (.cells #[.int .i64 m, .int .i64 t, .int .i64 l] 29)
  have HH := hid (h _ (hT.keeps hba (Nat.le_refl _)))
  clear h hT
  go_enter Tryz.func240, Tryz.ntmps240
  go_wp2_with fail
  refine HH.out.mono ?_
  rintro e w1 ⟨ev, rfl, hch, hb1⟩
  obtain ⟨te, ve, rfl⟩ := hch.shape
  have hb01 : Below w.heap.size w w1 := hba.trans (hb1.mono (by simp))
  have hbl := (Below.refl w1.heap.size w1).alloc (Nat.le_refl _) (.cells #[.slice none 0 0, .slice none 0 0, .int .i64 0] 165)
  have HC := hid (hch.keeps hbl (Nat.le_refl _))
  unfold noLay
  clear hch
  go_wp2_with fail
  obtain ⟨w2, hw2⟩ : ∃ w2, w2 = w1.alloc (.cells #[.slice none 0 0, .slice none 0 0, .int .i64 0] 165) := ⟨_, rfl⟩
  have hz2 : w2.heap.size = w1.heap.size + 1 := by rw [hw2]; simp
  have d2 : w2.cell? ⟨w1.heap.size, 2, none⟩ = some (.int .i64 0) := by rw [hw2]; simp
  rw [← hw2] at HC hbl ⊢
  clear hw2
  go_region_held3 (fun w' => w'.cell? ⟨w1.heap.size, 2, none⟩ = some (.int .i64 0)) (first | exact d3 | exact d2 | go_keep)
    (first | (go_at_call 78; refine (at_chain _ _ k 1 _ (by exact HC.out.keeps (Below.refl _ _).drew (Nat.le_refl _))).mono ?_; rintro e w3 ⟨e3, rfl, hch3, hb3⟩; have d3 : w3.cell? ⟨w1.heap.size, 2, none⟩ = some (.int .i64 0) := (((Below.refl w2.heap.size w2).drew.trans hb3).cell (by show w1.heap.size < w2.heap.size; omega)).trans d2))
  go_wp2
  go_ret2
  exact ⟨_, rfl, hch3, ((hb01.trans (hbl.mono hb01.size)).drew).trans (hb3.mono (by show w.heap.size ≤ w2.heap.size; have := hb01.size; omega))⟩
end Go.Proofs.YtcegdgmbponapaaGreatDoor

namespace Go.Proofs.YtcegdgmbponapaaGreatDoor
open Go.RowKit
attribute [local go_sem ↓] Go.wp_at_zero Go.wp_at_succ

/-- A vault, as it lies: the key, the stores' addresses. -/
structure Va (w : World) (V key n : Nat) (b o c : Nat) (sp : Nat → Nat) : Prop where
  lt : V < w.heap.size
  c0 : w.cell? ⟨V, 0, none⟩ = some (.int .u64 key)
  c1 : w.cell? ⟨V, 1, none⟩ = some (.slice (some ⟨b, o, none⟩) n c)
  bl : b < w.heap.size
  st : ∀ i, i < n → w.cell? ⟨b, o + i, none⟩ = some (.pointer (some ⟨sp i, 0, none⟩))

theorem Va.keeps {B : Nat} {w w' : World} {V key n b o c : Nat} {sp : Nat → Nat} (h : Va w V key n b o c sp) (hb : Below B w w') (hB : w.heap.size ≤ B) : Va w' V key n b o c sp :=
  ⟨Nat.lt_of_lt_of_le h.lt hb.size, by rw [hb.cell (by exact Nat.lt_of_lt_of_le h.lt hB)]; exact h.c0, by rw [hb.cell (by exact Nat.lt_of_lt_of_le h.lt hB)]; exact h.c1, Nat.lt_of_lt_of_le h.bl hb.size, fun i hi => by rw [hb.cell (by exact Nat.lt_of_lt_of_le h.bl hB)]; exact h.st i hi⟩

set_option maxRecDepth 100000 in
set_option maxHeartbeats 1000000 in
theorem label_any (V key n b o c : Nat) (sp : Nat → Nat) (s mode t l size epoch : Nat) (name : ByteArray) (w : World) (h : Va w V key n b o c sp) :
    Calls Tryz.prog 137 #[.pointer (some ⟨V, 0, none⟩), .int .i64 s, .agg #[.string name, .int .i64 mode, .int .i64 t, .int .i64 l, .int .i64 size, .int .i64 epoch]] w fun e w' =>
      e = .returned (.agg #[.string name, .int .i64 mode, .int .i64 t, .int .i64 l, .int .i64 size, .int .i64 epoch, .int .i64 n, .int .i64 s]) ∧ Below w.heap.size w w' := by
  have hlt := h.lt
  have hne : ¬ V = w.heap.size := by omega
  have hne1 : ¬ V = w.heap.size + 1 := by omega
  have c1 := h.c1
  clear h
  go_enter Tryz.func137, Tryz.ntmps137
  go_wp2_with fail
  go_region
  go_wp2_with fail
  refine bodyPost_ret (v := .agg #[.string name, .int .i64 mode, .int .i64 t, .int .i64 l, .int .i64 size, .int .i64 epoch, .int .i64 n, .int .i64 s]) ?_ rfl ⟨rfl, (((Below.refl _ _).alloc (Nat.le_refl _) _).alloc (by simp) _).drew⟩
  simp [results, Tryz.results137, go_sem]

set_option maxRecDepth 100000 in
theorem checkUp_up (S : Nat) (w : World) (h : w.cell? ⟨S, 0, none⟩ = some (.bool false)) :
    Calls Tryz.prog 140 #[.pointer (some ⟨S, 0, none⟩)] w fun e w' => e = .returned .nilIface ∧ w' = w := by
  go_enter Tryz.func140, Tryz.ntmps140
  go_wp2
  go_ret
  exact ⟨rfl, rfl⟩

set_option maxRecDepth 100000 in
theorem checkUp_down (S : Nat) (w : World) (h : w.cell? ⟨S, 0, none⟩ = some (.bool true)) :
    Calls Tryz.prog 140 #[.pointer (some ⟨S, 0, none⟩)] w fun e w' => e = .returned (.iface 136 (.int .i64 8)) ∧ w' = w := by
  go_enter Tryz.func140, Tryz.ntmps140
  go_wp2
  go_ret
  exact ⟨rfl, rfl⟩

set_option maxRecDepth 100000 in
theorem setUp_any (S : Nat) (up old : Bool) (w : World) (h : w.cell? ⟨S, 0, none⟩ = some (.bool old)) (hf : w.frozen? ⟨S, 0, none⟩ = false) :
    Calls Tryz.prog 83 #[.pointer (some ⟨S, 0, none⟩), .bool up] w fun e w' => e = .returned (.tuple #[]) ∧ w' = w.setCell ⟨S, 0, none⟩ (.bool (!up)) := by
  go_enter Tryz.func83, Tryz.ntmps83
  go_wp2
  exact bodyPost_end (by simp [results, Tryz.results83, go_sem]) rfl ⟨rfl, rfl⟩

set_option maxRecDepth 100000 in
set_option maxHeartbeats 1000000 in
theorem allUp_yes (V key n b o c : Nat) (sp : Nat → Nat) (w : World) (h : Va w V key n b o c sp) (hn : n ≤ 8) (hup : ∀ i, i < n → w.cell? ⟨sp i, 0, none⟩ = some (.bool false)) :
    Calls Tryz.prog 104 #[.pointer (some ⟨V, 0, none⟩)] w fun e w' => e = .returned .nilIface ∧ w' = w := by
  have c1 := h.c1
  have HST := hid h.st
  have HUP := hid hup
  clear h hup
  go_enter Tryz.func104, Tryz.ntmps104
  go_wp2
  go_loopw [11] (fun i wr => ∃ k : Nat, k ≤ n ∧ i = .int .i64 k ∧ wr = w) (fun i _ => n - (intOf i).toNat)
  case atStart => exact ⟨0, Nat.zero_le _, rfl, rfl⟩
  case round =>
    obtain ⟨k, hk, rfl, rfl⟩ := hrel
    by_cases hlt : k < n
    · have k1 := HST.out k hlt
      have k2 := HUP.out k hlt
      have hlt' : (k : Int) < (n : Int) := by omega
      go_wp2_with (go_at_call 140; refine (checkUp_up _ _ k2).mono ?_; rintro e w1 ⟨rfl, rfl⟩)
      go_roundw
      case rel => exact ⟨k + 1, by omega, by go_num, trivial⟩
      case measure => simp [intOf]; omega
    · have hkn : k = n := by omega
      subst hkn
      go_wp2
      go_ret
      exact ⟨rfl, rfl⟩

set_option maxRecDepth 100000 in
set_option maxHeartbeats 1000000 in
theorem allUp_no (V key n b o c : Nat) (sp : Nat → Nat) (down : Nat → Bool) (w : World) (h : Va w V key n b o c sp) (hn : n ≤ 8) (hup : ∀ i, i < n → w.cell? ⟨sp i, 0, none⟩ = some (.bool (down i))) (hd : ∃ i, i < n ∧ down i = true) (hT : Tab w) :
    Calls Tryz.prog 104 #[.pointer (some ⟨V, 0, none⟩)] w fun e w' => ∃ ev, e = .returned ev ∧ Chain w' 8 1 ev ∧ Below w.heap.size w w' := by
  have c1 := h.c1
  have HST := hid h.st
  have HUP := hid hup
  have HT := hid hT
  have HD := hid hd
  clear h hup hT hd
  go_enter Tryz.func104, Tryz.ntmps104
  go_wp2
  go_loopw [11] (fun i wr => ∃ k : Nat, k ≤ n ∧ i = .int .i64 k ∧ wr = w ∧ ∀ j, j < k → down j = false) (fun i _ => n - (intOf i).toNat)
  case atStart => exact ⟨0, Nat.zero_le _, rfl, rfl, fun j hj => by omega⟩
  case round =>
    obtain ⟨k, hk, rfl, rfl, hall⟩ := hrel
    have HA := hid hall
    clear hall
    by_cases hlt : k < n
    · have k1 := HST.out k hlt
      have k2 := HUP.out k hlt
      have hlt' : (k : Int) < (n : Int) := by omega
      have HI := hid (show I64 (k : Int) by unfold I64; omega)
      cases hdk : down k with
      | false =>
        rw [hdk] at k2
        have HDK := hid hdk
        clear hdk
        go_wp2_with (go_at_call 140; refine (checkUp_up _ _ k2).mono ?_; rintro e w1 ⟨rfl, rfl⟩)
        go_roundw
        case rel =>
          refine ⟨k + 1, by omega, by go_num, trivial, fun j hj => ?_⟩
          rcases Nat.lt_or_ge j k with h | h
          · exact HA.out j h
          · rw [show j = k by omega]; exact HDK.out
        case measure => simp [intOf]; omega
      | true =>
        rw [hdk] at k2
        clear hdk
        go_wp2_with (first | (go_at_call 140; refine (checkUp_down _ _ k2).mono ?_; rintro e w1 ⟨rfl, rfl⟩) | (go_at_call 136; refine (atStore_any (k : Int) _ 8 0 _ HI.out HT.out .hit).mono ?_; rintro e w2 ⟨e2, rfl, hch, hb2⟩))
        go_ret
        exact ⟨_, rfl, hch, hb2⟩
    · exfalso
      obtain ⟨i, hi, hdi⟩ := HD.out
      have := HA.out i (by omega)
      rw [hdi] at this
      cases this
end Go.Proofs.YtcegdgmbponapaaGreatDoor
