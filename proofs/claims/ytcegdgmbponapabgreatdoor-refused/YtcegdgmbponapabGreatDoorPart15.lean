/-
  shard.Label.Length: where the object can be kept, and where not.
  The piece of a shard.
  A region that draws its order, makes one variable and writes it: both come up whenever they may.
-/
import Derived.Test.YtcegdgmbponapabGreatDoorPart09
import Derived.Test.YtcegdgmbponapabGreatDoorPart14
import Derived.Test.YtcegdgmbponapabGreatDoorPart06
import Derived.BigQuiet
import Derived.Test.YtcegdgmbponapabGreatDoorPart11
import Derived.Laws.Tables
namespace Go.Proofs.YtcegdgmbponapabGreatDoor
open Go.RowKit
attribute [local go_sem ↓] Go.wp_at_zero Go.wp_at_succ

set_option maxRecDepth 100000 in
set_option maxHeartbeats 1000000 in
theorem llen_ok (mode t l n s epoch size : Nat) (name : ByteArray) (w : World) (h : IsPlan mode t l n) (hs : size ≤ 60) (h1 : 1 ≤ name.size) (h2 : name.size ≤ 12) (hng : Cof.ngroups mode t l size ≤ 60) :
    Calls Tryz.prog 114 #[.agg #[.string name, .int .i64 mode, .int .i64 t, .int .i64 l, .int .i64 size, .int .i64 epoch, .int .i64 n, .int .i64 s]] w fun e w' =>
      e = .returned (.tuple #[.int .i64 (10 + (name.size : Int) + ((Cof.ngroups mode t l size : Nat) : Int) + 8), .nilIface]) ∧ Below w.heap.size w w' := by
  have hba := (Below.refl w.heap.size w).alloc (Nat.le_refl _) (.cells #[.string name, .int .i64 mode, .int .i64 t, .int .i64 l, .int .i64 size, .int .i64 epoch, .int .i64 n, .int .i64 s] 134)
  have HL := hid (length_ok mode t l n size (w.alloc (.cells #[.string name, .int .i64 mode, .int .i64 t, .int .i64 l, .int .i64 size, .int .i64 epoch, .int .i64 n, .int .i64 s] 134)) h hs)
  generalize Cof.ngroups mode t l size = ng at *
  clear h hs
  have q1 : ¬ (name.size : Int) < 1 := by omega
  have q2 : ¬ (12 : Int) < (name.size : Int) := by omega
  go_enter Tryz.func114, Tryz.ntmps114
  go_wp2_with (go_at_call 155; refine HL.out.mono ?_; rintro e w1 ⟨rfl, hb1⟩)
  go_ret2
  exact ⟨rfl, hba.trans (hb1.mono (by simp))⟩

set_option maxRecDepth 100000 in
set_option maxHeartbeats 1000000 in
theorem llen_name (m t l n s epoch size : Int) (name : ByteArray) (w : World) (hno : name.size < 1 ∨ 12 < name.size) (hsz : name.size ≤ maxLen) (hT : Tab w) :
    Calls Tryz.prog 114 #[.agg #[.string name, .int .i64 m, .int .i64 t, .int .i64 l, .int .i64 size, .int .i64 epoch, .int .i64 n, .int .i64 s]] w fun e w' =>
      ∃ ev, e = .returned (.tuple #[.int .i64 0, ev]) ∧ Chain w' 2 1 ev ∧ Below w.heap.size w w' := by
  have hba := (Below.refl w.heap.size w).alloc (Nat.le_refl _) (.cells #[.string name, .int .i64 m, .int .i64 t, .int .i64 l, .int .i64 size, .int .i64 epoch, .int .i64 n, .int .i64 s] 134)
  have HT := hid (hT.keeps hba (Nat.le_refl _))
  have HI := hid (show I64 (name.size : Int) by unfold I64; unfold maxLen at hsz; omega)
  clear hT
  rcases hno with hno | hno
  · have q1 : (name.size : Int) < 1 := by omega
    go_enter Tryz.func114, Tryz.ntmps114
    go_wp2_with (go_at_call 77; refine (atCount_any (name.size : Int) _ _ 2 0 _ HI.out (by decide) HT.out .hit).mono ?_; rintro e w2 ⟨e2, rfl, hch, hb2⟩)
    go_ret2
    exact ⟨_, rfl, hch, hba.trans (hb2.mono (by simp))⟩
  · have q1 : ¬ (name.size : Int) < 1 := by omega
    have q2 : (12 : Int) < (name.size : Int) := by omega
    go_enter Tryz.func114, Tryz.ntmps114
    go_wp2_with (go_at_call 77; refine (atCount_any (name.size : Int) _ _ 2 0 _ HI.out (by decide) HT.out .hit).mono ?_; rintro e w2 ⟨e2, rfl, hch, hb2⟩)
    go_ret2
    exact ⟨_, rfl, hch, hba.trans (hb2.mono (by simp))⟩

set_option maxRecDepth 100000 in
set_option maxHeartbeats 1000000 in
theorem llen_no (m t l n s epoch size k : Int) (name : ByteArray) (w : World) (h1 : 1 ≤ name.size) (h2 : name.size ≤ 12) (hT : Tab w)
    (h : ∀ w, Tab w → Calls Tryz.prog 99 #[.agg #[.int .i64 m, .int .i64 t, .int .i64 l], .int .i64 n, .int .i64 size] w fun e w' => ∃ ev, e = .returned (.tuple #[noLay, ev]) ∧ Chain w' k 1 ev ∧ Below w.heap.size w w') :
    Calls Tryz.prog 114 #[.agg #[.string name, .int .i64 m, .int .i64 t, .int .i64 l, .int .i64 size, .int .i64 epoch, .int .i64 n, .int .i64 s]] w fun e w' =>
      ∃ x ev, e = .returned (.tuple #[.int .i64 x, ev]) ∧ Chain w' k 2 ev ∧ Below w.heap.size w w' := by
  have hba := (Below.refl w.heap.size w).alloc (Nat.le_refl _) (.cells #[.string name, .int .i64 m, .int .i64 t, .int .i64 l, .int .i64 size, .int .i64 epoch, .int .i64 n, .int .i64 s] 134)
  have HL := hid (length_no m t l n size k _ (hT.keeps hba (Nat.le_refl _)) h)
  clear h hT
  have q1 : ¬ (name.size : Int) < 1 := by omega
  have q2 : ¬ (12 : Int) < (name.size : Int) := by omega
  go_enter Tryz.func114, Tryz.ntmps114
  go_wp2_with (go_at_call 155; refine HL.out.mono ?_; rintro e w1 ⟨ev, rfl, hch, hb1⟩; obtain ⟨te, ve, rfl⟩ := hch.shape)
  go_ret2
  exact ⟨_, _, rfl, hch, hba.trans (hb1.mono (by simp))⟩
end Go.Proofs.YtcegdgmbponapabGreatDoor

namespace Go.Proofs.YtcegdgmbponapabGreatDoor
open Go.RowKit
attribute [local go_sem ↓] Go.wp_at_zero Go.wp_at_succ

/-- A good shard: head, piece of so many bytes, tag. -/
def Cof.Good (key : Nat) (hd : List UInt8) (len : Nat) (X P : List UInt8) : Prop := P.length = len ∧ X = Cof.sealed key (hd ++ P)

theorem Rd.part {w : World} {b o : Nat} {xs : List UInt8} (h : Rd w (some ⟨b, o, none⟩) (bs xs)) (i n : Nat) : Rd w (some ⟨b, o + i, none⟩) (bs ((xs.drop i).take n)) := by
  intro k v hk
  have hk' : (bs xs)[i + k]? = some v := by
    simp only [bs, List.map_take, List.map_drop] at hk ⊢
    rw [List.getElem?_take] at hk
    split at hk
    · rw [List.getElem?_drop] at hk; exact hk
    · cases hk
  obtain ⟨b', o', h1, h2, h3⟩ := h (i + k) v hk'
  simp at h1
  obtain ⟨rfl, rfl⟩ := h1
  exact ⟨b, o + i, rfl, h2, by rw [Nat.add_assoc]; exact h3⟩

set_option maxRecDepth 100000 in
set_option maxHeartbeats 1000000 in
theorem piece_long (mode t l n s epoch size key len : Nat) (hlen : len = Cof.ngroups mode t l size) (name : ByteArray) (aM : Option Addr) (m c : Nat) (w : World) (hp : IsPlan mode t l n) (hz : size ≤ 60) (hn1 : 1 ≤ name.size) (hnm : name.size ≤ 12)
    (hm : m ≤ 1000) (hl : len ≤ 60) (hne : m ≠ 10 + name.size + len + 8) (hT : Tab w) :
    Calls Tryz.prog 133 #[.agg #[.string name, .int .i64 mode, .int .i64 t, .int .i64 l, .int .i64 size, .int .i64 epoch, .int .i64 n, .int .i64 s], .slice aM m c, .int .u64 key] w fun e w' =>
      ∃ ev, e = .returned (.tuple #[.slice none 0 0, ev]) ∧ Chain w' 12 1 ev ∧ Below w.heap.size w w' := by
  have hba := (Below.refl w.heap.size w).alloc (Nat.le_refl _) (.cells #[.string name, .int .i64 mode, .int .i64 t, .int .i64 l, .int .i64 size, .int .i64 epoch, .int .i64 n, .int .i64 s] 134)
  have HL := hid (llen_ok mode t l n s epoch size name (w.alloc (.cells #[.string name, .int .i64 mode, .int .i64 t, .int .i64 l, .int .i64 size, .int .i64 epoch, .int .i64 n, .int .i64 s] 134)) hp hz hn1 hnm (by omega))
  rw [← hlen] at HL
  have HT := hid (hT.keeps hba (Nat.le_refl _))
  have HI := hid (show I64 (m : Int) by unfold I64; omega)
  have hq : ((m : Int) != 10 + (name.size : Int) + (len : Int) + 8) = true := by rw [bne_iff_ne]; omega
  clear hp hz hT hne hlen
  go_enter Tryz.func133, Tryz.ntmps133
  go_wp2_with fail
  refine HL.out.mono ?_
  rintro e w1 ⟨rfl, hb1⟩
  have hb01 : Below w.heap.size w w1 := hba.trans (hb1.mono (by simp))
  have HT1 := hid (HT.out.keeps hb1 (Nat.le_refl _))
  go_wp2_with (go_at_call 77; refine (atCount_any (m : Int) _ _ 12 0 _ HI.out (by decide) HT1.out .hit).mono ?_; rintro e w2 ⟨e2, rfl, hch, hb2⟩)
  go_ret2
  exact ⟨_, rfl, hch, hb01.trans (hb2.mono hb01.size)⟩

theorem good_take {key len H : Nat} {hd X P : List UInt8} (hH : hd.length = H) (h : Cof.Good key hd len X P) : X.take H = hd ∧ X.drop (H + len) = Cof.high (Cof.tag key (X.take (H + len))) 8 ∧ P = (X.drop H).take len := by
  obtain ⟨h1, rfl⟩ := h
  have e1 : (Cof.sealed key (hd ++ P)).take (H + len) = hd ++ P := by
    unfold Cof.sealed
    rw [List.take_append_of_le_length (by simp; omega), List.take_of_length_le (by simp; omega)]
  refine ⟨?_, ?_, ?_⟩
  · unfold Cof.sealed
    rw [List.append_assoc, ← hH, List.take_left]
  · rw [e1]
    unfold Cof.sealed
    rw [List.drop_append_of_le_length (by simp; omega), List.drop_of_length_le (by simp; omega), List.nil_append]
  · unfold Cof.sealed
    rw [List.append_assoc, ← hH, List.drop_left, ← h1, List.take_left]

theorem good_of {key len H m : Nat} {hd X : List UInt8} (hm : m = X.length) (hme : m = H + len + 8) (h1 : X.take H = hd) (h2 : X.drop (H + len) = Cof.high (Cof.tag key (X.take (H + len))) 8) : Cof.Good key hd len X ((X.drop H).take len) := by
  refine ⟨by rw [List.length_take, List.length_drop]; omega, ?_⟩
  have e : hd ++ (X.drop H).take len = X.take (H + len) := by rw [← h1, List.take_add]
  unfold Cof.sealed
  rw [e, ← h2, List.take_append_drop]

set_option maxRecDepth 100000 in
set_option maxHeartbeats 1000000 in
theorem piece_same (mode t l n s epoch size key len : Nat) (hlen : len = Cof.ngroups mode t l size) (name : ByteArray) (b o m c : Nat) (X : List UInt8) (w : World) (hp : IsPlan mode t l n) (hs : s < n) (he : epoch ≤ 100) (hz : size ≤ 60) (hn1 : 1 ≤ name.size) (hnm : name.size ≤ 12)
    (hk : key < 18446744073709551616) (hl : len ≤ 60) (em : m = X.length) (hmc : m ≤ c) (hme : m = 10 + name.size + len + 8) (hr : Rd w (some ⟨b, o, none⟩) (bs X)) :
    Calls Tryz.prog 133 #[.agg #[.string name, .int .i64 mode, .int .i64 t, .int .i64 l, .int .i64 size, .int .i64 epoch, .int .i64 n, .int .i64 s], .slice (some ⟨b, o, none⟩) m c, .int .u64 key] w fun e w' =>
      (∀ P, Cof.Good key (Cof.head mode t l n s epoch size name.data.toList) len X P → ∃ v, e = .returned (.tuple #[v, .nilIface]) ∧ w'.ownsRow w.heap.size 5 1 v len (bs P)) ∧
      ((¬ ∃ P, Cof.Good key (Cof.head mode t l n s epoch size name.data.toList) len X P) → ∃ ev, e = .returned (.tuple #[.slice none 0 0, ev]) ∧ Chain w' 12 1 ev) ∧ Below w.heap.size w w' := by
  have hba := (Below.refl w.heap.size w).alloc (Nat.le_refl _) (.cells #[.string name, .int .i64 mode, .int .i64 t, .int .i64 l, .int .i64 size, .int .i64 epoch, .int .i64 n, .int .i64 s] 134)
  have HH := hid (fun w' => head_any mode t l n s epoch size name w' hp hs he hz hnm)
  have HLL := hid (llen_ok mode t l n s epoch size name (w.alloc (.cells #[.string name, .int .i64 mode, .int .i64 t, .int .i64 l, .int .i64 size, .int .i64 epoch, .int .i64 n, .int .i64 s] 134)) hp hz hn1 hnm (by omega))
  rw [← hlen] at HLL
  have hHL : (Cof.head mode t l n s epoch size name.data.toList).length = 10 + name.size := by rw [Cof.length_head]; simp
  obtain ⟨H, hH⟩ : ∃ H, H = 10 + name.size := ⟨_, rfl⟩
  rw [← hH] at HH hHL hme
  obtain ⟨M, hM⟩ : ∃ M, M = H + len := ⟨_, rfl⟩
  rw [show (10 : Int) + (name.size : Int) + (len : Int) = (M : Int) by omega] at HLL
  rw [← hM] at hme
  have hH22 : H ≤ 22 := by omega
  generalize Cof.head mode t l n s epoch size name.data.toList = hd at *
  have HHL := hid hHL
  have EM := hid em
  have HK := hid hk
  have HR := hid hr
  have HME := hid hme
  have hq : ((m : Int) != (M : Int) + 8) = false := by rw [hme]; simp
  have hq0 : (0 : Int) ≤ (M : Int) := by omega
  have hq1 : (M : Int) ≤ (m : Int) := by omega
  have hq2 : (M : Int) ≤ (c : Int) := by omega
  have hmi : (m : Int) ≤ (c : Int) := by omega
  have hc0 : ¬ c = 0 := by omega
  have hcn : ¬ c = M := by omega
  have hcn2 : ¬ c = H := by omega
  have hHi : (H : Int) ≤ (M : Int) := by omega
  have hHl : H ≤ M := by omega
  have hM82 : M ≤ 82 := by omega
  have hw1 : IntKind.i64.wrap (M : Int) = (M : Int) := by rw [IntKind.wrap_i64]; omega
  have hw2 : IntKind.i64.wrap ((M : Int) + 8 - 8) = (M : Int) := by rw [IntKind.wrap_i64]; omega
  have HMM := hid hM
  clear hp hs he hz hk em hr hme hH hHL hlen hM
  go_enter Tryz.func133, Tryz.ntmps133
  go_wp2_with fail
  refine HLL.out.mono ?_
  rintro e w1 ⟨rfl, hb1⟩
  have hb01 : Below w.heap.size w w1 := hba.trans (hb1.mono (by simp))
  have hc1 : ∀ o, w1.cell? ⟨w.heap.size, o, none⟩ = _ := fun o => (bcell hb1).1 w.heap.size o (by simp)
  have hz1 : w.heap.size < w1.heap.size := by have := hb1.size; simp at this; omega
  go_wp2_with fail
  go_region_held3 (fun w' => ∀ o, w'.cell? ⟨w.heap.size, o, none⟩ = w1.cell? ⟨w.heap.size, o, none⟩) (first | exact fun _ => rfl | exact d3 | go_keep)
    (first | (go_at_call 73; refine (HH.out _).mono ?_; rintro e w2 ⟨v1, rfl, hown1, hb2⟩; obtain ⟨a1, c1, rfl, hrd1⟩ := owns_any_rd hown1; have d3 : ∀ o, w2.cell? ⟨w.heap.size, o, none⟩ = w1.cell? ⟨w.heap.size, o, none⟩ := fun o => ((Below.refl w1.heap.size w1).drew.trans hb2).cell (by exact hz1)))
  obtain ⟨W1, rfl⟩ : ∃ W1, W1 = w2 := ⟨_, rfl⟩
  have hbW : Below w.heap.size w W1 := hb01.trans (((Below.refl w1.heap.size w1).drew.trans hb2).mono hb01.size)
  have HR2 := hid hrd1
  have HX := hid (HR.out.below hbW (Nat.le_refl _))
  have hzW := hbW.size
  clear hown1 hrd1 hb1 hb2 d3
  have HPX := hid (prefix_any (some ⟨b, o, none⟩) a1 M c H c1 (X.take M) hd W1 (by have := EM.out; have := HME.out; rw [List.length_take]; omega) HHL.out.symm (by omega) (by have := HX.out.part 0 M; simpa using this) HR2.out)
  have HTT := hid (show (X.take M).take H = X.take H by rw [List.take_take, Nat.min_eq_left (by omega)])
  by_cases hpre : X.take H = hd
  · have HPRE := hid (show decide ((X.take M).take H = hd) = true by rw [HTT.out]; exact decide_eq_true hpre)
    rw [HPRE.out] at HPX
    have HPR := hid hpre
    clear hpre
    go_wp2_with fail
    refine HPX.out.mono ?_
    rintro e w2 ⟨rfl, rfl⟩
    go_wp2_with fail
    refine (tagOf_any (some ⟨b, o, none⟩) M c (X.take M) key _ (by have := EM.out; have := HME.out; rw [List.length_take]; omega) (by have := HX.out.part 0 M; simpa using this) (by omega) HK.out).mono ?_
    rintro e w3 ⟨g3, rfl, hown3, hb3⟩
    have HX3 := hid (HX.out.below hb3 (Nat.le_refl _))
    have HEQ := hid (equal_any (some ⟨b, o + M, none⟩) (some ⟨g3, 0, none⟩) (m - M) (c - M) 8 8 (X.drop M) (Cof.high (Cof.tag key (X.take M)) 8) w3 (by have := EM.out; rw [List.length_drop]; omega) (by rw [Cof.length_high]) (by have := HX3.out.part M (X.length); rw [List.take_of_length_le (by rw [List.length_drop]; omega)] at this; exact this) (owns_rd hown3))
    have hb03 : Below w.heap.size w w3 := hbW.trans (hb3.mono hzW)
    clear hown3
    by_cases htag : X.drop M = Cof.high (Cof.tag key (X.take M)) 8
    · rw [decide_eq_true htag] at HEQ
      have HTG := hid htag
      clear htag
      go_wp2_with fail
      refine HEQ.out.mono ?_
      rintro e w4 ⟨rfl, rfl⟩
      go_wp2_with fail
      refine (cloneB (some ⟨b, o + H, none⟩) _ _ ((X.drop H).take len) _ (by have := EM.out; have := HME.out; have := HMM.out; rw [List.length_take, List.length_drop]; omega) (HX3.out.part H len) (by omega) nofun).mono ?_
      rintro e w5 ⟨v5, rfl, hown5, hb5⟩
      have HV5 := hid (show _ from (show M - H = len by have := HMM.out; omega) ▸ hown5.mono hb03.size)
      clear hown5
      go_wp2_with fail
      go_ret2
      refine ⟨fun P hP => ⟨_, rfl, ?_⟩, fun hno => absurd ⟨_, good_of EM.out (HMM.out ▸ HME.out) HPR.out (HMM.out ▸ HTG.out)⟩ hno, hb03.trans (hb5.mono hb03.size)⟩
      rw [(good_take HHL.out hP).2.2]
      exact HV5.out
    · rw [decide_eq_false htag] at HEQ
      have HTG := hid htag
      clear htag
      go_wp2_with fail
      refine HEQ.out.mono ?_
      rintro e w4 ⟨rfl, rfl⟩
      go_wp2_with fail
      refine (at_chain _ _ 12 0 _ .hit).mono ?_
      rintro e w5 ⟨e5, rfl, hch, hb5⟩
      go_wp2_with fail
      go_ret2
      exact ⟨fun P hP => absurd (good_take HHL.out hP).2.1 (HMM.out ▸ HTG.out), fun _ => ⟨_, rfl, hch⟩, hb03.trans (hb5.mono hb03.size)⟩
  · have HPRE := hid (show decide ((X.take M).take H = hd) = false by rw [HTT.out]; exact decide_eq_false hpre)
    rw [HPRE.out] at HPX
    have HPR := hid hpre
    clear hpre
    go_wp2_with fail
    refine HPX.out.mono ?_
    rintro e w2 ⟨rfl, rfl⟩
    go_wp2_with fail
    refine (at_chain _ _ 12 0 _ .hit).mono ?_
    rintro e w5 ⟨e5, rfl, hch, hb5⟩
    go_wp2_with fail
    go_ret2
    exact ⟨fun P hP => absurd (good_take HHL.out hP).1 HPR.out, fun _ => ⟨_, rfl, hch⟩, hbW.trans (hb5.mono hzW)⟩
end Go.Proofs.YtcegdgmbponapabGreatDoor

namespace Go.Proofs.YtcegdgmbponapabGreatDoor
open Go.RowKit

section
variable {P : Program} {ops : Array Oper} {Q : Exit → Act → World → Prop} {md : Region.Mode}

theorem all_listed2 (hacyc : ∀ (i : Nat) (o : Oper) (e : Edge), ops[i]? = some o → e ∈ o.after → Region.binds md e = true → e.on < i) {listed : Array Bool} (hs : listed.size = ops.size) (h : Region.ready md ops listed = []) :
    ∀ i, i < ops.size → listed.getD i false = true := by
  intro i
  induction i using Nat.strongRecOn with
  | ind i ih =>
    intro hi
    cases hb : listed.getD i false with
    | true => rfl
    | false =>
      have : i ∈ Region.ready md ops listed := mem_ready.2 ⟨by rw [getD_flip (by omega), hb], ops[i], by simp [hi], fun e he hbd => ih e.on (hacyc i _ e (by simp [hi]) he hbd) (by have := hacyc i _ e (by simp [hi]) he hbd; omega)⟩
      rw [h] at this
      cases this

theorem wpAny_inv2 (I : Array Bool → Act → World → Prop) (hacyc : ∀ (i : Nat) (o : Oper) (e : Edge), ops[i]? = some o → e ∈ o.after → Region.binds md e = true → e.on < i)
    (hstep : ∀ (listed : Array Bool) (a : Act) (w : World) (i : Nat) (o : Oper), I listed a w → listed.size = ops.size → ops[i]? = some o → listed.getD i false = false → (∀ e ∈ o.after, Region.binds md e = true → listed.getD e.on false = true) → wpOp P ops Q i (fun a' w' => I (listed.setIfInBounds i true) a' w') a w)
    (hend : ∀ listed a w, I listed a w → (∀ i, i < ops.size → listed.getD i false = true) → Q .normal a w) :
    ∀ (fuel : Nat) (listed : Array Bool) (a : Act) (w : World), listed.size = ops.size → todo ops listed ≤ fuel → I listed a w → wpAny P md ops Q fuel listed a w := by
  intro fuel
  induction fuel with
  | zero =>
    intro listed a w hs hf hI
    have hall : ∀ i, i < ops.size → listed.getD i false = true := by
      intro i hi
      have h0 : todo ops listed = 0 := by omega
      unfold todo at h0
      rw [List.countP_eq_zero] at h0
      have := h0 i (List.mem_range.2 hi)
      rw [← getD_flip (by omega)]
      simpa using this
    refine ⟨?_, hend _ _ _ hI hall⟩
    cases hr : Region.ready md ops listed with
    | nil => rfl
    | cons j r =>
      have hj : j ∈ Region.ready md ops listed := by rw [hr]; exact List.mem_cons_self ..
      obtain ⟨h0, o, ho, _⟩ := mem_ready.1 hj
      have hjs : j < ops.size := (Array.getElem?_eq_some_iff.1 ho).1
      rw [getD_flip (by omega), hall j hjs] at h0
      cases h0
  | succ fuel ih =>
    intro listed a w hs hf hI
    refine ⟨fun hr => hend _ _ _ hI (all_listed2 hacyc hs hr), fun i hi => ?_⟩
    obtain ⟨h0, o, ho, hall⟩ := mem_ready.1 hi
    have his : i < ops.size := (Array.getElem?_eq_some_iff.1 ho).1
    refine wpOp_mono (fun a' w' h' => ih _ a' w' (by simpa using hs) ?_ h') (hstep listed a w i o hI hs ho (by rw [← getD_flip (by omega)]; exact h0) hall)
    have : todo ops (listed.setIfInBounds i true) < todo ops listed := by
      unfold todo
      refine countP_less _ _ _ (fun x _ hx => ?_) i (List.mem_range.2 his) (by rw [h0]; rfl) (by simp [show i < listed.size by omega])
      by_cases hxi : i = x
      · subst hxi; rw [h0]; rfl
      · rw [getD_set_ne true hxi] at hx; exact hx
    omega


/-- Each operation but two, once. -/
def StepBut (P : Program) (slot : Nat → Nat) (R : Nat → Value → World → Prop) (fixed : List (Nat × Value)) (w0 : World) (p q : Nat) : Nat → List Oper → Prop
  | _, [] => True
  | i, o :: rest => (i = p ∨ i = q ∨ ∀ a w, Below w0.heap.size w0 w → (∀ x ∈ fixed, a.tmps.getD x.1 undef = x.2) → (∀ e ∈ o.after, Region.binds .any e = true → e.on ≠ p → e.on ≠ q → R e.on (a.tmps.getD (slot e.on) undef) w) → StepOk P o a w fun v w' => Below w.heap.size w w' ∧ R i v w') ∧ StepBut P slot R fixed w0 p q (i + 1) rest

theorem StepBut.at {slot : Nat → Nat} {R : Nat → Value → World → Prop} {fixed : List (Nat × Value)} {w0 : World} {p q : Nat} : ∀ (l : List Oper) (k i : Nat) (o : Oper), StepBut P slot R fixed w0 p q k l → l[i]? = some o → k + i ≠ p → k + i ≠ q →
    ∀ a w, Below w0.heap.size w0 w → (∀ x ∈ fixed, a.tmps.getD x.1 undef = x.2) → (∀ e ∈ o.after, Region.binds .any e = true → e.on ≠ p → e.on ≠ q → R e.on (a.tmps.getD (slot e.on) undef) w) → StepOk P o a w fun v w' => Below w.heap.size w w' ∧ R (k + i) v w' := by
  intro l
  induction l with
  | nil => intro k i o _ hi; simp at hi
  | cons x l ih =>
    intro k i o h hi hp hq
    cases i with
    | zero =>
      simp at hi
      subst hi
      rcases h.1 with h1 | h1 | h1
      · omega
      · omega
      · exact h1
    | succ i =>
      have := ih (k + 1) i o h.2 (by simpa using hi) (by omega) (by omega)
      rw [show k + (i + 1) = k + 1 + i by omega]
      exact this

/-- What the operations must look like: but for the one that writes each has a slot of its own, and none hangs on the two. -/
def memOk (ops : Array Oper) (slot : Nat → Nat) (N p q : Nat) (keys : List Nat) : Bool :=
  p != q && (List.range ops.size).all fun i => match ops[i]? with
    | none => false
    | some o => o.guard.isNone && o.after.all (fun e => !Region.binds .any e || decide (e.on < i)) &&
      (i == q && o.dst == none && o.after.any (fun e => e.on == p && Region.binds .any e) || i != q && o.dst == some (slot i) && decide (slot i < N) && keys.all (fun k => k != slot i) && (List.range ops.size).all fun j => j == q || slot i != slot j || i == j)

structure MI (slot : Nat → Nat) (R : Nat → Value → World → Prop) (fixed : List (Nat × Value)) (N : Nat) (p q : Nat) (te : TypeId) (cs : Array Value) (w0 : World) (listed : Array Bool) (a : Act) (w : World) : Prop where
  df : a.defers = []
  sz : a.tmps.size = N
  bl : Below w0.heap.size w0 w
  fx : ∀ x ∈ fixed, a.tmps.getD x.1 undef = x.2
  rs : ∀ j, j ≠ p → j ≠ q → listed.getD j false = true → R j (a.tmps.getD (slot j) undef) w
  pq : listed.getD q false = true → listed.getD p false = true
  al : listed.getD p false = true → ∃ b c, a.tmps.getD (slot p) undef = .pointer (some ⟨b, 0, none⟩) ∧ w0.heap.size ≤ b ∧ w.heap[b]? = some (.cells c te) ∧ c.size = cs.size ∧ (listed.getD q false = true → c = cs)

theorem wp_region_mem {id : Nat} {a : Act} {w : World} (hm : P.follows .mixedOrders = true) (slot : Nat → Nat) (R : Nat → Value → World → Prop) (fixed : List (Nat × Value)) (N p q : Nat) (keys : List Nat) (te : TypeId) (cs z : Array Value) (x y : Operand)
    (hok : memOk ops slot N p q keys = true) (hk : fixed.map Prod.fst = keys)
    (hp : ∃ o, ops[p]? = some o ∧ ∀ (a : Act) (w : World), (execOp a.eval o).run P w = .ok (.value (.pointer (some ⟨w.heap.size, 0, none⟩))) (w.alloc (.cells z te))) (hzs : z.size = cs.size)
    (hq : ∃ o, ops[q]? = some o ∧ o.op = .store te x y ∧ (∀ a : Act, a.eval x = a.tmps.getD (slot p) undef) ∧ ∀ (a : Act) (w : World), (∀ e ∈ o.after, Region.binds .any e = true → e.on ≠ p → e.on ≠ q → R e.on (a.tmps.getD (slot e.on) undef) w) → a.eval y = .agg cs)
    (hi : (P.info? te).map (·.size) = some cs.size) (hcs : cs.all (·.oneCell') = true)
    (ha : a.defers = []) (hN : a.tmps.size = N) (hfx : ∀ p ∈ fixed, a.tmps.getD p.1 undef = p.2)
    (hper : ∀ j v w w', R j v w → Below { w with drawn := w.drawn }.heap.size w w' → R j v w')
    (hperS : ∀ j v w' b c, Below w.heap.size { w with drawn := w.drawn + 1 } w' → R j v w' → w.heap.size ≤ b → R j v (w'.setRow b c))
    (hstep : StepBut P slot R fixed { w with drawn := w.drawn + 1 } p q 0 ops.toList)
    (hend : ∀ a w' b, a.defers = [] → a.tmps.size = N → Below w.heap.size { w with drawn := w.drawn + 1 } w' → (∀ p ∈ fixed, a.tmps.getD p.1 undef = p.2) → (∀ j, j < ops.size → j ≠ p → j ≠ q → R j (a.tmps.getD (slot j) undef) w') → a.tmps.getD (slot p) undef = .pointer (some ⟨b, 0, none⟩) → w.heap.size ≤ b → w'.heap[b]? = some (.cells cs te) → Q .normal a w') :
    (Code.region id ops true).wp P Q a w := by
  unfold memOk at hok
  rw [Bool.and_eq_true] at hok
  obtain ⟨hpq, hok⟩ := hok
  have hpq : p ≠ q := by simpa using hpq
  rw [List.all_eq_true] at hok
  obtain ⟨op, hop, hopr⟩ := hp
  obtain ⟨oq, hoq, hoqs, hoqx, hoqy⟩ := hq
  have hpl : p < ops.size := (Array.getElem?_eq_some_iff.1 hop).1
  have hql : q < ops.size := (Array.getElem?_eq_some_iff.1 hoq).1
  have hall : ∀ (i : Nat) (o : Oper), ops[i]? = some o → o.guard = none ∧ (∀ e ∈ o.after, Region.binds .any e = true → e.on < i) ∧ (i = q ∧ o.dst = none ∧ (∃ e ∈ o.after, e.on = p ∧ Region.binds .any e = true) ∨ i ≠ q ∧ o.dst = some (slot i) ∧ slot i < N ∧ (∀ x ∈ fixed, x.1 ≠ slot i) ∧ ∀ j, j < ops.size → j ≠ q → slot i = slot j → i = j) := by
    intro i o ho
    have his : i < ops.size := (Array.getElem?_eq_some_iff.1 ho).1
    have := hok i (List.mem_range.2 his)
    simp only [ho, Bool.and_eq_true, beq_iff_eq, decide_eq_true_eq, Option.isNone_iff_eq_none, List.all_eq_true, bne_iff_ne, ne_eq, Array.all_eq_true_iff_forall_mem, Bool.or_eq_true, List.mem_range, Array.any_eq_true', Bool.not_eq_true'] at this
    obtain ⟨⟨h1, h2⟩, h3⟩ := this
    refine ⟨h1, fun e he hbd => (h2 e he).elim (fun h => by rw [hbd] at h; cases h) (fun h => h), ?_⟩
    rcases h3 with ⟨⟨h3, h4⟩, h5⟩ | ⟨⟨⟨⟨h3, h4⟩, h5⟩, h6⟩, h8⟩
    · exact .inl ⟨h3, h4, h5⟩
    · refine .inr ⟨h3, h4, h5, fun x hx => h6 x.1 (by rw [← hk]; exact List.mem_map_of_mem hx), fun j hj hjq he => ?_⟩
      rcases h8 j hj with (h | h) | h
      · exact absurd h hjq
      · exact absurd he h
      · exact h
  have hslp : slot p < N := by
    rcases (hall p op hop).2.2 with ⟨h, _⟩ | ⟨_, _, h, _⟩
    · exact absurd h hpq
    · exact h
  refine wp_region_any hm (wpAny_inv2 (MI slot R fixed N p q te cs { w with drawn := w.drawn + 1 }) (fun i o e ho he hbd => (hall i o ho).2.1 e he hbd) ?_ ?_ ops.size _ _ _ (by simp) (by unfold todo; exact Nat.le_trans (List.countP_le_length ..) (by simp)) ⟨ha, hN, Below.refl _ _, hfx, ?_, ?_, ?_⟩)
  · intro listed a1 w1 i o hI hs ho hno hdep
    obtain ⟨hg, hed, hcase⟩ := hall i o ho
    have his : i < listed.size := by rw [hs]; exact (Array.getElem?_eq_some_iff.1 ho).1
    unfold wpOp
    simp only [ho, Region.wanted, hg, if_true]
    refine .inl ?_
    rcases hcase with ⟨rfl, hd, e, he, hep, heb⟩ | ⟨hiq, hd, hsl, hfk, hinj⟩
    · rw [hoq] at ho; cases ho
      have hlp : listed.getD p false = true := by rw [← hep]; exact hdep e he heb
      obtain ⟨b, c, hb1, hb2, hb3, hb4, _⟩ := hI.al hlp
      have hy := hoqy a1 w1 (fun e he hbd hne hnq => hI.rs _ hne hnq (hdep e he hbd))
      refine wp_store_row te x y hoqs b cs (by rw [hoqx]; exact hb1) hy te c hb3 hi hb4 hcs ?_
      rw [hd]
      refine ⟨hI.df, hI.sz, hI.bl.trans (below_setRow (Below.refl _ _) hb2 cs), hI.fx, fun j hjp hjq hj => ?_, fun _ => ?_, fun _ => ?_⟩
      · rw [getD_set_ne false (Ne.symm hjq)] at hj
        exact hperS j _ w1 b cs hI.bl (hI.rs j hjp hjq hj) hb2
      · rw [getD_set_ne false (Ne.symm hpq)]; exact hlp
      · exact ⟨b, cs, hb1, hb2, setRow_heap _ _ _ _ _ _ hb3, rfl, fun _ => rfl⟩
    · by_cases hip : i = p
      · subst hip
        rw [hop] at ho; cases ho
        have hqn : listed.getD q false = false := by
          cases h : listed.getD q false with
          | false => rfl
          | true => rw [hI.pq h] at hno; cases hno
        unfold Oper.wp
        rw [hopr]
        show MI slot R fixed N i q te cs _ _ (a1.put op.dst _) _
        rw [hd]
        have hba := (Below.refl w1.heap.size w1).alloc (Nat.le_refl _) (.cells z te)
        refine ⟨hI.df, by simp [Act.put, hI.sz], hI.bl.alloc hI.bl.size _, fun x hx => ?_, fun j hjp hjq hj => ?_, fun h => ?_, fun _ => ?_⟩
        · have := hI.fx x hx
          simp only [Act.put]
          rw [← this]
          simp [Array.getElem?_setIfInBounds_ne (Ne.symm (hfk x hx))]
        · rw [getD_set_ne false (Ne.symm hjp)] at hj
          have hjs : j < ops.size := by
            rcases Nat.lt_or_ge j listed.size with h | h
            · omega
            · simp [Array.getElem?_eq_none h] at hj
          have hne : slot i ≠ slot j := fun e => hjp (hinj j hjs hjq e).symm
          simp only [Act.put]
          have := hper j _ _ _ (hI.rs j hjp hjq hj) hba
          simpa [Array.getElem?_setIfInBounds_ne hne] using this
        · rw [getD_set_ne false hpq] at h
          rw [hqn] at h; cases h
        · refine ⟨w1.heap.size, z, ?_, hI.bl.size, ?_, hzs, fun h => ?_⟩
          · simp only [Act.put]
            have hz : slot i < a1.tmps.size := by rw [hI.sz]; exact hsl
            simp [hz]
          · show (w1.heap.push _)[w1.heap.size]? = _
            simp
          · rw [getD_set_ne false hpq] at h
            rw [hqn] at h; cases h
      · have hok := hstep.at (P := P) ops.toList 0 i o (by simpa using ho) (by omega) (by omega) a1 w1 hI.bl hI.fx (fun e he hbd hne hnq => hI.rs _ hne hnq (hdep e he hbd))
        rw [Nat.zero_add] at hok
        refine hok.wp fun v w'' hp => ?_
        rw [hd]
        refine ⟨hI.df, by simp [Act.put, hI.sz], hI.bl.trans (hp.1.mono hI.bl.size), fun x hx => ?_, fun j hjp hjq hj => ?_, fun h => ?_, fun h => ?_⟩
        · have := hI.fx x hx
          simp only [Act.put]
          rw [← this]
          simp [Array.getElem?_setIfInBounds_ne (Ne.symm (hfk x hx))]
        · by_cases hji : i = j
          · subst hji
            simp only [Act.put]
            have hz : slot i < a1.tmps.size := by rw [hI.sz]; exact hsl
            simpa [hz] using hp.2
          · rw [getD_set_ne false hji] at hj
            have hjs : j < ops.size := by
              rcases Nat.lt_or_ge j listed.size with h | h
              · omega
              · simp [Array.getElem?_eq_none h] at hj
            have hne : slot i ≠ slot j := fun e => hji (hinj j hjs hjq e)
            simp only [Act.put]
            have := hper j _ _ _ (hI.rs j hjp hjq hj) hp.1
            simpa [Array.getElem?_setIfInBounds_ne hne] using this
        · rw [getD_set_ne false hiq] at h
          rw [getD_set_ne false hip]; exact hI.pq h
        · rw [getD_set_ne false hip] at h
          obtain ⟨b, c, hb1, hb2, hb3, hb4, hb5⟩ := hI.al h
          have hne : slot i ≠ slot p := fun e => hip (hinj p hpl hpq e)
          refine ⟨b, c, ?_, hb2, ?_, hb4, fun h' => hb5 (by rw [getD_set_ne false hiq] at h'; exact h')⟩
          · simp only [Act.put]
            simpa [Array.getElem?_setIfInBounds_ne hne] using hb1
          · rw [hp.1.block b ((Array.getElem?_eq_some_iff.1 hb3).1)]; exact hb3
  · intro listed a1 w1 hI hall'
    obtain ⟨b, c, hb1, hb2, hb3, hb4, hb5⟩ := hI.al (hall' p hpl)
    have := hb5 (hall' q hql)
    subst this
    exact hend a1 w1 b hI.df hI.sz hI.bl hI.fx (fun j hj hjp hjq => hI.rs j hjp hjq (hall' j hj)) hb1 hb2 hb3
  · intro j _ _ hj; simp [Array.getElem?_replicate] at hj; split at hj <;> simp at hj
  · intro hj; simp [Array.getElem?_replicate] at hj; split at hj <;> simp at hj
  · intro hj; simp [Array.getElem?_replicate] at hj; split at hj <;> simp at hj
end

section
variable {P : Program} {ops : Array Oper} {Q : Exit → Act → World → Prop}

/-- Each operation, once; of the operations ahead those that bind count. -/
def StepAll2 (P : Program) (slot : Nat → Nat) (R : Nat → Value → World → Prop) (fixed : List (Nat × Value)) (w0 : World) : Nat → List Oper → Prop
  | _, [] => True
  | i, o :: rest => (∀ a w, Below w0.heap.size w0 w → (∀ x ∈ fixed, a.tmps.getD x.1 undef = x.2) → (∀ e ∈ o.after, Region.binds .any e = true → R e.on (a.tmps.getD (slot e.on) undef) w) → StepOk P o a w fun v w' => Below w.heap.size w w' ∧ R i v w') ∧ StepAll2 P slot R fixed w0 (i + 1) rest

theorem StepAll2.at {slot : Nat → Nat} {R : Nat → Value → World → Prop} {fixed : List (Nat × Value)} {w0 : World} : ∀ (l : List Oper) (k i : Nat) (o : Oper), StepAll2 P slot R fixed w0 k l → l[i]? = some o →
    ∀ a w, Below w0.heap.size w0 w → (∀ x ∈ fixed, a.tmps.getD x.1 undef = x.2) → (∀ e ∈ o.after, Region.binds .any e = true → R e.on (a.tmps.getD (slot e.on) undef) w) → StepOk P o a w fun v w' => Below w.heap.size w w' ∧ R (k + i) v w' := by
  intro l
  induction l with
  | nil => intro k i o _ hi; simp at hi
  | cons x l ih =>
    intro k i o h hi
    cases i with
    | zero =>
      simp at hi
      subst hi
      exact h.1
    | succ i =>
      have := ih (k + 1) i o h.2 (by simpa using hi)
      rw [show k + (i + 1) = k + 1 + i by omega]
      exact this

def regOk2 (ops : Array Oper) (slot : Nat → Nat) (N : Nat) (keys : List Nat) : Bool :=
  (List.range ops.size).all fun i => match ops[i]? with
    | none => true
    | some o => o.dst == some (slot i) && decide (slot i < N) && o.guard.isNone && keys.all (fun k => k != slot i) && o.after.all (fun e => !Region.binds .any e || decide (e.on < i)) && (List.range ops.size).all fun j => slot i != slot j || i == j

theorem wp_region_each2 {id : Nat} {a : Act} {w : World} (hm : P.follows .mixedOrders = true) (slot : Nat → Nat) (R : Nat → Value → World → Prop) (fixed : List (Nat × Value)) (N : Nat) (keys : List Nat)
    (hok : regOk2 ops slot N keys = true) (hk : fixed.map Prod.fst = keys)
    (ha : a.defers = []) (hN : a.tmps.size = N) (hfx : ∀ p ∈ fixed, a.tmps.getD p.1 undef = p.2)
    (hper : ∀ j v w w', R j v w → Below w.heap.size w w' → R j v w')
    (hstep : StepAll2 P slot R fixed { w with drawn := w.drawn + 1 } 0 ops.toList)
    (hend : ∀ a w', a.defers = [] → a.tmps.size = N → Below w.heap.size { w with drawn := w.drawn + 1 } w' → (∀ p ∈ fixed, a.tmps.getD p.1 undef = p.2) → (∀ j, j < ops.size → R j (a.tmps.getD (slot j) undef) w') → Q .normal a w') :
    (Code.region id ops true).wp P Q a w := by
  unfold regOk2 at hok
  rw [List.all_eq_true] at hok
  have hops : ∀ (i : Nat) (o : Oper), ops[i]? = some o → o.dst = some (slot i) ∧ slot i < N ∧ o.guard = none ∧ (∀ x ∈ fixed, x.1 ≠ slot i) ∧ (∀ e ∈ o.after, Region.binds .any e = true → e.on < i) ∧ ∀ j, j < ops.size → slot i = slot j → i = j := by
    intro i o ho
    have his : i < ops.size := (Array.getElem?_eq_some_iff.1 ho).1
    have := hok i (List.mem_range.2 his)
    simp only [ho, Bool.and_eq_true, beq_iff_eq, decide_eq_true_eq, Option.isNone_iff_eq_none, List.all_eq_true, bne_iff_ne, ne_eq, Array.all_eq_true_iff_forall_mem, Bool.or_eq_true, List.mem_range, Bool.not_eq_true'] at this
    obtain ⟨⟨⟨⟨⟨h1, h2⟩, h3⟩, h4⟩, h5⟩, h6⟩ := this
    refine ⟨h1, h2, h3, fun x hx => h4 x.1 (by rw [← hk]; exact List.mem_map_of_mem hx), fun e he hbd => (h5 e he).elim (fun h => by rw [hbd] at h; cases h) (fun h => h), fun j hj he => ?_⟩
    rcases h6 j hj with h | h
    · exact absurd he h
    · exact h
  refine wp_region_any hm (wpAny_inv2 (RI slot R fixed N { w with drawn := w.drawn + 1 }) (fun i o e ho he hbd => (hops i o ho).2.2.2.2.1 e he hbd) ?_ ?_ ops.size _ _ _ (by simp) (by unfold todo; exact Nat.le_trans (List.countP_le_length ..) (by simp)) ⟨ha, hN, Below.refl _ _, hfx, fun j hj => by simp [Array.getElem?_replicate] at hj; split at hj <;> simp at hj⟩)
  · intro listed a w' i o hI hs ho _ hall
    obtain ⟨h1, h2, h3, h4, h5, h6⟩ := hops i o ho
    have his : i < ops.size := (Array.getElem?_eq_some_iff.1 ho).1
    have hok := hstep.at (P := P) ops.toList 0 i o (by simpa using ho) a w' hI.bl hI.fx (fun e he hbd => hI.rs _ (hall e he hbd))
    rw [Nat.zero_add] at hok
    unfold wpOp
    simp only [ho, Region.wanted, h3, if_true]
    refine .inl (hok.wp fun v w'' hp => ?_)
    rw [h1]
    refine ⟨hI.df, by simp [Act.put, hI.sz], hI.bl.trans (hp.1.mono hI.bl.size), fun p hp' => ?_, fun j hj => ?_⟩
    · have := hI.fx p hp'
      simp only [Act.put]
      rw [← this]
      simp [Array.getElem?_setIfInBounds_ne (Ne.symm (h4 p hp'))]
    · by_cases hji : i = j
      · subst hji
        simp only [Act.put]
        have hz : slot i < a.tmps.size := by rw [hI.sz]; exact h2
        simpa [hz] using hp.2
      · rw [getD_set_ne false hji] at hj
        have hjs : j < ops.size := by
          rcases Nat.lt_or_ge j listed.size with h | h
          · omega
          · simp [Array.getElem?_eq_none h] at hj
        have hsl : slot i ≠ slot j := fun e => hji (h6 j hjs e)
        simp only [Act.put]
        have := hper j _ _ _ (hI.rs j hj) hp.1
        simpa [Array.getElem?_setIfInBounds_ne hsl] using this
  · intro listed a w' hI hall
    exact hend a w' hI.df hI.sz hI.bl hI.fx (fun j hj => hI.rs j (hall j hj))
end

theorem arr_of (t : Array Value) (n : Nat) (h : t.size = n) : t = ((List.range n).map fun i => t.getD i undef).toArray := by
  apply Array.ext
  · simp [h]
  · intro i h1 h2
    simp [h1]

theorem arr47 (t : Array Value) (h : t.size = 47) : ∃ u0 u1 u2 u3 u4 u5 u6 u7 u8 u9 u10 u11 u12 u13 u14 u15 u16 u17 u18 u19 u20 u21 u22 u23 u24 u25 u26 u27 u28 u29 u30 u31 u32 u33 u34 u35 u36 u37 u38 u39 u40 u41 u42 u43 u44 u45 u46 : Value, t = #[u0, u1, u2, u3, u4, u5, u6, u7, u8, u9, u10, u11, u12, u13, u14, u15, u16, u17, u18, u19, u20, u21, u22, u23, u24, u25, u26, u27, u28, u29, u30, u31, u32, u33, u34, u35, u36, u37, u38, u39, u40, u41, u42, u43, u44, u45, u46] := ⟨_, _, _, _, _, _, _, _, _, _, _, _, _, _, _, _, _, _, _, _, _, _, _, _, _, _, _, _, _, _, _, _, _, _, _, _, _, _, _, _, _, _, _, _, _, _, _, (arr_of t 47 h).trans rfl⟩
end Go.Proofs.YtcegdgmbponapabGreatDoor
