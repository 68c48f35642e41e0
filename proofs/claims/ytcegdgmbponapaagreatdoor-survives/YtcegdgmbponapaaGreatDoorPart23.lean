/-
  shard.Label.Length: where the object can be kept, and where not.
  The piece of a shard.
-/
import Derived.Test.YtcegdgmbponapaaGreatDoorPart14
import Derived.Test.YtcegdgmbponapaaGreatDoorPart22
import Derived.Test.YtcegdgmbponapaaGreatDoorPart10
import Derived.BigQuiet
namespace Go.Proofs.YtcegdgmbponapaaGreatDoor
open Go.RowKit
attribute [local go_sem ↓] Go.wp_at_zero Go.wp_at_succ

set_option maxRecDepth 100000 in
set_option maxHeartbeats 1000000 in
theorem llen_ok (mode t l n s epoch size : Nat) (name : ByteArray) (w : World) (h : IsPlan mode t l n) (hs : size ≤ 60) (h1 : 1 ≤ name.size) (h2 : name.size ≤ 12) (hng : Cof.ngroups mode t l size ≤ 60) :
    Calls Tryz.prog 210 #[.agg #[.string name, .int .i64 mode, .int .i64 t, .int .i64 l, .int .i64 size, .int .i64 epoch, .int .i64 n, .int .i64 s]] w fun e w' =>
      e = .returned (.tuple #[.int .i64 (10 + (name.size : Int) + ((Cof.ngroups mode t l size : Nat) : Int) + 8), .nilIface]) ∧ Below w.heap.size w w' := by
  have hba := (Below.refl w.heap.size w).alloc (Nat.le_refl _) (.cells #[.string name, .int .i64 mode, .int .i64 t, .int .i64 l, .int .i64 size, .int .i64 epoch, .int .i64 n, .int .i64 s] 224)
  have HL := hid (length_ok mode t l n size (w.alloc (.cells #[.string name, .int .i64 mode, .int .i64 t, .int .i64 l, .int .i64 size, .int .i64 epoch, .int .i64 n, .int .i64 s] 224)) h hs)
  generalize Cof.ngroups mode t l size = ng at *
  clear h hs
  have q1 : ¬ (name.size : Int) < 1 := by omega
  have q2 : ¬ (12 : Int) < (name.size : Int) := by omega
  go_enter Tryz.func210, Tryz.ntmps210
  go_wp2_with (go_at_call 240; refine HL.out.mono ?_; rintro e w1 ⟨rfl, hb1⟩)
  go_ret2
  exact ⟨rfl, hba.trans (hb1.mono (by simp))⟩

set_option maxRecDepth 100000 in
set_option maxHeartbeats 1000000 in
theorem llen_name (m t l n s epoch size : Int) (name : ByteArray) (w : World) (hno : name.size < 1 ∨ 12 < name.size) (hsz : name.size ≤ maxLen) (hT : Tab w) :
    Calls Tryz.prog 210 #[.agg #[.string name, .int .i64 m, .int .i64 t, .int .i64 l, .int .i64 size, .int .i64 epoch, .int .i64 n, .int .i64 s]] w fun e w' =>
      ∃ ev, e = .returned (.tuple #[.int .i64 0, ev]) ∧ Chain w' 2 1 ev ∧ Below w.heap.size w w' := by
  have hba := (Below.refl w.heap.size w).alloc (Nat.le_refl _) (.cells #[.string name, .int .i64 m, .int .i64 t, .int .i64 l, .int .i64 size, .int .i64 epoch, .int .i64 n, .int .i64 s] 224)
  have HT := hid (hT.keeps hba (Nat.le_refl _))
  have HI := hid (show I64 (name.size : Int) by unfold I64; unfold maxLen at hsz; omega)
  clear hT
  rcases hno with hno | hno
  · have q1 : (name.size : Int) < 1 := by omega
    go_enter Tryz.func210, Tryz.ntmps210
    go_wp2_with (go_at_call 130; refine (atCount_any (name.size : Int) _ _ 2 0 _ HI.out (by decide) HT.out .hit).mono ?_; rintro e w2 ⟨e2, rfl, hch, hb2⟩)
    go_ret2
    exact ⟨_, rfl, hch, hba.trans (hb2.mono (by simp))⟩
  · have q1 : ¬ (name.size : Int) < 1 := by omega
    have q2 : (12 : Int) < (name.size : Int) := by omega
    go_enter Tryz.func210, Tryz.ntmps210
    go_wp2_with (go_at_call 130; refine (atCount_any (name.size : Int) _ _ 2 0 _ HI.out (by decide) HT.out .hit).mono ?_; rintro e w2 ⟨e2, rfl, hch, hb2⟩)
    go_ret2
    exact ⟨_, rfl, hch, hba.trans (hb2.mono (by simp))⟩

set_option maxRecDepth 100000 in
set_option maxHeartbeats 1000000 in
theorem llen_no (m t l n s epoch size k : Int) (name : ByteArray) (w : World) (h1 : 1 ≤ name.size) (h2 : name.size ≤ 12) (hT : Tab w)
    (h : ∀ w, Tab w → Calls Tryz.prog 91 #[.agg #[.int .i64 m, .int .i64 t, .int .i64 l], .int .i64 n, .int .i64 size] w fun e w' => ∃ ev, e = .returned (.tuple #[noLay, ev]) ∧ Chain w' k 1 ev ∧ Below w.heap.size w w') :
    Calls Tryz.prog 210 #[.agg #[.string name, .int .i64 m, .int .i64 t, .int .i64 l, .int .i64 size, .int .i64 epoch, .int .i64 n, .int .i64 s]] w fun e w' =>
      ∃ x ev, e = .returned (.tuple #[.int .i64 x, ev]) ∧ Chain w' k 2 ev ∧ Below w.heap.size w w' := by
  have hba := (Below.refl w.heap.size w).alloc (Nat.le_refl _) (.cells #[.string name, .int .i64 m, .int .i64 t, .int .i64 l, .int .i64 size, .int .i64 epoch, .int .i64 n, .int .i64 s] 224)
  have HL := hid (length_no m t l n size k _ (hT.keeps hba (Nat.le_refl _)) h)
  clear h hT
  have q1 : ¬ (name.size : Int) < 1 := by omega
  have q2 : ¬ (12 : Int) < (name.size : Int) := by omega
  go_enter Tryz.func210, Tryz.ntmps210
  go_wp2_with (go_at_call 240; refine HL.out.mono ?_; rintro e w1 ⟨ev, rfl, hch, hb1⟩; obtain ⟨te, ve, rfl⟩ := hch.shape)
  go_ret2
  exact ⟨_, _, rfl, hch, hba.trans (hb1.mono (by simp))⟩
end Go.Proofs.YtcegdgmbponapaaGreatDoor

namespace Go.Proofs.YtcegdgmbponapaaGreatDoor
open Go.RowKit
attribute [local go_sem ↓] Go.wp_at_zero Go.wp_at_succ

/-- A good shard: head, piece of so many bytes, tag. -/
def Cof.Good (key : Nat) (hd : List UInt8) (len : Nat) (X P : List UInt8) : Prop := P.length = len ∧ X = Cof.sealed key (hd ++ P)

theorem Rd.part {w : World} {b o : Nat} {xs : List UInt8} (h : Rd w (some ⟨b, o, none⟩) (bs xs)) (i n : Nat) : Rd w (some ⟨b, o + i, none⟩) (bs ((xs.drop i).take n)) := by
  intro k v hk
  have hk' : (bs xs)[i + k]? = some v := by
    simp only [bs, List.map_take, List.map_drop] at hk ⊢
    rw [List.getElem?_take] at hk
    split at hk
    · rw [List.getElem?_drop] at hk; exact hk
    · cases hk
  obtain ⟨b', o', h1, h2, h3⟩ := h (i + k) v hk'
  simp at h1
  obtain ⟨rfl, rfl⟩ := h1
  exact ⟨b, o + i, rfl, h2, by rw [Nat.add_assoc]; exact h3⟩

set_option maxRecDepth 100000 in
set_option maxHeartbeats 1000000 in
theorem piece_long (mode t l n s epoch size key len : Nat) (hlen : len = Cof.ngroups mode t l size) (name : ByteArray) (aM : Option Addr) (m c : Nat) (w : World) (hp : IsPlan mode t l n) (hz : size ≤ 60) (hn1 : 1 ≤ name.size) (hnm : name.size ≤ 12)
    (hm : m ≤ 1000) (hl : len ≤ 60) (hne : m ≠ 10 + name.size + len + 8) (hT : Tab w) :
    Calls Tryz.prog 181 #[.agg #[.string name, .int .i64 mode, .int .i64 t, .int .i64 l, .int .i64 size, .int .i64 epoch, .int .i64 n, .int .i64 s], .slice aM m c, .int .u64 key] w fun e w' =>
      ∃ ev, e = .returned (.tuple #[.slice none 0 0, ev]) ∧ Chain w' 12 1 ev ∧ Below w.heap.size w w' := by
  have hba := (Below.refl w.heap.size w).alloc (Nat.le_refl _) (.cells #[.string name, .int .i64 mode, .int .i64 t, .int .i64 l, .int .i64 size, .int .i64 epoch, .int .i64 n, .int .i64 s] 224)
  have HL := hid (llen_ok mode t l n s epoch size name (w.alloc (.cells #[.string name, .int .i64 mode, .int .i64 t, .int .i64 l, .int .i64 size, .int .i64 epoch, .int .i64 n, .int .i64 s] 224)) hp hz hn1 hnm (by omega))
  rw [← hlen] at HL
  have HT := hid (hT.keeps hba (Nat.le_refl _))
  have HI := hid (show I64 (m : Int) by unfold I64; omega)
  have hq : ((m : Int) != 10 + (name.size : Int) + (len : Int) + 8) = true := by rw [bne_iff_ne]; omega
  clear hp hz hT hne hlen
  go_enter Tryz.func181, Tryz.ntmps181
  go_wp2_with fail
  refine HL.out.mono ?_
  rintro e w1 ⟨rfl, hb1⟩
  have hb01 : Below w.heap.size w w1 := hba.trans (hb1.mono (by simp))
  have HT1 := hid (HT.out.keeps hb1 (Nat.le_refl _))
  go_wp2_with (go_at_call 130; refine (atCount_any (m : Int) _ _ 12 0 _ HI.out (by decide) HT1.out .hit).mono ?_; rintro e w2 ⟨e2, rfl, hch, hb2⟩)
  go_ret2
  exact ⟨_, rfl, hch, hb01.trans (hb2.mono hb01.size)⟩

theorem good_take {key len H : Nat} {hd X P : List UInt8} (hH : hd.length = H) (h : Cof.Good key hd len X P) : X.take H = hd ∧ X.drop (H + len) = Cof.high (Cof.tag key (X.take (H + len))) 8 ∧ P = (X.drop H).take len := by
  obtain ⟨h1, rfl⟩ := h
  have e1 : (Cof.sealed key (hd ++ P)).take (H + len) = hd ++ P := by
    unfold Cof.sealed
    rw [List.take_append_of_le_length (by simp; omega), List.take_of_length_le (by simp; omega)]
  refine ⟨?_, ?_, ?_⟩
  · unfold Cof.sealed
    rw [List.append_assoc, ← hH, List.take_left]
  · rw [e1]
    unfold Cof.sealed
    rw [List.drop_append_of_le_length (by simp; omega), List.drop_of_length_le (by simp; omega), List.nil_append]
  · unfold Cof.sealed
    rw [List.append_assoc, ← hH, List.drop_left, ← h1, List.take_left]

theorem good_of {key len H m : Nat} {hd X : List UInt8} (hm : m = X.length) (hme : m = H + len + 8) (h1 : X.take H = hd) (h2 : X.drop (H + len) = Cof.high (Cof.tag key (X.take (H + len))) 8) : Cof.Good key hd len X ((X.drop H).take len) := by
  refine ⟨by rw [List.length_take, List.length_drop]; omega, ?_⟩
  have e : hd ++ (X.drop H).take len = X.take (H + len) := by rw [← h1, List.take_add]
  unfold Cof.sealed
  rw [e, ← h2, List.take_append_drop]

set_option maxRecDepth 100000 in
set_option maxHeartbeats 1000000 in
theorem piece_same (mode t l n s epoch size key len : Nat) (hlen : len = Cof.ngroups mode t l size) (name : ByteArray) (b o m c : Nat) (X : List UInt8) (w : World) (hp : IsPlan mode t l n) (hs : s < n) (he : epoch ≤ 100) (hz : size ≤ 60) (hn1 : 1 ≤ name.size) (hnm : name.size ≤ 12)
    (hk : key < 18446744073709551616) (hl : len ≤ 60) (em : m = X.length) (hmc : m ≤ c) (hme : m = 10 + name.size + len + 8) (hr : Rd w (some ⟨b, o, none⟩) (bs X)) :
    Calls Tryz.prog 181 #[.agg #[.string name, .int .i64 mode, .int .i64 t, .int .i64 l, .int .i64 size, .int .i64 epoch, .int .i64 n, .int .i64 s], .slice (some ⟨b, o, none⟩) m c, .int .u64 key] w fun e w' =>
      (∀ P, Cof.Good key (Cof.head mode t l n s epoch size name.data.toList) len X P → ∃ v, e = .returned (.tuple #[v, .nilIface]) ∧ w'.ownsRow w.heap.size 5 1 v len (bs P)) ∧
      ((¬ ∃ P, Cof.Good key (Cof.head mode t l n s epoch size name.data.toList) len X P) → ∃ ev, e = .returned (.tuple #[.slice none 0 0, ev]) ∧ Chain w' 12 1 ev) ∧ Below w.heap.size w w' := by
  have hba := (Below.refl w.heap.size w).alloc (Nat.le_refl _) (.cells #[.string name, .int .i64 mode, .int .i64 t, .int .i64 l, .int .i64 size, .int .i64 epoch, .int .i64 n, .int .i64 s] 224)
  have HH := hid (fun w' => head_any mode t l n s epoch size name w' hp hs he hz hnm)
  have HLL := hid (llen_ok mode t l n s epoch size name (w.alloc (.cells #[.string name, .int .i64 mode, .int .i64 t, .int .i64 l, .int .i64 size, .int .i64 epoch, .int .i64 n, .int .i64 s] 224)) hp hz hn1 hnm (by omega))
  rw [← hlen] at HLL
  have hHL : (Cof.head mode t l n s epoch size name.data.toList).length = 10 + name.size := by rw [Cof.length_head]; simp
  obtain ⟨H, hH⟩ : ∃ H, H = 10 + name.size := ⟨_, rfl⟩
  rw [← hH] at HH hHL hme
  obtain ⟨M, hM⟩ : ∃ M, M = H + len := ⟨_, rfl⟩
  rw [show (10 : Int) + (name.size : Int) + (len : Int) = (M : Int) by omega] at HLL
  rw [← hM] at hme
  have hH22 : H ≤ 22 := by omega
  generalize Cof.head mode t l n s epoch size name.data.toList = hd at *
  have HHL := hid hHL
  have EM := hid em
  have HK := hid hk
  have HR := hid hr
  have HME := hid hme
  have hq : ((m : Int) != (M : Int) + 8) = false := by rw [hme]; simp
  have hq0 : (0 : Int) ≤ (M : Int) := by omega
  have hq1 : (M : Int) ≤ (m : Int) := by omega
  have hq2 : (M : Int) ≤ (c : Int) := by omega
  have hmi : (m : Int) ≤ (c : Int) := by omega
  have hc0 : ¬ c = 0 := by omega
  have hcn : ¬ c = M := by omega
  have hcn2 : ¬ c = H := by omega
  have hHi : (H : Int) ≤ (M : Int) := by omega
  have hHl : H ≤ M := by omega
  have hM82 : M ≤ 82 := by omega
  have hw1 : IntKind.i64.wrap (M : Int) = (M : Int) := by rw [IntKind.wrap_i64]; omega
  have hw2 : IntKind.i64.wrap ((M : Int) + 8 - 8) = (M : Int) := by rw [IntKind.wrap_i64]; omega
  have HMM := hid hM
  clear hp hs he hz hk em hr hme hH hHL hlen hM
  go_enter Tryz.func181, Tryz.ntmps181
  go_wp2_with fail
  refine HLL.out.mono ?_
  rintro e w1 ⟨rfl, hb1⟩
  have hb01 : Below w.heap.size w w1 := hba.trans (hb1.mono (by simp))
  have hc1 : ∀ o, w1.cell? ⟨w.heap.size, o, none⟩ = _ := fun o => (bcell hb1).1 w.heap.size o (by simp)
  have hz1 : w.heap.size < w1.heap.size := by have := hb1.size; simp at this; omega
  go_wp2_with fail
  go_region_held3 (fun w' => ∀ o, w'.cell? ⟨w.heap.size, o, none⟩ = w1.cell? ⟨w.heap.size, o, none⟩) (first | exact fun _ => rfl | exact d3 | go_keep)
    (first | (go_at_call 156; refine (HH.out _).mono ?_; rintro e w2 ⟨v1, rfl, hown1, hb2⟩; obtain ⟨a1, c1, rfl, hrd1⟩ := owns_any_rd hown1; have d3 : ∀ o, w2.cell? ⟨w.heap.size, o, none⟩ = w1.cell? ⟨w.heap.size, o, none⟩ := fun o => ((Below.refl w1.heap.size w1).drew.trans hb2).cell (by exact hz1)))
  obtain ⟨W1, rfl⟩ : ∃ W1, W1 = w2 := ⟨_, rfl⟩
  have hbW : Below w.heap.size w W1 := hb01.trans (((Below.refl w1.heap.size w1).drew.trans hb2).mono hb01.size)
  have HR2 := hid hrd1
  have HX := hid (HR.out.below hbW (Nat.le_refl _))
  have hzW := hbW.size
  clear hown1 hrd1 hb1 hb2 d3
  have HPX := hid (prefix_any (some ⟨b, o, none⟩) a1 M c H c1 (X.take M) hd W1 (by have := EM.out; have := HME.out; rw [List.length_take]; omega) HHL.out.symm (by omega) (by have := HX.out.part 0 M; simpa using this) HR2.out)
  have HTT := hid (show (X.take M).take H = X.take H by rw [List.take_take, Nat.min_eq_left (by omega)])
  by_cases hpre : X.take H = hd
  · have HPRE := hid (show decide ((X.take M).take H = hd) = true by rw [HTT.out]; exact decide_eq_true hpre)
    rw [HPRE.out] at HPX
    have HPR := hid hpre
    clear hpre
    go_wp2_with fail
    refine HPX.out.mono ?_
    rintro e w2 ⟨rfl, rfl⟩
    go_wp2_with fail
    refine (tagOf_any (some ⟨b, o, none⟩) M c (X.take M) key _ (by have := EM.out; have := HME.out; rw [List.length_take]; omega) (by have := HX.out.part 0 M; simpa using this) (by omega) HK.out).mono ?_
    rintro e w3 ⟨g3, rfl, hown3, hb3⟩
    have HX3 := hid (HX.out.below hb3 (Nat.le_refl _))
    have HEQ := hid (equal_any (some ⟨b, o + M, none⟩) (some ⟨g3, 0, none⟩) (m - M) (c - M) 8 8 (X.drop M) (Cof.high (Cof.tag key (X.take M)) 8) w3 (by have := EM.out; rw [List.length_drop]; omega) (by rw [Cof.length_high]) (by have := HX3.out.part M (X.length); rw [List.take_of_length_le (by rw [List.length_drop]; omega)] at this; exact this) (owns_rd hown3))
    have hb03 : Below w.heap.size w w3 := hbW.trans (hb3.mono hzW)
    clear hown3
    by_cases htag : X.drop M = Cof.high (Cof.tag key (X.take M)) 8
    · rw [decide_eq_true htag] at HEQ
      have HTG := hid htag
      clear htag
      go_wp2_with fail
      refine HEQ.out.mono ?_
      rintro e w4 ⟨rfl, rfl⟩
      go_wp2_with fail
      refine (cloneB (some ⟨b, o + H, none⟩) _ _ ((X.drop H).take len) _ (by have := EM.out; have := HME.out; have := HMM.out; rw [List.length_take, List.length_drop]; omega) (HX3.out.part H len) (by omega) nofun).mono ?_
      rintro e w5 ⟨v5, rfl, hown5, hb5⟩
      have HV5 := hid (show _ from (show M - H = len by have := HMM.out; omega) ▸ hown5.mono hb03.size)
      clear hown5
      go_wp2_with fail
      go_ret2
      refine ⟨fun P hP => ⟨_, rfl, ?_⟩, fun hno => absurd ⟨_, good_of EM.out (HMM.out ▸ HME.out) HPR.out (HMM.out ▸ HTG.out)⟩ hno, hb03.trans (hb5.mono hb03.size)⟩
      rw [(good_take HHL.out hP).2.2]
      exact HV5.out
    · rw [decide_eq_false htag] at HEQ
      have HTG := hid htag
      clear htag
      go_wp2_with fail
      refine HEQ.out.mono ?_
      rintro e w4 ⟨rfl, rfl⟩
      go_wp2_with fail
      refine (at_chain _ _ 12 0 _ .hit).mono ?_
      rintro e w5 ⟨e5, rfl, hch, hb5⟩
      go_wp2_with fail
      go_ret2
      exact ⟨fun P hP => absurd (good_take HHL.out hP).2.1 (HMM.out ▸ HTG.out), fun _ => ⟨_, rfl, hch⟩, hb03.trans (hb5.mono hb03.size)⟩
  · have HPRE := hid (show decide ((X.take M).take H = hd) = false by rw [HTT.out]; exact decide_eq_false hpre)
    rw [HPRE.out] at HPX
    have HPR := hid hpre
    clear hpre
    go_wp2_with fail
    refine HPX.out.mono ?_
    rintro e w2 ⟨rfl, rfl⟩
    go_wp2_with fail
    refine (at_chain _ _ 12 0 _ .hit).mono ?_
    rintro e w5 ⟨e5, rfl, hch, hb5⟩
    go_wp2_with fail
    go_ret2
    exact ⟨fun P hP => absurd (good_take HHL.out hP).1 HPR.out, fun _ => ⟨_, rfl, hch⟩, hbW.trans (hb5.mono hzW)⟩
end Go.Proofs.YtcegdgmbponapaaGreatDoor
