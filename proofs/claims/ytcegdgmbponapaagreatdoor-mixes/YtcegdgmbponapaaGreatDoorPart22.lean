/-
  bytes.Equal, bytes.HasPrefix, slices.Clone of bytes.
  shard.Label.Length: where the object can be kept, and where not.
-/
import Derived.Test.YtcegdgmbponapaaGreatDoorPart03
import Derived.Test.YtcegdgmbponapaaGreatDoorPart20
import Derived.Lib.SliceRun
import Derived.Test.YtcegdgmbponapaaGreatDoorPart13
namespace Go.Proofs.YtcegdgmbponapaaGreatDoor
open Go.RowKit

set_option maxRecDepth 100000 in
theorem equal_any (a1 a2 : Option Addr) (n1 c1 n2 c2 : Nat) (xs ys : List UInt8) (w : World) (e1 : n1 = xs.length) (e2 : n2 = ys.length) (r1 : Rd w a1 (bs xs)) (r2 : Rd w a2 (bs ys)) :
    Calls Tryz.prog 219 #[.slice a1 n1 c1, .slice a2 n2 c2] w fun e w' => e = .returned (.bool (decide (xs = ys))) ∧ w' = w := by
  have h1 := conv_string w a1 c1 n1 xs e1 r1
  have h2 := conv_string w a2 c2 n2 ys e2 r2
  clear e1 e2 r1 r2
  go_enter Tryz.func219, Tryz.ntmps219
  go_wp2
  go_ret
  refine ⟨congrArg (fun b => Ending.returned (.bool b)) ?_, rfl⟩
  rw [Bool.eq_iff_iff]
  simp

set_option maxRecDepth 100000 in
theorem prefix_any (a1 a2 : Option Addr) (n1 c1 n2 c2 : Nat) (xs ys : List UInt8) (w : World) (e1 : n1 = xs.length) (e2 : n2 = ys.length) (hc : n1 ≤ c1) (r1 : Rd w a1 (bs xs)) (r2 : Rd w a2 (bs ys)) :
    Calls Tryz.prog 218 #[.slice a1 n1 c1, .slice a2 n2 c2] w fun e w' => e = .returned (.bool (decide (xs.take n2 = ys))) ∧ w' = w := by
  by_cases h : n2 ≤ n1
  · have h' : (n2 : Int) ≤ (n1 : Int) := by omega
    have h2 : (n2 : Int) ≤ (c1 : Int) := by omega
    have HE := hid (fun c => equal_any a1 a2 n2 c n2 c2 (xs.take n2) ys w (by rw [List.length_take]; omega) e2 (by intro k v hk; exact r1 k v (by simp only [bs, List.map_take] at hk ⊢; rw [List.getElem?_take] at hk; split at hk; exact hk; cases hk)) r2)
    clear e1 e2 r1 r2
    go_enter Tryz.func218, Tryz.ntmps218
    go_wp2_with (go_at_call 219; refine (HE.out _).mono ?_; rintro e w1 ⟨rfl, rfl⟩)
    go_ret
    exact ⟨rfl, rfl⟩
  · have h' : ¬ (n2 : Int) ≤ (n1 : Int) := by omega
    have HD := hid (show decide (xs.take n2 = ys) = false by
      apply decide_eq_false
      intro e
      have := congrArg List.length e
      rw [List.length_take] at this
      omega)
    clear e1 e2 r1 r2
    go_enter Tryz.func218, Tryz.ntmps218
    go_wp2
    go_ret
    rw [HD.out]
    exact ⟨rfl, rfl⟩

set_option maxRecDepth 100000 in
theorem cloneB (a : Option Addr) (n c : Nat) (xs : List UInt8) (w : World) (en : n = xs.length) (hr : Rd w a (bs xs)) (hn : n ≤ 1000) (hsome : a ≠ none) :
    Calls Tryz.prog 220 #[.slice a n c] w fun e w' => ∃ v, e = .returned v ∧ w'.ownsRow w.heap.size 5 1 v n (bs xs) ∧ Below w.heap.size w w' := by
  obtain ⟨i0, hi, hz0, hz1, hz2⟩ := info_parts Tryz.info5
  obtain ⟨b, rfl⟩ : ∃ b, a = some b := by cases a with | none => exact absurd rfl hsome | some b => exact ⟨b, rfl⟩
  have HL := hid (show (bs xs).length = n by rw [bs_length, en])
  have HR := hid hr
  have hba := (Below.refl w.heap.size w).alloc (Nat.le_refl _) (.cells #[] 5)
  have hq := Lib.run_eql_slice_nil (P := Tryz.prog) w 50 5 (some b) n c 0 0 Tryz.underlying50
  have HE := hid (show (w.alloc (.cells #[] 5)).ownsRow w.heap.size 5 1 (.slice (some ⟨w.heap.size, 0, none⟩) 0 0) 0 [] from owns_of_block (L := []) (by show (w.heap.push _)[w.heap.size]? = _; simp) (Nat.le_refl _) rfl (by unfold maxLen; omega))
  clear en hr hsome
  go_enter Tryz.func220, Tryz.ntmps220
  go_wp2_with (first | (at_builtin; refine append_src _ rfl (.tmp 5) (.tmp 6) 50 rfl w.heap.size 5 i0 (Value.int .u8 0) 1 Tryz.underlying50 hi hz0 hz1 hz2 rfl _ 0 [] rfl HE.out (some b) n c (bs xs) rfl HL.out (HR.out.below hba (Nat.le_refl _)) nofun (fun u hu => bs_one _ u hu) (by omega) (by omega) (by simp) ?_; intro v2 w2 hown2 hgrow2; rw [Nat.zero_add, List.nil_append] at hown2; have hb2 : Below w.heap.size w w2 := hba.grown hgrow2 (by simp) (fun k hk => (HE.out.lt k hk).1); have HO2 := hid hown2; clear hown2 hgrow2) | fail)
  go_ret
  exact ⟨_, rfl, HO2.out, hb2⟩
end Go.Proofs.YtcegdgmbponapaaGreatDoor

namespace Go.Proofs.YtcegdgmbponapaaGreatDoor
open Go.RowKit
attribute [local go_sem ↓] Go.wp_at_zero Go.wp_at_succ

set_option maxRecDepth 100000 in
set_option maxHeartbeats 1000000 in
theorem llen_ok (mode t l n s epoch size : Nat) (name : ByteArray) (w : World) (h : IsPlan mode t l n) (hs : size ≤ 60) (h1 : 1 ≤ name.size) (h2 : name.size ≤ 12) (hng : Cof.ngroups mode t l size ≤ 60) :
    Calls Tryz.prog 210 #[.agg #[.string name, .int .i64 mode, .int .i64 t, .int .i64 l, .int .i64 size, .int .i64 epoch, .int .i64 n, .int .i64 s]] w fun e w' =>
      e = .returned (.tuple #[.int .i64 (10 + (name.size : Int) + ((Cof.ngroups mode t l size : Nat) : Int) + 8), .nilIface]) ∧ Below w.heap.size w w' := by
  have hba := (Below.refl w.heap.size w).alloc (Nat.le_refl _) (.cells #[.string name, .int .i64 mode, .int .i64 t, .int .i64 l, .int .i64 size, .int .i64 epoch, .int .i64 n, .int .i64 s] 224)
  have HL := hid (length_ok mode t l n size (w.alloc (.cells #[.string name, .int .i64 mode, .int .i64 t, .int .i64 l, .int .i64 size, .int .i64 epoch, .int .i64 n, .int .i64 s] 224)) h hs)
  generalize Cof.ngroups mode t l size = ng at *
  clear h hs
  have q1 : ¬ (name.size : Int) < 1 := by omega
  have q2 : ¬ (12 : Int) < (name.size : Int) := by omega
  go_enter Tryz.func210, Tryz.ntmps210
  go_wp2_with (go_at_call 240; refine HL.out.mono ?_; rintro e w1 ⟨rfl, hb1⟩)
  go_ret2
  exact ⟨rfl, hba.trans (hb1.mono (by simp))⟩

set_option maxRecDepth 100000 in
set_option maxHeartbeats 1000000 in
theorem llen_name (m t l n s epoch size : Int) (name : ByteArray) (w : World) (hno : name.size < 1 ∨ 12 < name.size) (hsz : name.size ≤ maxLen) (hT : Tab w) :
    Calls Tryz.prog 210 #[.agg #[.string name, .int .i64 m, .int .i64 t, .int .i64 l, .int .i64 size, .int .i64 epoch, .int .i64 n, .int .i64 s]] w fun e w' =>
      ∃ ev, e = .returned (.tuple #[.int .i64 0, ev]) ∧ Chain w' 2 1 ev ∧ Below w.heap.size w w' := by
  have hba := (Below.refl w.heap.size w).alloc (Nat.le_refl _) (.cells #[.string name, .int .i64 m, .int .i64 t, .int .i64 l, .int .i64 size, .int .i64 epoch, .int .i64 n, .int .i64 s] 224)
  have HT := hid (hT.keeps hba (Nat.le_refl _))
  have HI := hid (show I64 (name.size : Int) by unfold I64; unfold maxLen at hsz; omega)
  clear hT
  rcases hno with hno | hno
  · have q1 : (name.size : Int) < 1 := by omega
    go_enter Tryz.func210, Tryz.ntmps210
    go_wp2_with (go_at_call 130; refine (atCount_any (name.size : Int) _ _ 2 0 _ HI.out (by decide) HT.out .hit).mono ?_; rintro e w2 ⟨e2, rfl, hch, hb2⟩)
    go_ret2
    exact ⟨_, rfl, hch, hba.trans (hb2.mono (by simp))⟩
  · have q1 : ¬ (name.size : Int) < 1 := by omega
    have q2 : (12 : Int) < (name.size : Int) := by omega
    go_enter Tryz.func210, Tryz.ntmps210
    go_wp2_with (go_at_call 130; refine (atCount_any (name.size : Int) _ _ 2 0 _ HI.out (by decide) HT.out .hit).mono ?_; rintro e w2 ⟨e2, rfl, hch, hb2⟩)
    go_ret2
    exact ⟨_, rfl, hch, hba.trans (hb2.mono (by simp))⟩

set_option maxRecDepth 100000 in
set_option maxHeartbeats 1000000 in
theorem llen_no (m t l n s epoch size k : Int) (name : ByteArray) (w : World) (h1 : 1 ≤ name.size) (h2 : name.size ≤ 12) (hT : Tab w)
    (h : ∀ w, Tab w → Calls Tryz.prog 91 #[.agg #[.int .i64 m, .int .i64 t, .int .i64 l], .int .i64 n, .int .i64 size] w fun e w' => ∃ ev, e = .returned (.tuple #[noLay, ev]) ∧ Chain w' k 1 ev ∧ Below w.heap.size w w') :
    Calls Tryz.prog 210 #[.agg #[.string name, .int .i64 m, .int .i64 t, .int .i64 l, .int .i64 size, .int .i64 epoch, .int .i64 n, .int .i64 s]] w fun e w' =>
      ∃ x ev, e = .returned (.tuple #[.int .i64 x, ev]) ∧ Chain w' k 2 ev ∧ Below w.heap.size w w' := by
  have hba := (Below.refl w.heap.size w).alloc (Nat.le_refl _) (.cells #[.string name, .int .i64 m, .int .i64 t, .int .i64 l, .int .i64 size, .int .i64 epoch, .int .i64 n, .int .i64 s] 224)
  have HL := hid (length_no m t l n size k _ (hT.keeps hba (Nat.le_refl _)) h)
  clear h hT
  have q1 : ¬ (name.size : Int) < 1 := by omega
  have q2 : ¬ (12 : Int) < (name.size : Int) := by omega
  go_enter Tryz.func210, Tryz.ntmps210
  go_wp2_with (go_at_call 240; refine HL.out.mono ?_; rintro e w1 ⟨ev, rfl, hch, hb1⟩; obtain ⟨te, ve, rfl⟩ := hch.shape)
  go_ret2
  exact ⟨_, _, rfl, hch, hba.trans (hb1.mono (by simp))⟩
end Go.Proofs.YtcegdgmbponapaaGreatDoor
