/-
  The object that a call was cut off in.
  A record for each store that says which object is meant.
  The pen, whatever it is set to.
-/
import Derived.Test.YtcegdgmbponapabGreatDoorPart19
import Derived.Test.YtcegdgmbponapabGreatDoorPart06
import Derived.Test.YtcegdgmbponapabGreatDoorPart16
import Derived.Test.YtcegdgmbponapabGreatDoorPart17
import Derived.Test.YtcegdgmbponapabGreatDoorPart15
import Derived.Test.YtcegdgmbponapabGreatDoorMul
import Derived.BigQuiet
import Derived.Test.YtcegdgmbponapabGreatDoorPart12
namespace Go.Proofs.YtcegdgmbponapabGreatDoor
open Go.RowKit
attribute [local go_sem ↓] Go.wp_at_zero Go.wp_at_succ

/-- What cutOff finds: names one by one, what settles each; none: an error. -/
def cutRun (code : List UInt8 → Option Nat) : List (List UInt8) → List UInt8 → Nat → Option (List UInt8 × Nat)
  | [], f, s => some (f, s)
  | x :: xs, f, s => match code x with
    | none => none
    | some c => if c = 5 then cutRun code xs f s else if s = 5 then cutRun code xs x c else none

def codeV : Option Nat → Value
  | some c => .tuple #[.int .i64 c, .nilIface]
  | none => .tuple #[.int .i64 5, .iface 109 (.int .i64 12)]

set_option maxRecDepth 100000 in
set_option maxHeartbeats 2000000 in
theorem cutOff_any (V : Nat) (N : List (List UInt8)) (code : List UInt8 → Option Nat) (w : World) (hN : N.length ≤ 80) (hcs : ∀ x c, code x = some c → c ≤ 5) (hlen : ∀ x ∈ N, x.length ≤ 1000)
    (hnames : Calls Tryz.prog 109 #[.pointer (some ⟨V, 0, none⟩)] w fun e w' => ∃ a c, e = .returned (.slice a N.length c) ∧ Rd w' a (strs N) ∧ Below w.heap.size w w')
    (hset : ∀ x ∈ N, ∀ w', Below w.heap.size w w' → Calls Tryz.prog 110 #[.pointer (some ⟨V, 0, none⟩), .string ⟨x.toArray⟩] w' fun e w'' => e = .returned (codeV (code x)) ∧ Below w'.heap.size w' w'') :
    Calls Tryz.prog 81 #[.pointer (some ⟨V, 0, none⟩)] w fun e w' =>
      (∃ f s, cutRun code N [] 5 = some (f, s) ∧ e = .returned (.tuple #[.string ⟨f.toArray⟩, .int .i64 s, .nilIface]) ∧ Below w.heap.size w w') ∨
      (cutRun code N [] 5 = none ∧ ∃ ev, e = .returned (.tuple #[.string ⟨#[]⟩, .int .i64 5, ev]) ∧ Chain w' 12 1 ev ∧ Below w.heap.size w w') := by
  have HNM := hid hnames
  have HSET := hid hset
  have HCS := hid hcs
  have HLEN := hid hlen
  clear hnames hset hcs hlen
  obtain ⟨R, hR⟩ : ∃ R, R = cutRun code N [] 5 := ⟨_, rfl⟩
  have HR := hid hR
  rw [← hR]
  clear hR
  obtain ⟨L, hL⟩ : ∃ L, L = N.length := ⟨_, rfl⟩
  rw [← hL] at HNM hN
  have HL := hid hL
  clear hL
  go_enter Tryz.func81, Tryz.ntmps81
  go_wp2_with fail
  refine HNM.out.mono ?_
  rintro e w1 ⟨an, cn, rfl, hrd, hb1⟩
  have HRD := hid hrd
  clear hrd
  go_wp2_with fail
  go_loopw [5, 6, 14] (fun uf us u wr => ∃ (k s : Nat) (f : List UInt8), k ≤ L ∧ s ≤ 5 ∧ f.length ≤ 1000 ∧ u = .int .i64 k ∧ uf = .string ⟨f.toArray⟩ ∧ us = .int .i64 s ∧ R = cutRun code (N.drop k) f s ∧ Below w1.heap.size w1 wr) (fun _ _ u _ => L - (intOf u).toNat)
  case atStart => exact ⟨0, 5, [], Nat.zero_le _, Nat.le_refl _, by simp, rfl, rfl, rfl, HR.out, Below.refl _ _⟩
  case round =>
    obtain ⟨k, s, f, hk, hs5, hf, rfl, rfl, rfl, hR, hbr⟩ := hrel
    have hb0r := hb1.trans (hbr.mono hb1.size)
    by_cases hlt : k < L
    · obtain ⟨bn, on, rfl, _, hcn⟩ := HRD.out.pos (by rw [show (strs N).length = N.length by simp [strs], ← HL.out]; omega)
      have hkN : k < N.length := by rw [← HL.out]; exact hlt
      obtain ⟨x, hx⟩ : ∃ x, x = N[k] := ⟨_, rfl⟩
      have cx : wr.cell? ⟨bn, on + k, none⟩ = some (.string ⟨x.toArray⟩) := by
        obtain ⟨b', o', e1, e2, e3⟩ := (HRD.out.below hbr (Nat.le_refl _)) k (.string ⟨x.toArray⟩) (by simp [strs, str, hkN, hx])
        cases e1
        exact e3
      have hxm : x ∈ N := by rw [hx]; exact List.getElem_mem hkN
      have hd : N.drop k = x :: N.drop (k + 1) := by rw [List.drop_eq_getElem_cons hkN, hx]
      have HST := hid (HSET.out x hxm wr hb0r)
      have HXL := hid (HLEN.out x hxm)
      have hlt' : (k : Int) < (L : Int) := by omega
      rw [hd] at hR
      unfold cutRun at hR
      cases hc : code x with
      | none =>
        rw [hc] at hR HST
        have HRR := hid hR
        clear hR hc hd hcn hx
        unfold codeV at HST
        go_wp2_with fail
        refine HST.out.mono ?_
        rintro e w2 ⟨rfl, hb2⟩
        go_wp2_with (go_at_call 53; refine (at_chain _ _ 12 0 _ .hit).mono ?_; rintro e w3 ⟨e3, rfl, hch3, hb3⟩)
        have hb03 := (hb0r.trans (hb2.mono hb0r.size)).trans (hb3.mono (by have := hb0r.size; have := hb2.size; omega))
        go_ret3
        exact .inr ⟨HRR.out, _, rfl, hch3, hb03⟩
      | some c =>
        have hc5 := HCS.out x c hc
        rw [hc] at hR HST
        unfold codeV at HST
        clear hc hd hcn hx
        by_cases h5 : c = 5
        · subst h5
          simp only [if_true] at hR
          have HRR := hid hR
          clear hR
          go_wp2_with fail
          refine HST.out.mono ?_
          rintro e w2 ⟨rfl, hb2⟩
          have hb02 := hbr.trans (hb2.mono hbr.size)
          go_wp2_with fail
          go_roundw
          case rel => exact ⟨k + 1, s, f, by omega, hs5, hf, by go_num, rfl, rfl, HRR.out, hb02⟩
          case measure => simp [intOf]; omega
        · simp only [if_neg h5] at hR
          have hc5n : ((c : Int) != 5) = true := by simp; omega
          have hc5n' : ¬ (c : Int) = 5 := by omega
          by_cases hs : s = 5
          · subst hs
            simp only [if_true] at hR
            have HRR := hid hR
            clear hR h5
            go_wp2_with fail
            refine HST.out.mono ?_
            rintro e w2 ⟨rfl, hb2⟩
            have hb02 := hbr.trans (hb2.mono hbr.size)
            go_wp2_with fail
            go_roundw
            case rel => exact ⟨k + 1, c, x, by omega, hc5, HXL.out, by go_num, rfl, rfl, HRR.out, hb02⟩
            case measure => simp [intOf]; omega
          · simp only [if_neg hs] at hR
            have hs5n : ((s : Int) != 5) = true := by simp; omega
            have hs5n' : ¬ (s : Int) = 5 := by omega
            have HRR := hid hR
            have hsz1 : ¬ 9223372036854775807 < (⟨f.toArray⟩ : ByteArray).size + (⟨#[32, 97, 110, 100, 32]⟩ : ByteArray).size := by
              show ¬ 9223372036854775807 < f.toArray.size + 5
              simp; omega
            have hsz2 : ¬ 9223372036854775807 < ((⟨f.toArray⟩ : ByteArray) ++ (⟨#[32, 97, 110, 100, 32]⟩ : ByteArray)).size + (⟨x.toArray⟩ : ByteArray).size := by
              have h1 := HXL.out
              rw [ByteArray.size_append]
              show ¬ 9223372036854775807 < f.toArray.size + 5 + x.toArray.size
              simp; omega
            clear hR h5 hs
            go_wp2_with fail
            refine HST.out.mono ?_
            rintro e w2 ⟨rfl, hb2⟩
            have hb02 := hb0r.trans (hb2.mono hb0r.size)
            go_wp2_with (go_at_call 53; refine (at_chain _ _ 12 0 _ .hit).mono ?_; rintro e w3 ⟨e3, rfl, hch3, hb3⟩)
            go_ret3
            exact .inr ⟨HRR.out, _, rfl, hch3, hb02.trans (hb3.mono hb02.size)⟩
    · have hkL : k = L := by omega
      have HRR := hid (show R = some (f, s) from by
        rw [hR, List.drop_of_length_le (by rw [← HL.out]; omega)]
        rfl)
      clear hR
      subst hkL
      go_wp2_with fail
      go_ret3
      exact .inl ⟨f, s, HRR.out, rfl, hb0r⟩
end Go.Proofs.YtcegdgmbponapabGreatDoor

namespace Go.Proofs.YtcegdgmbponapabGreatDoor
open Go.RowKit
attribute [local go_sem ↓] Go.wp_at_zero Go.wp_at_succ

theorem recs_append (a b : List RecV) : recs (a ++ b) = recs a ++ recs b := by simp [recs]
theorem recs_oneCell (rs : List RecV) (u : Value) (h : u ∈ recs rs) : u.oneCell' = true := recs_one_cell rs u h

/-- A row of n records of which the first k are r. -/
structure Rep (w : World) (base g n k : Nat) (r : RecV) : Prop where
  k1 : 1 ≤ k
  kn : k ≤ n
  hb : base ≤ g
  hp : ∃ rest : List RecV, rest.length = n - k ∧ w.heap[g]? = some (.cells (recs (List.replicate k r ++ rest)).toArray 127)

theorem over_rep (r : RecV) (k m : Nat) (rest : List RecV) (hm : m ≤ rest.length) : over (recs (List.replicate k r ++ rest)) (k * 8) (recs (List.replicate m r)) = recs (List.replicate (k + m) r ++ rest.drop m) := by
  unfold over
  have h1 : (recs (List.replicate k r)).length = k * 8 := by rw [recs_length, List.length_replicate]
  have h2 : (recs (List.replicate m r)).length = m * 8 := by rw [recs_length, List.length_replicate]
  rw [recs_append, ← h1, List.take_left, h2, ← List.drop_drop, List.drop_left, ← List.replicate_append_replicate, List.append_assoc, List.append_assoc (List.replicate k r), recs_append (List.replicate k r), recs_append (List.replicate m r)]
  congr 1
  congr 1
  conv => lhs; rw [← List.take_append_drop m rest, recs_append]
  have h3 : (recs (rest.take m)).length = m * 8 := by rw [recs_length, List.length_take, Nat.min_eq_left hm]
  rw [← h3, List.drop_left]

theorem rep_first (w1 w2 : World) (b n : Nat) (r : RecV) (i0 : TypeInfo) (hi : Tryz.prog.info? 127 = some i0) (hz1 : i0.size = 8) (hn1 : 1 ≤ n) (L : List Value) (hO : w2.ownsRow w1.heap.size 127 8 (.slice (some ⟨w1.heap.size, 0, none⟩) n n) n L) (hb : Below w1.heap.size w1 w2) (hH : ∀ j v, r.cells[j]? = some v → w1.cell? ⟨b, j, none⟩ = some v) (hbl : b < w1.heap.size) :
    ∀ ty, (Builtin.copy_ #[98, 98] ty #[.slice (some ⟨w1.heap.size, 0, none⟩) n n, .slice (some ⟨b, 0, none⟩) 1 1]).run Tryz.prog w2 = .ok (.int .i64 1) (w2.setCells w1.heap.size 0 r.cells) := by
  intro ty
  have hm1 : Nat.min 1 n = 1 := Nat.min_eq_left hn1
  have hlen : r.cells.length = Nat.min 1 n * i0.size := by rw [hz1, hm1]; rfl
  have hl8 : r.cells.length = 8 := rfl
  have h1 := run_copy_any (P := Tryz.prog) w2 98 98 ty 127 i0 w1.heap.size 0 n n (some ⟨b, 0, none⟩) 1 1 r.cells Tryz.underlying98 hi hlen (fun h => by cases h) (fun a ha j v hj => by cases ha; rw [add_at, Nat.zero_add, hb.cell (p := ⟨b, j, none⟩) hbl]; exact hH j v hj) (fun j hj => by
    rw [Nat.zero_add, hO.cellAt j (by omega), List.getElem?_eq_getElem (by have := hO.1; omega)]; rfl) (fun j _ => hO.frozenAt _) (fun v hv => by simp [RecV.cells] at hv; rcases hv with rfl | rfl | rfl | rfl | rfl | rfl | rfl | rfl <;> rfl)
  rw [hm1] at h1
  exact h1

set_option maxRecDepth 100000 in
set_option maxHeartbeats 2000000 in
theorem repeat_any (b : Nat) (r : RecV) (n : Nat) (w : World) (hn1 : 1 ≤ n) (hn8 : n ≤ 8) (h : ∀ j v, r.cells[j]? = some v → w.cell? ⟨b, j, none⟩ = some v) (hbl : b < w.heap.size) :
    Calls Tryz.prog 97 #[.slice (some ⟨b, 0, none⟩) 1 1, .int .i64 n] w fun e w' =>
      ∃ g, e = .returned (.slice (some ⟨g, 0, none⟩) n n) ∧ w.heap.size ≤ g ∧ w'.heap[g]? = some (.cells (recs (List.replicate n r)).toArray 127) ∧ Below w.heap.size w w' := by
  obtain ⟨i0, hi, hz0, hz1, hz2⟩ := info_parts Tryz.infoR
  have HM := hid (Tryz.bits_Mul 1 n (by decide) (by omega) w)
  rw [show (1 * n / 18446744073709551616 : Nat) = 0 by omega, show (1 * n % 18446744073709551616 : Nat) = n by omega] at HM
  have hn0 : ¬ (n : Int) < 0 := by omega
  have hnm : ¬ (9223372036854775807 : Int) < (n : Int) := by omega
  have HH := hid h
  clear h
  go_enter Tryz.func97, Tryz.ntmps97
  go_wp2_with fail
  refine HM.out.mono ?_
  rintro e w1 ⟨rfl, rfl⟩
  go_wp2_with (first | (at_make; refine wpList_make_full _ rfl (.tmp 29) (.tmp 29) 98 rfl w1.heap.size 127 i0 _ 8 Tryz.underlying98 hi hz0 hz1 .i64 .i64 _ _ n rfl rfl rfl rfl (by rw [hz2]; omega) (by unfold maxLen; omega) (by simp) ?_; intro w2 hown2 hgrow2; (have HO2 := hid hown2); (have HG2 := hid hgrow2); clear hown2 hgrow2; (have hcp := rep_first w1 w2 b n r i0 hi hz1 hn1 _ HO2.out ((Below.refl w1.heap.size w1).grown HG2.out (Nat.le_refl _) nofun) HH.out hbl)) | fail)
  have hb12 : Below w1.heap.size w1 w2 := (Below.refl _ _).grown HG2.out (Nat.le_refl _) nofun
  have HJ0 := hid (show Rep (w2.setCells w1.heap.size 0 r.cells) w1.heap.size w1.heap.size n 1 r from by
    have h2 := HO2.out
    rw [made_recs] at h2
    obtain ⟨tl, h3, h4, h5, _⟩ := owns_split h2
    have htl : tl = [] := List.length_eq_zero_iff.1 (by rw [List.length_append, h4] at h5; omega)
    rw [htl, List.append_nil] at h3
    have h6 := setCells_heap w1.heap.size 127 r.cells 0 _ w2 h3 (by rw [recs_length, List.length_replicate]; show 0 + 8 ≤ _; omega)
    have h7 := over_rep r 0 1 (List.replicate n zeroRec) (by simpa using hn1)
    rw [List.replicate_zero, List.nil_append, Nat.zero_mul, show recs (List.replicate 1 r) = r.cells by simp [recs], Nat.zero_add] at h7
    rw [h7] at h6
    exact ⟨Nat.le_refl _, hn1, Nat.le_refl _, _, by simp, h6⟩)
  have HB0 := hid (show Below w1.heap.size w1 (w2.setCells w1.heap.size 0 r.cells) from hb12.trans ((setCells_spared (fun b => b = w1.heap.size) w1.heap.size rfl r.cells 0 w2).below _ hb12.size (fun k hk => by omega)))
  go_loopw [8] (fun u wr => ∃ (k : Nat), u = .int .i64 k ∧ Rep wr w1.heap.size w1.heap.size n k r ∧ Below w1.heap.size w1 wr) (fun u _ => n - (intOf u).toNat)
  case atStart => exact ⟨1, rfl, HJ0.out, HB0.out⟩
  case round =>
    obtain ⟨k, rfl, hrep, hbr⟩ := hrel
    obtain ⟨hk1, hkn, _, rest, hrl, hh⟩ := hrep
    by_cases hlt : k < n
    · have hlt' : (k : Int) < (n : Int) := by omega
      have hkc : ¬ n = k := by omega
      obtain ⟨m, hm⟩ : ∃ m, m = Nat.min k (n - k) := ⟨_, rfl⟩
      have hm1 : 1 ≤ m := by rw [hm]; show 1 ≤ min k (n - k); omega
      have hm2 : m ≤ k ∧ m ≤ n - k := by rw [hm]; show min k (n - k) ≤ k ∧ min k (n - k) ≤ n - k; omega
      have hlen : (recs (List.replicate m r)).length = Nat.min k (n - k) * i0.size := by rw [recs_length, List.length_replicate, hz1, hm]
      have hwl : (recs (List.replicate k r ++ rest)).length = n * 8 := by rw [recs_length, List.length_append, List.length_replicate, hrl]; omega
      have hcp : ∀ ty, (Builtin.copy_ #[98, 98] ty #[.slice (some ⟨w1.heap.size, k * 8, none⟩) (n - k) (n - k), .slice (some ⟨w1.heap.size, 0, none⟩) k n]).run Tryz.prog wr.drew = .ok (.int .i64 (m : Int)) (wr.drew.setCells w1.heap.size (k * 8) (recs (List.replicate m r))) := fun ty => by
        have h1 := run_copy_any (P := Tryz.prog) wr.drew 98 98 ty 127 i0 w1.heap.size (k * 8) (n - k) (n - k) (some ⟨w1.heap.size, 0, none⟩) k n (recs (List.replicate m r)) Tryz.underlying98 hi hlen (fun h => by cases h) (fun a ha j v hj => by
          cases ha
          have hjm : j < m * 8 := by
            rcases Nat.lt_or_ge j (m * 8) with h | h
            · exact h
            · rw [List.getElem?_eq_none (by rw [recs_length, List.length_replicate]; exact h)] at hj; cases hj
          rw [add_at, Nat.zero_add]
          show wr.cell? _ = _
          rw [block_cell hh, recs_append, List.getElem?_append_left (by rw [recs_length, List.length_replicate]; omega), ← hj]
          rw [show List.replicate k r = List.replicate m r ++ List.replicate (k - m) r by rw [List.replicate_append_replicate]; congr 1; omega, recs_append, List.getElem?_append_left (by rw [recs_length, List.length_replicate]; exact hjm)]) (fun j hj => by
          rw [recs_length, List.length_replicate] at hj
          exact block_some (w := wr) hh (by rw [hwl]; omega)) (fun j _ => cells_fz (w := wr) hh) (fun v hv => recs_one_cell _ v hv)
        rw [← hm] at h1
        exact h1
      have HJ := hid (show Rep (wr.drew.setCells w1.heap.size (k * 8) (recs (List.replicate m r))) w1.heap.size w1.heap.size n (k + m) r from by
        have h6 := setCells_heap w1.heap.size 127 (recs (List.replicate m r)) (k * 8) _ wr.drew hh (by rw [hwl, recs_length, List.length_replicate]; omega)
        rw [over_rep r k m rest (by omega)] at h6
        exact ⟨by omega, by omega, Nat.le_refl _, _, by rw [List.length_drop]; omega, h6⟩)
      have HB := hid (show Below w1.heap.size w1 (wr.drew.setCells w1.heap.size (k * 8) (recs (List.replicate m r))) from hbr.drew.trans ((setCells_spared (fun b => b = w1.heap.size) w1.heap.size rfl _ _ wr.drew).below _ hbr.size (fun k hk => by omega)))
      have hsum : IntKind.i64.wrap ((k : Int) + (m : Int)) = ((k + m : Nat) : Int) := by rw [IntKind.wrap_i64]; omega
      clear hh hlen hwl hm
      go_wp2_with fail
      go_region
      go_wp2_with fail
      go_roundw
      case rel => exact ⟨k + m, by go_num, HJ.out, HB.out⟩
      case measure => simp [intOf]; omega
    · have hkn' : k = n := by omega
      subst hkn'
      have HH2 := hid (show wr.heap[w1.heap.size]? = some (.cells (recs (List.replicate k r)).toArray 127) from by
        rw [hh]
        rw [show rest = [] from List.length_eq_zero_iff.1 (by omega), List.append_nil])
      clear hh
      go_wp2_with fail
      go_ret
      exact ⟨_, rfl, Nat.le_refl _, HH2.out, hbr⟩

/-- A record that says which object is meant. -/
def RecV.bare (nm : ByteArray) (mode t l size epoch : Nat) : RecV := ⟨nm, mode, t, l, size, epoch, none, 0, 0, none, 0, 0⟩

/-- What the operations of 'everywhere' find, one by one. -/
def evR (V n B bc W : Nat) (q : RecV) : Nat → Value → World → Prop
  | 0, v, _ => v = .agg #[.string q.name, .int .i64 q.mode, .int .i64 q.t, .int .i64 q.l, .int .i64 q.size, .int .i64 q.epoch]
  | 1, v, _ => v = .agg #[.string q.name, .int .i64 q.mode, .int .i64 q.t, .int .i64 q.l, .int .i64 q.size, .int .i64 q.epoch, .slice none 0 0, .slice none 0 0]
  | 2, v, w => ∃ b, v = .slice (some ⟨b, 0, none⟩) 1 1 ∧ b < w.heap.size ∧ ∀ j u, q.cells[j]? = some u → w.cell? ⟨b, j, none⟩ = some u
  | 3, v, _ => v = .pointer (some ⟨V, 0, none⟩)
  | 4, v, _ => v = .pointer (some ⟨V, 0, none⟩)
  | 5, v, _ => v = .pointer (some ⟨V, 1, none⟩)
  | 6, v, _ => v = .slice (some ⟨B, 0, none⟩) n bc
  | 7, v, _ => v = .int .i64 n
  | 8, v, w => ∃ g, v = .slice (some ⟨g, 0, none⟩) n n ∧ W ≤ g ∧ w.heap[g]? = some (.cells (recs (List.replicate n q)).toArray 127)
  | 9, v, w => ∃ g, v = .slice (some ⟨g, 0, none⟩) n n ∧ W ≤ g ∧ w.heap[g]? = some (.cells (recs (List.replicate n q)).toArray 127)
  | _, _, _ => True

theorem evR_keeps (V n B bc W : Nat) (q : RecV) (j : Nat) (v : Value) (w w' : World) (h : evR V n B bc W q j v w) (hb : Below w.heap.size w w') : evR V n B bc W q j v w' := by
  unfold evR at h ⊢
  split at h
  · exact h
  · exact h
  · obtain ⟨b, h1, h2, h3⟩ := h
    exact ⟨b, h1, Nat.lt_of_lt_of_le h2 hb.size, fun j u hj => (hb.cell h2).trans (h3 j u hj)⟩
  · exact h
  · exact h
  · exact h
  · exact h
  · exact h
  · obtain ⟨g, h1, h2, h3⟩ := h
    exact ⟨g, h1, h2, (hb.block g (cells_lt h3)).trans h3⟩
  · obtain ⟨g, h1, h2, h3⟩ := h
    exact ⟨g, h1, h2, (hb.block g (cells_lt h3)).trans h3⟩
  · trivial

def evSlot (i : Nat) : Nat := if i = 9 then 4 else i + 5

set_option maxRecDepth 100000 in
set_option maxHeartbeats 1000000 in
theorem everywhere_any (V key n B bc : Nat) (sp : Nat → Nat) (nm : ByteArray) (mode t l size epoch : Nat) (w : World) (h : Va w V key n B 0 bc sp) (hn1 : 1 ≤ n) (hn8 : n ≤ 8) :
    Calls Tryz.prog 64 #[.pointer (some ⟨V, 0, none⟩), .agg #[.string nm, .int .i64 mode, .int .i64 t, .int .i64 l, .int .i64 size, .int .i64 epoch]] w fun e w' =>
      ∃ g, e = .returned (.slice (some ⟨g, 0, none⟩) n n) ∧ w.heap.size ≤ g ∧ w'.heap[g]? = some (.cells (recs (List.replicate n (RecV.bare nm mode t l size epoch))).toArray 127) ∧ Below w.heap.size w w' := by
  have hba := (Below.refl w.heap.size w).alloc (Nat.le_refl _) (.cells #[.string nm, .int .i64 mode, .int .i64 t, .int .i64 l, .int .i64 size, .int .i64 epoch] 65)
  have c1 := (h.keeps hba (Nat.le_refl _)).c1
  have hVl := h.lt
  clear h
  go_enter Tryz.func64, Tryz.ntmps64
  go_wp2_with fail
  obtain ⟨w1, hw1⟩ : ∃ w1, w1 = w.alloc (.cells #[.string nm, .int .i64 mode, .int .i64 t, .int .i64 l, .int .i64 size, .int .i64 epoch] 65) := ⟨_, rfl⟩
  have HOB := hid (show w1.heap[w.heap.size]? = some (.cells #[.string nm, .int .i64 mode, .int .i64 t, .int .i64 l, .int .i64 size, .int .i64 epoch] 65) by rw [hw1]; exact alloc_at _ _)
  have hz1 : w.heap.size < w1.heap.size := cells_lt HOB.out
  rw [← hw1] at hba c1 ⊢
  clear hw1
  have HFX : ∀ a : Act, (∀ x ∈ [((0 : Nat), Value.pointer (some ⟨V, 0, none⟩)), (3, .pointer (some ⟨w.heap.size, 0, none⟩))], a.tmps.getD x.1 undef = x.2) → a.tmps[0]?.getD undef = .pointer (some ⟨V, 0, none⟩) ∧ a.tmps[3]?.getD undef = .pointer (some ⟨w.heap.size, 0, none⟩) := by
    intro a h
    simpa using h
  have HCELL : ∀ w' : World, Below w1.heap.size { w1 with drawn := w1.drawn + 1 } w' → w'.cell? ⟨V, 1, none⟩ = some (.slice (some ⟨B, 0, none⟩) n bc) ∧ w'.cell? ⟨w.heap.size, 0, none⟩ = some (.string nm) ∧ w'.cell? ⟨w.heap.size, 1, none⟩ = some (.int .i64 mode) ∧ w'.cell? ⟨w.heap.size, 2, none⟩ = some (.int .i64 t) ∧ w'.cell? ⟨w.heap.size, 3, none⟩ = some (.int .i64 l) ∧ w'.cell? ⟨w.heap.size, 4, none⟩ = some (.int .i64 size) ∧ w'.cell? ⟨w.heap.size, 5, none⟩ = some (.int .i64 epoch) := by
    intro w' hb
    have e : ∀ b o, b < w1.heap.size → w'.cell? ⟨b, o, none⟩ = w1.cell? ⟨b, o, none⟩ := fun b o h => hb.cell h
    exact ⟨(e _ _ (by omega)).trans c1, by rw [e _ _ hz1, cells_at HOB.out]; rfl, by rw [e _ _ hz1, cells_at HOB.out]; rfl, by rw [e _ _ hz1, cells_at HOB.out]; rfl, by rw [e _ _ hz1, cells_at HOB.out]; rfl, by rw [e _ _ hz1, cells_at HOB.out]; rfl, by rw [e _ _ hz1, cells_at HOB.out]; rfl⟩
  refine wp_region_each2 (by kernel_rfl) evSlot (evR V n B bc w1.heap.size (RecV.bare nm mode t l size epoch)) [(0, .pointer (some ⟨V, 0, none⟩)), (3, .pointer (some ⟨w.heap.size, 0, none⟩))] 14 [0, 3] (by kernel_rfl) rfl rfl rfl ?_ (evR_keeps V n B bc w1.heap.size (RecV.bare nm mode t l size epoch)) ?_ ?_
  · simp
  · refine ⟨?_, ?_, ?_, ?_, ?_, ?_, ?_, ?_, ?_, ?_, trivial⟩
    · intro a w' hb hf hd
      obtain ⟨f0, f3⟩ := HFX a hf
      obtain ⟨c1, k0, k1, k2, k3, k4, k5⟩ := HCELL w' hb
      simp [evR, evSlot, RecV.bare, Region.binds] at hd
      exact .inl ⟨.agg #[.string nm, .int .i64 mode, .int .i64 t, .int .i64 l, .int .i64 size, .int .i64 epoch], w', by go_simp, Below.refl _ _, rfl⟩
    · intro a w' hb hf hd
      obtain ⟨f0, f3⟩ := HFX a hf
      obtain ⟨c1, k0, k1, k2, k3, k4, k5⟩ := HCELL w' hb
      simp [evR, evSlot, RecV.bare, Region.binds] at hd
      exact .inl ⟨.agg #[.string nm, .int .i64 mode, .int .i64 t, .int .i64 l, .int .i64 size, .int .i64 epoch, .slice none 0 0, .slice none 0 0], w', by go_simp, Below.refl _ _, rfl⟩
    · intro a w' hb hf hd
      obtain ⟨f0, f3⟩ := HFX a hf
      obtain ⟨c1, k0, k1, k2, k3, k4, k5⟩ := HCELL w' hb
      simp [evR, evSlot, RecV.bare, Region.binds] at hd
      refine .inl ⟨.slice (some ⟨w'.heap.size, 0, none⟩) 1 1, w'.alloc (.cells #[.string nm, .int .i64 mode, .int .i64 t, .int .i64 l, .int .i64 size, .int .i64 epoch, .slice none 0 0, .slice none 0 0] 127), by go_simp, (Below.refl _ _).alloc (Nat.le_refl _) _, w'.heap.size, rfl, by simp, fun j u hj => ?_⟩
      rw [World.cell?_alloc_at _ _ _ _ rfl]
      simpa [RecV.cells, RecV.bare] using hj
    · intro a w' hb hf hd
      obtain ⟨f0, f3⟩ := HFX a hf
      obtain ⟨c1, k0, k1, k2, k3, k4, k5⟩ := HCELL w' hb
      simp [evR, evSlot, RecV.bare, Region.binds] at hd
      exact .inl ⟨.pointer (some ⟨V, 0, none⟩), w', by go_simp, Below.refl _ _, rfl⟩
    · intro a w' hb hf hd
      obtain ⟨f0, f3⟩ := HFX a hf
      obtain ⟨c1, k0, k1, k2, k3, k4, k5⟩ := HCELL w' hb
      simp [evR, evSlot, RecV.bare, Region.binds] at hd
      exact .inl ⟨.pointer (some ⟨V, 0, none⟩), w', by go_simp, Below.refl _ _, rfl⟩
    · intro a w' hb hf hd
      obtain ⟨f0, f3⟩ := HFX a hf
      obtain ⟨c1, k0, k1, k2, k3, k4, k5⟩ := HCELL w' hb
      simp [evR, evSlot, RecV.bare, Region.binds] at hd
      exact .inl ⟨.pointer (some ⟨V, 1, none⟩), w', by go_simp, Below.refl _ _, rfl⟩
    · intro a w' hb hf hd
      obtain ⟨f0, f3⟩ := HFX a hf
      obtain ⟨c1, k0, k1, k2, k3, k4, k5⟩ := HCELL w' hb
      simp [evR, evSlot, RecV.bare, Region.binds] at hd
      exact .inl ⟨.slice (some ⟨B, 0, none⟩) n bc, w', by go_simp, Below.refl _ _, rfl⟩
    · intro a w' hb hf hd
      obtain ⟨f0, f3⟩ := HFX a hf
      obtain ⟨c1, k0, k1, k2, k3, k4, k5⟩ := HCELL w' hb
      simp [evR, evSlot, RecV.bare, Region.binds] at hd
      exact .inl ⟨.int .i64 n, w', by go_simp, Below.refl _ _, rfl⟩
    · intro a w' hb hf hd
      obtain ⟨f0, f3⟩ := HFX a hf
      obtain ⟨c1, k0, k1, k2, k3, k4, k5⟩ := HCELL w' hb
      simp [evR, evSlot, RecV.bare, Region.binds] at hd
      obtain ⟨⟨b, h2, hbl, hc⟩, h7⟩ := hd
      refine .inr ⟨97, #[.slice (some ⟨b, 0, none⟩) 1 1, .int .i64 n], by go_simp, (repeat_any b (RecV.bare nm mode t l size epoch) n w' hn1 hn8 hc hbl).mono ?_⟩
      rintro e w'' ⟨g, rfl, hg, hh, hb2⟩
      exact ⟨_, rfl, hb2, g, rfl, by have := hb.size; simp at this; omega, hh⟩
    · intro a w' hb hf hd
      obtain ⟨f0, f3⟩ := HFX a hf
      obtain ⟨c1, k0, k1, k2, k3, k4, k5⟩ := HCELL w' hb
      simp [evR, evSlot, RecV.bare, Region.binds] at hd
      obtain ⟨⟨g, h8, hg, hh⟩, _⟩ := hd
      exact .inl ⟨.slice (some ⟨g, 0, none⟩) n n, w', by go_simp, Below.refl _ _, g, rfl, hg, hh⟩
  · intro a w' hdf hsz hb hf hr
    have r9 := hr 9 (by decide)
    simp [evR, evSlot] at r9
    obtain ⟨g, hv, hg, hh⟩ := r9
    go_wp2
    refine bodyPost_ret (v := .slice (some ⟨g, 0, none⟩) n n) ?_ hdf ⟨g, rfl, by omega, hh, hba.drew.trans (hb.mono hba.size)⟩
    simp [results, Tryz.results64, go_sem, hsz]
    simpa [hsz] using hv
end Go.Proofs.YtcegdgmbponapabGreatDoor

namespace Go.Proofs.YtcegdgmbponapabGreatDoor
open Go.RowKit
attribute [local go_sem ↓] Go.wp_at_zero Go.wp_at_succ

structure Pen where
  done : Int
  crashes : Bool
  ahead : Int
  crashed : Bool

def Pen.tick (p : Pen) : Pen := { p with done := wrap64 (p.done + 1), ahead := wrap64 (p.ahead - 1) }
def Pen.fall (p : Pen) : Pen := { p with crashes := false, crashed := true }
def Pen.halts (p : Pen) : Bool := p.crashes && decide (p.ahead = 0)
def Pen.ticks (p : Pen) : Nat → Pen
  | 0 => p
  | t + 1 => (p.ticks t).tick

theorem Pen.ticks_crashes (p : Pen) (t : Nat) : (p.ticks t).crashes = p.crashes ∧ (p.ticks t).crashed = p.crashed := by
  induction t with
  | zero => exact ⟨rfl, rfl⟩
  | succ t ih => exact ih

/-- A vault, as it lies, with its pen. -/
def Vp (w : World) (V key n B bc : Nat) (sp : Nat → Nat) (p : Pen) : Prop := Vt w V key n B bc sp p.done p.crashes p.ahead p.crashed

theorem Vp.keeps {own : Nat → Prop} {w w' : World} {V key n B bc : Nat} {sp : Nat → Nat} {p : Pen} (h : Vp w V key n B bc sp p) (hs : Spared own w w') (h1 : ¬ own V) (h2 : ¬ own B) : Vp w' V key n B bc sp p := Vt.keeps h hs h1 h2

set_option maxRecDepth 100000 in
theorem next_go (V : Nat) (v0 v1 : Value) (p : Pen) (w : World) (h : w.heap[V]? = some (.cells #[v0, v1, .int .i64 p.done, .bool p.crashes, .int .i64 p.ahead, .bool p.crashed] 96)) (hh : p.halts = false) :
    Calls Tryz.prog 90 #[.pointer (some ⟨V, 2, none⟩)] w fun e w' => e = .returned .nilIface ∧ w' = nextOf w V p.done p.ahead := by
  obtain ⟨done, crashes, ahead, crashed⟩ := p
  simp only [Pen.halts] at hh h ⊢
  cases crashes with
  | false => exact next_free V v0 v1 done ahead crashed w h
  | true =>
    have ha : ¬ ahead = 0 := by simpa using hh
    have c2 : w.cell? ⟨V, 2, none⟩ = some (.int .i64 done) := by rw [cells_at h]; rfl
    have c3 : w.cell? ⟨V, 3, none⟩ = some (.bool true) := by rw [cells_at h]; rfl
    have c4 : w.cell? ⟨V, 4, none⟩ = some (.int .i64 ahead) := by rw [cells_at h]; rfl
    have f2 : w.frozen? ⟨V, 2, none⟩ = false := cells_fz h
    have f4 : w.frozen? ⟨V, 4, none⟩ = false := cells_fz h
    have q : (ahead == 0) = false := by simp [ha]
    clear hh h
    go_enter Tryz.func90, Tryz.ntmps90
    go_wp2
    go_ret
    exact ⟨rfl, rfl⟩

set_option maxRecDepth 100000 in
theorem next_halt (V : Nat) (v0 v1 : Value) (p : Pen) (w : World) (h : w.heap[V]? = some (.cells #[v0, v1, .int .i64 p.done, .bool p.crashes, .int .i64 p.ahead, .bool p.crashed] 96)) (hh : p.halts = true) :
    Calls Tryz.prog 90 #[.pointer (some ⟨V, 2, none⟩)] w fun e w' => e = .returned (.iface 109 (.int .i64 1)) ∧ w'.heap[V]? = some (.cells #[v0, v1, .int .i64 p.done, .bool false, .int .i64 p.ahead, .bool true] 96) ∧ Spared (fun b => b = V) w w' := by
  obtain ⟨done, crashes, ahead, crashed⟩ := p
  simp only [Pen.halts] at hh h ⊢
  obtain ⟨rfl, ha⟩ : crashes = true ∧ ahead = 0 := by simpa using hh
  have c3 : w.cell? ⟨V, 3, none⟩ = some (.bool true) := by rw [cells_at h]; rfl
  have c4 : w.cell? ⟨V, 4, none⟩ = some (.int .i64 ahead) := by rw [cells_at h]; rfl
  have c5 : w.cell? ⟨V, 5, none⟩ = some (.bool crashed) := by rw [cells_at h]; rfl
  have f3 : w.frozen? ⟨V, 3, none⟩ = false := cells_fz h
  have f5 : w.frozen? ⟨V, 5, none⟩ = false := cells_fz h
  have q : (ahead == 0) = true := by simp [ha]
  have HH := hid h
  clear hh ha h
  go_enter Tryz.func90, Tryz.ntmps90
  go_wp2_with fail
  go_ret
  have hs : Spared (fun b => b = V) w ((w.setCell ⟨V, 3, none⟩ (.bool false)).setCell ⟨V, 5, none⟩ (.bool true)) := ((Spared.refl (fun b => b = V) w).setCell (p := ⟨V, 3, none⟩) rfl _).setCell (p := ⟨V, 5, none⟩) rfl _
  refine ⟨rfl, ?_, ?_⟩
  · first
      | (rw [cells_set _ (cells_set _ HH.out)]; rfl)
      | (show (World.drew _).heap[V]? = _; exact (cells_set _ (cells_set _ HH.out)).trans rfl)
  · first | exact hs | exact hs.drew

/-- What holds behind the writes of a call, as far as they came. -/
structure Wrote (J : Nat → World → Prop) (own : Nat → Prop) (W : World) (V key n B bc : Nat) (sp : Nat → Nat) (p : Pen) (k : Nat) (e : Ending) (w : World) : Prop where
  res : ∃ t, t ≤ k * n ∧ J t w ∧ (∀ s, s < t → (p.ticks s).halts = false) ∧
    ((t = k * n ∧ e = .returned .nilIface ∧ Vp w V key n B bc sp (p.ticks t)) ∨
     (t < k * n ∧ (p.ticks t).halts = true ∧ (∃ ev, e = .returned ev ∧ Chain w 1 1 ev) ∧ Vp w V key n B bc sp (p.ticks t).fall))
  sp : Spared (fun b => b = V ∨ own b) W w

structure WrtC (J : Nat → World → Prop) (own : Nat → Prop) (W : World) (V key n B bc : Nat) (sp : Nat → Nat) (p : Pen) (t : Nat) (w : World) : Prop where
  vt : Vp w V key n B bc sp (p.ticks t)
  j : J t w
  nh : ∀ s, s < t → (p.ticks s).halts = false
  sp : Spared (fun b => b = V ∨ own b) W w

set_option maxRecDepth 100000 in
set_option maxHeartbeats 2000000 in
theorem write_any (c k : Nat) (fs : List Nat) (J : Nat → World → Prop) (own : Nat → Prop) (V key n B bc br rc : Nat) (sp : Nat → Nat) (xs : List RecV) (p : Pen) (w : World) (hk : fs.length = k) (hk2 : k ≤ 2) (hn8 : n ≤ 8)
    (hsteps : ∀ w, Calls Tryz.prog 89 #[.int .i64 c] w fun e w' => ∃ g, e = .returned (.slice (some ⟨g, 0, none⟩) k k) ∧ w.heap.size ≤ g ∧ Fns w' g fs ∧ Below w.heap.size w w')
    (hcall : ∀ (j f : Nat), fs[j]? = some f → ∀ args w, (callFunc f args).run Tryz.prog w = .ok (.enter f args) w)
    (hv : Vp w V key n B bc sp p) (hxl : xs.length = n) (hx : Rd w (some ⟨br, 0, none⟩) (recs xs)) (hbr : br < w.heap.size)
    (hJ0 : ∀ w', Below w.heap.size w w' → J 0 w') (hJV : ∀ t w1 w2, J t w1 → Spared (fun b => b = V) w1 w2 → J t w2)
    (hown : ∀ b, own b → b < w.heap.size) (hoV : ¬ own V) (hoB : ¬ own B) (hor : ¬ own br) (hrV : br ≠ V) (hBV : B ≠ V)
    (hTk : ∀ w1, Spared (fun b => b = V ∨ own b) w w1 → Tab w1)
    (hone : ∀ (j i f : Nat) w1, fs[j]? = some f → i < n → J (j * n + i) w1 → Spared (fun b => b = V ∨ own b) w w1 → Calls Tryz.prog f #[.pointer (some ⟨sp i, 0, none⟩), (xs[i]!).val] w1 fun e w2 => e = .returned (.tuple #[]) ∧ J (j * n + i + 1) w2 ∧ Spared own w1 w2) :
    Calls Tryz.prog 59 #[.pointer (some ⟨V, 0, none⟩), .int .i64 c, .slice (some ⟨br, 0, none⟩) n rc] w fun e w' => Wrote J own w V key n B bc sp p k e w' := by
  have HST := hid hsteps
  have HCALL := hid hcall
  have HV := hid hv
  have HX := hid hx
  have HXL := hid hxl
  have HJ0 := hid hJ0
  have HJV := hid hJV
  have HOWN := hid hown
  have HO := hid (And.intro hoV (And.intro hoB (And.intro hor (And.intro hrV hBV))))
  have HONE := hid hone
  have HK := hid hk
  have HTK := hid hTk
  have hVlt := cells_lt hv.hp
  have HBLT := hid (show B < w.heap.size by obtain ⟨L, hL, _⟩ := hv.hb; exact cells_lt hL)
  clear hsteps hcall hv hx hxl hJ0 hJV hown hoV hoB hor hrV hBV hone hk hTk
  go_enter Tryz.func59, Tryz.ntmps59
  go_wp2_with fail
  refine (HST.out _).mono ?_
  rintro e w1 ⟨g, rfl, hg, hfns, hb1⟩
  have HW1 := hid (show WrtC J own w V key n B bc sp p 0 w1 from ⟨HV.out.keeps (Spared.ofBelow (own := fun _ => False) hb1 (Nat.le_refl _)) (fun h => h) (fun h => h), HJ0.out _ hb1, fun s hs => by omega, Spared.ofBelow hb1 (Nat.le_refl _)⟩)
  have HF := hid hfns
  clear hfns
  go_wp2_with fail
  go_loopw [15] (fun u wr => ∃ j : Nat, j ≤ k ∧ u = .int .i64 j ∧ WrtC J own w V key n B bc sp p (j * n) wr ∧ Fns wr g fs) (fun u _ => k - (intOf u).toNat)
  case atStart => exact ⟨0, Nat.zero_le _, rfl, by rw [Nat.zero_mul]; exact HW1.out, HF.out⟩
  case round =>
    obtain ⟨j, hj, rfl, hwrt, hfn⟩ := hrel
    by_cases hlt : j < k
    · obtain ⟨f, hf⟩ : ∃ f, fs[j]? = some f := ⟨_, List.getElem?_eq_getElem (by rw [HK.out]; exact hlt)⟩
      have cf := hfn.2 j f hf
      unfold fnV at cf
      have hlt' : (j : Int) < (k : Int) := by omega
      obtain ⟨wo, rfl⟩ : ∃ wo, wo = wr := ⟨_, rfl⟩
      have c1 := (Vt.va hwrt.vt).c1
      have HWO := hid hwrt
      have HFN := hid hfn
      have HFJ := hid hf
      clear hwrt hfn hf
      go_wp2_with fail
      go_loopw [24] (fun u wr => ∃ i : Nat, i ≤ n ∧ u = .int .i64 i ∧ WrtC J own w V key n B bc sp p (j * n + i) wr ∧ Fns wr g fs) (fun u _ => n - (intOf u).toNat)
      case atStart => exact ⟨0, Nat.zero_le _, rfl, HWO.out, HFN.out⟩
      case round =>
        obtain ⟨i, hi, rfl, hwi, hfi⟩ := hrel
        by_cases hli : i < n
        · have hvt := hwi.vt
          have k1 : wr.cell? ⟨B, i, none⟩ = some (.pointer (some ⟨sp i, 0, none⟩)) := by have := (Vt.va hvt).st i hli; rwa [Nat.zero_add] at this
          have hli' : (i : Int) < (n : Int) := by omega
          obtain ⟨q, hq⟩ : ∃ q, q = p.ticks (j * n + i) := ⟨_, rfl⟩
          have hjn : j * n + i < k * n := by
            have : (j + 1) * n ≤ k * n := Nat.mul_le_mul_right n hlt
            rw [Nat.succ_mul] at this
            omega
          cases hh : q.halts with
          | false =>
            have HNX := hid (next_go V _ _ q wr (by rw [hq]; exact hvt.hp) hh)
            have hs2 : Spared (fun b => b = V ∨ own b) w (nextOf wr V q.done q.ahead) := hwi.sp.trans ((nextOf_spared wr V q.done q.ahead).mono fun b hb => .inl hb)
            have HJ2 := hid (HJV.out _ _ _ hwi.j (nextOf_spared wr V q.done q.ahead))
            have HS2 := hid hs2
            have HFI2 := hid (hfi.keeps (nextOf_spared wr V q.done q.ahead) (show ¬ g = V by omega))
            have HV2 := hid (show Vp (nextOf wr V q.done q.ahead) V key n B bc sp (p.ticks (j * n + i + 1)) from by
              have hp2 := nextOf_heap hvt.hp
              rw [← hq] at hp2
              refine ⟨?_, by obtain ⟨L, hL, hLi⟩ := hvt.hb; exact ⟨L, (nextOf_spared wr V q.done q.ahead).heap hL HO.out.2.2.2.2, hLi⟩⟩
              show _ = some (Obj.cells #[_, _, .int .i64 (p.ticks (j * n + i)).tick.done, .bool (p.ticks (j * n + i)).tick.crashes, .int .i64 (p.ticks (j * n + i)).tick.ahead, .bool (p.ticks (j * n + i)).tick.crashed] 96)
              rw [← hq]
              exact hp2)
            have HNH := hid (show ∀ s, s < j * n + i + 1 → (p.ticks s).halts = false from fun s hs => by
              rcases Nat.lt_or_ge s (j * n + i) with h | h
              · exact hwi.nh s h
              · rw [show s = j * n + i by omega, ← hq]; exact hh)
            have hrx : Rd (nextOf wr V q.done q.ahead) (some ⟨br, 0, none⟩) (recs xs) := by
              intro z v hz
              obtain ⟨b', o', h1, h2, h3⟩ := HX.out z v hz
              simp at h1
              obtain ⟨rfl, rfl⟩ := h1
              refine ⟨br, 0, rfl, Nat.lt_of_lt_of_le hbr hs2.size, ?_⟩
              rw [World.cell?_of_block (hs2.block br hbr (fun h => h.elim HO.out.2.2.2.1 HO.out.2.2.1))]
              exact h3
            obtain ⟨_, r0, r1, r2, r3, r4, r5, r6, r7⟩ := rec_at hrx i (by rw [HXL.out]; exact hli)
            rw [Nat.zero_add] at r0 r1 r2 r3 r4 r5 r6 r7
            obtain ⟨W2, hW2⟩ : ∃ W2, W2 = nextOf wr V q.done q.ahead := ⟨_, rfl⟩
            rw [← hW2] at r0 r1 r2 r3 r4 r5 r6 r7 HNX HJ2 HS2 HFI2 HV2
            have HONE2 := hid (HONE.out j i f W2 HFJ.out hli HJ2.out HS2.out)
            unfold RecV.val at HONE2
            generalize xs[i]! = x at *
            have hcf := HCALL.out j f HFJ.out
            clear hwi hfi hvt hs2 hrx hW2 hq hh
            go_wp2_with (go_at_call 90; refine HNX.out.mono ?_; rintro e w2 ⟨rfl, rfl⟩)
            refine HONE2.out.mono ?_
            rintro e w3 ⟨rfl, hj3, hs3⟩
            have HJ3 := hid hj3
            have HS3 := hid hs3
            clear hj3 hs3
            go_wp2_with fail
            go_roundw
            case rel =>
              exact ⟨i + 1, by omega, by go_num, ⟨HV2.out.keeps HS3.out HO.out.1 HO.out.2.1, HJ3.out, HNH.out, HS2.out.trans (HS3.out.mono fun b hb => .inr hb)⟩, HFI2.out.keeps HS3.out (fun h => by have := HOWN.out g h; omega)⟩
            case measure => simp [intOf]; omega
          | true =>
            have HNX := hid (next_halt V _ _ q wr (by rw [hq]; exact hvt.hp) hh)
            have HWI := hid hwi
            have HQ := hid hq
            have HHH := hid hh
            have HI := hid (show I64 (i : Int) by unfold I64; omega)
            clear hwi hfi hvt hq hh
            go_wp2_with fail
            refine HNX.out.mono ?_
            rintro e w2 ⟨rfl, hp2, hs2⟩
            have hsp2 : Spared (fun b => b = V ∨ own b) w w2 := HWI.out.sp.trans (hs2.mono fun b hb => .inl hb)
            have HT2 := hid (HTK.out w2 hsp2)
            have HV2 := hid (show Vp w2 V key n B bc sp (p.ticks (j * n + i)).fall from by
              refine ⟨?_, by obtain ⟨L, hL, hLi⟩ := HWI.out.vt.hb; exact ⟨L, hs2.heap hL HO.out.2.2.2.2, hLi⟩⟩
              show _ = some (Obj.cells #[_, _, .int .i64 (p.ticks (j * n + i)).done, .bool false, .int .i64 (p.ticks (j * n + i)).ahead, .bool true] 96)
              rw [← HQ.out]
              exact hp2)
            have HJ2 := hid (HJV.out _ _ _ HWI.out.j hs2)
            have HSP2 := hid hsp2
            have HJB := hid (fun w3 (hb : Below w2.heap.size w2 w3) => HJV.out _ _ _ HJ2.out (Spared.ofBelow hb (Nat.le_refl _)))
            clear hp2 hs2 hsp2
            go_wp2_with (go_at_call 79; refine (atStore_any (i : Int) _ 1 0 _ HI.out HT2.out .hit).mono ?_; rintro e w3 ⟨e3, rfl, hch, hb3⟩)
            go_ret
            exact ⟨⟨j * n + i, by omega, HJB.out w3 hb3, HWI.out.nh, .inr ⟨hjn, by rw [← HQ.out]; exact HHH.out, ⟨_, rfl, hch⟩, HV2.out.keeps (Spared.ofBelow (own := fun _ => False) hb3 (Nat.le_refl _)) (fun h => h) (fun h => h)⟩⟩, HSP2.out.trans (Spared.ofBelow hb3 (Nat.le_refl _))⟩
        · have hin : i = n := by omega
          subst hin
          have HWI := hid hwi
          have HFI := hid hfi
          clear hwi hfi
          go_wp2
          go_roundw
          case rel => exact ⟨j + 1, by omega, by go_num, by rw [Nat.succ_mul]; exact HWI.out, HFI.out⟩
          case measure => simp [intOf]; omega
    · have hjk : j = k := by omega
      subst hjk
      go_wp2
      go_ret
      exact ⟨⟨j * n, Nat.le_refl _, hwrt.j, hwrt.nh, .inl ⟨rfl, rfl, hwrt.vt⟩⟩, hwrt.sp⟩
end Go.Proofs.YtcegdgmbponapabGreatDoor
