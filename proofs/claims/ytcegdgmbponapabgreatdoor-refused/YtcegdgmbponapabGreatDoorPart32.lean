/-
  The coffer's Put, each way that it refuses.
  The shares of an object made new, among others, with a pen that may crash.
  A vault where nothing was cut off: settle leaves all as it is.
-/
import Derived.Test.YtcegdgmbponapabGreatDoorPart31
import Derived.Test.YtcegdgmbponapabGreatDoorPart20
import Derived.Test.YtcegdgmbponapabGreatDoorPart19
import Derived.Test.YtcegdgmbponapabGreatDoorPart29
namespace Go.Proofs.YtcegdgmbponapabGreatDoor
open Go.RowKit

/-- A vault that is ready, its first store, and what errors need. -/
structure Ask (w : World) (C V key n B bc : Nat) (sp : Nat → Nat) (dn : Nat → Bool) (vs : Nat → Value) (rss : Nat → List RecV) : Prop where
  cf : Cf w C V
  rd : Rdy w V key n B bc sp
  st : ∀ i, i < n → Sto w (sp i) (dn i) (vs i) (rss i)
  tb : Tab w
  et : ErrType w

theorem Ask.keeps {w w' : World} {C V key n B bc : Nat} {sp : Nat → Nat} {dn : Nat → Bool} {vs : Nat → Value} {rss : Nat → List RecV} (h : Ask w C V key n B bc sp dn vs rss) (hb : Below w.heap.size w w') : Ask w' C V key n B bc sp dn vs rss :=
  ⟨h.cf.keeps (Spared.ofBelow (own := fun _ => False) hb (Nat.le_refl _)) (fun h => h), h.rd.keeps hb (Nat.le_refl _), fun i hi => (h.st i hi).keeps (Spared.ofBelow (own := fun _ => False) hb (Nat.le_refl _)) (fun h => h) (fun _ _ h => h), h.tb.keeps hb (Nat.le_refl _), h.et.keeps hb (Nat.le_refl _)⟩

section
variable {w : World} {C V key n B bc : Nat} {sp : Nat → Nat} {dn : Nat → Bool} {vs : Nat → Value} {rss : Nat → List RecV}

theorem Ask.put_of (h : Ask w C V key n B bc sp dn vs rss) (m t l k : Int) (d : Nat) (hd : d ≤ 5) (nm vl tape : ByteArray)
    (hc : ∀ w', Ask w' C V key n B bc sp dn vs rss → Calls Tryz.prog 58 #[.pointer (some ⟨V, 0, none⟩), .agg #[.string nm, .int .i64 m, .int .i64 t, .int .i64 l, .int .i64 vl.size, .int .i64 0], .string vl, .string tape] w' fun e w'' => ∃ a x c ev, e = .returned (.tuple #[.slice a x c, ev]) ∧ Chain w'' k d ev ∧ Below w'.heap.size w' w'') :
    Calls Tryz.prog 16 #[.pointer (some ⟨C, 0, none⟩), .string nm, .string vl, .agg #[.int .i64 m, .int .i64 t, .int .i64 l], .string tape] w fun e w' => e = .returned (.int .i64 k) ∧ Below w.heap.size w w' :=
  cput_no C V m t l k (d + 1) nm vl tape w h.cf (by omega) h.et fun w1 hb1 => vput_no V m t l k d nm vl tape w1 fun w2 hb2 => hc w2 ((h.keeps hb1).keeps hb2)

theorem Ask.put_new (h : Ask w C V key n B bc sp dn vs rss) (m t l k : Int) (d : Nat) (hd : d ≤ 5) (nm vl tape : ByteArray)
    (hc : ∀ w', Ask w' C V key n B bc sp dn vs rss → Calls Tryz.prog 87 #[.pointer (some ⟨V, 0, none⟩), .agg #[.string nm, .int .i64 m, .int .i64 t, .int .i64 l, .int .i64 vl.size, .int .i64 0]] w' fun e w'' => ∃ ev, e = .returned ev ∧ Chain w'' k d ev ∧ Below w'.heap.size w' w'') :
    Calls Tryz.prog 16 #[.pointer (some ⟨C, 0, none⟩), .string nm, .string vl, .agg #[.int .i64 m, .int .i64 t, .int .i64 l], .string tape] w fun e w' => e = .returned (.int .i64 k) ∧ Below w.heap.size w w' :=
  h.put_of m t l k d hd nm vl tape fun w1 h1 => cut_new V m t l vl.size k d nm vl tape w1 fun w2 hb2 => hc w2 (h1.keeps hb2)

theorem Ask.put_name (h : Ask w C V key n B bc sp dn vs rss) (m t l : Int) (nm vl tape : ByteArray) (hno : nm.size < 1 ∨ 12 < nm.size) (hsz : nm.size ≤ maxLen) :
    Calls Tryz.prog 16 #[.pointer (some ⟨C, 0, none⟩), .string nm, .string vl, .agg #[.int .i64 m, .int .i64 t, .int .i64 l], .string tape] w fun e w' => e = .returned (.int .i64 2) ∧ Below w.heap.size w w' :=
  h.put_new m t l 2 1 (by decide) nm vl tape fun w1 h1 => checkNew_len V key n B bc sp m t l vl.size 2 1 nm w1 h1.rd h1.tb fun w2 hT => (llen_name m t l n 0 0 vl.size nm w2 hno hsz hT).mono fun e w3 ⟨ev, he, h2⟩ => ⟨0, ev, he, h2⟩

theorem Ask.put_plan (h : Ask w C V key n B bc sp dn vs rss) (m t l : Int) (nm vl tape : ByteArray) (h1 : 1 ≤ nm.size) (h12 : nm.size ≤ 12) (hm : I64 m) (ht : I64 t) (hl : I64 l) (hno : ¬ Fits m t l n) :
    Calls Tryz.prog 16 #[.pointer (some ⟨C, 0, none⟩), .string nm, .string vl, .agg #[.int .i64 m, .int .i64 t, .int .i64 l], .string tape] w fun e w' => e = .returned (.int .i64 3) ∧ Below w.heap.size w w' :=
  h.put_new m t l 3 2 (by decide) nm vl tape fun w1 h2 => checkNew_len V key n B bc sp m t l vl.size 3 2 nm w1 h2.rd h2.tb fun w2 hT => llen_no m t l n 0 0 vl.size 3 nm w2 h1 h12 hT fun w3 hT3 => layoutFor_noplan m t l n vl.size w3 hm ht hl (by have := h.rd.n8; unfold I64; omega) (fun hf => hno hf.2.2) hT3

theorem Ask.put_big (h : Ask w C V key n B bc sp dn vs rss) (mode t l : Nat) (nm vl tape : ByteArray) (h1 : 1 ≤ nm.size) (h12 : nm.size ≤ 12) (hp : IsPlan mode t l n) (hbig : 60 < vl.size) (hvl : vl.size ≤ maxLen) :
    Calls Tryz.prog 16 #[.pointer (some ⟨C, 0, none⟩), .string nm, .string vl, .agg #[.int .i64 mode, .int .i64 t, .int .i64 l], .string tape] w fun e w' => e = .returned (.int .i64 4) ∧ Below w.heap.size w w' :=
  h.put_new mode t l 4 2 (by decide) nm vl tape fun w1 h2 => checkNew_len V key n B bc sp mode t l vl.size 4 2 nm w1 h2.rd h2.tb fun w2 hT => llen_no mode t l n 0 0 vl.size 4 nm w2 h1 h12 hT fun w3 hT3 => layoutFor_big mode t l n vl.size w3 hp (by unfold maxLen at hvl; unfold I64; omega) (.inr (by omega)) hT3

theorem Ask.put_twice (h : Ask w C V key n B bc sp dn vs rss) (mode t l : Nat) (nm vl tape : ByteArray) (h1 : 1 ≤ nm.size) (h12 : nm.size ≤ 12) (hp : IsPlan mode t l n) (hz : vl.size ≤ 60) (hyes : hasName (rss 0) nm = true) :
    Calls Tryz.prog 16 #[.pointer (some ⟨C, 0, none⟩), .string nm, .string vl, .agg #[.int .i64 mode, .int .i64 t, .int .i64 l], .string tape] w fun e w' => e = .returned (.int .i64 5) ∧ Below w.heap.size w w' :=
  h.put_new mode t l 5 1 (by decide) nm vl tape fun w1 h2 => checkNew_twice V key n B bc sp (dn 0) (vs 0) (rss 0) mode t l vl.size nm w1 h2.rd (h2.st 0 h.rd.n1) hyes hp hz h1 h12 (ngroups_le hp vl.size hz)

theorem Ask.put_full (h : Ask w C V key n B bc sp dn vs rss) (mode t l : Nat) (nm vl tape : ByteArray) (h1 : 1 ≤ nm.size) (h12 : nm.size ≤ 12) (hp : IsPlan mode t l n) (hz : vl.size ≤ 60) (hno : hasName (rss 0) nm = false) (hfull : ¬ (rss 0).length < 10) :
    Calls Tryz.prog 16 #[.pointer (some ⟨C, 0, none⟩), .string nm, .string vl, .agg #[.int .i64 mode, .int .i64 t, .int .i64 l], .string tape] w fun e w' => e = .returned (.int .i64 6) ∧ Below w.heap.size w w' :=
  h.put_new mode t l 6 1 (by decide) nm vl tape fun w1 h2 => checkNew_full V key n B bc sp (dn 0) (vs 0) (rss 0) mode t l vl.size nm w1 h2.rd (h2.st 0 h.rd.n1) hno hfull hp hz h1 h12 (ngroups_le hp vl.size hz) h2.tb

theorem Ask.put_tape (h : Ask w C V key n B bc sp dn vs rss) (mode t l : Nat) (nm vl tape : ByteArray) (h1 : 1 ≤ nm.size) (h12 : nm.size ≤ 12) (hp : IsPlan mode t l n) (hz : vl.size ≤ 60) (hno : hasName (rss 0) nm = false) (hfew : (rss 0).length < 10) (htp : tape.size < Cof.tsize mode t * Cof.ngroups mode t l vl.size) :
    Calls Tryz.prog 16 #[.pointer (some ⟨C, 0, none⟩), .string nm, .string vl, .agg #[.int .i64 mode, .int .i64 t, .int .i64 l], .string tape] w fun e w' => e = .returned (.int .i64 7) ∧ Below w.heap.size w w' :=
  h.put_of mode t l 7 2 (by decide) nm vl tape fun w1 h2 => cut_tape V key n B bc sp (dn 0) (vs 0) (rss 0) mode t l vl.size nm vl tape w1 h2.rd (h2.st 0 h.rd.n1) hno hfew hp hz rfl h1 h12 (ngroups_le hp vl.size hz) htp h2.tb

theorem Ask.ups (h : Ask w C V key n B bc sp dn vs rss) (i : Nat) (hi : i < n) : w.cell? ⟨sp i, 0, none⟩ = some (.bool (dn i)) := by rw [cells_at (h.st i hi).hp]; rfl
theorem Ask.slt (h : Ask w C V key n B bc sp dn vs rss) (i : Nat) (hi : i < n) : sp i < w.heap.size := cells_lt (h.st i hi).hp

theorem Ask.put_down (h : Ask w C V key n B bc sp dn vs rss) (mode t l : Nat) (nm vl tape : ByteArray) (h1 : 1 ≤ nm.size) (h12 : nm.size ≤ 12) (hp : IsPlan mode t l n) (hz : vl.size ≤ 60) (hno : hasName (rss 0) nm = false) (hfew : (rss 0).length < 10) (htp : Cof.tsize mode t * Cof.ngroups mode t l vl.size ≤ tape.size) (hd : ∃ i, i < n ∧ dn i = true) :
    Calls Tryz.prog 16 #[.pointer (some ⟨C, 0, none⟩), .string nm, .string vl, .agg #[.int .i64 mode, .int .i64 t, .int .i64 l], .string tape] w fun e w' => e = .returned (.int .i64 8) ∧ Below w.heap.size w w' :=
  h.put_of mode t l 8 1 (by decide) nm vl tape fun w1 h2 => cut_down V key n B bc sp dn (vs 0) (rss 0) mode t l vl.size nm vl tape w1 h2.rd (h2.st 0 h.rd.n1) hno hfew hp hz rfl h1 h12 (ngroups_le hp vl.size hz) htp h2.tb h2.ups h2.slt hd

/-! The other calls. -/

theorem Ask.allUp_no (h : Ask w C V key n B bc sp dn vs rss) (hd : ∃ i, i < n ∧ dn i = true) :
    Calls Tryz.prog 63 #[.pointer (some ⟨V, 0, none⟩)] w fun e w' => ∃ ev, e = .returned ev ∧ Chain w' 8 1 ev ∧ Below w.heap.size w w' :=
  Go.Proofs.YtcegdgmbponapabGreatDoor.allUp_no V key n B 0 bc sp dn w h.rd.va h.rd.n8 h.ups hd h.tb

theorem Ask.allUp_yes (h : Ask w C V key n B bc sp dn vs rss) (hd : ∀ i, i < n → dn i = false) :
    Calls Tryz.prog 63 #[.pointer (some ⟨V, 0, none⟩)] w fun e w' => e = .returned .nilIface ∧ w' = w :=
  Go.Proofs.YtcegdgmbponapabGreatDoor.allUp_yes V key n B 0 bc sp w h.rd.va h.rd.n8 fun i hi => by rw [h.ups i hi, hd i hi]

theorem Ask.object_none (h : Ask w C V key n B bc sp dn vs rss) (nm : ByteArray) (hno : hasName (rss 0) nm = false) :
    Calls Tryz.prog 61 #[.pointer (some ⟨V, 0, none⟩), .string nm] w fun e w' => ∃ ev, e = .returned (.tuple #[noObj, ev]) ∧ Chain w' 9 1 ev ∧ Below w.heap.size w w' := by
  obtain ⟨a, c, _, hst⟩ := (h.st 0 h.rd.n1).st
  exact object_no V key n B bc sp (dn 0) a c (rss 0) nm w h.rd hst hno

theorem Ask.object_some (h : Ask w C V key n B bc sp dn vs rss) (nm : ByteArray) (r : RecV) (hyes : hasName (rss 0) nm = true) (hr : r = (rss 0)[posOf (rss 0) nm]!) :
    Calls Tryz.prog 61 #[.pointer (some ⟨V, 0, none⟩), .string nm] w fun e w' => e = .returned (.tuple #[.agg #[.string r.name, .int .i64 r.mode, .int .i64 r.t, .int .i64 r.l, .int .i64 r.size, .int .i64 r.epoch], .nilIface]) ∧ Below w.heap.size w w' := by
  obtain ⟨a, c, _, hst⟩ := (h.st 0 h.rd.n1).st
  exact object_yes V key n B bc sp (dn 0) a c (rss 0) r nm w h.rd hst hyes hr

theorem Ask.get_none (h : Ask w C V key n B bc sp dn vs rss) (nm : ByteArray) (hno : hasName (rss 0) nm = false) :
    Calls Tryz.prog 23 #[.pointer (some ⟨C, 0, none⟩), .string nm] w fun e w' => e = .returned (.tuple #[.string ByteArray.empty, .int .i64 9]) ∧ Below w.heap.size w w' :=
  cget_no C V 2 9 nm w h.cf (by decide) h.et (vget_no V 1 9 nm w (h.object_none nm hno))

theorem Ask.delete_none (h : Ask w C V key n B bc sp dn vs rss) (nm : ByteArray) (hno : hasName (rss 0) nm = false) :
    Calls Tryz.prog 18 #[.pointer (some ⟨C, 0, none⟩), .string nm] w fun e w' => e = .returned (.int .i64 9) ∧ Below w.heap.size w w' :=
  cdelete_no C V 2 9 nm w h.cf (by decide) h.et (vdelete_no V 1 9 nm w (h.object_none nm hno))

theorem Ask.delete_down (h : Ask w C V key n B bc sp dn vs rss) (nm : ByteArray) (hyes : hasName (rss 0) nm = true) (hd : ∃ i, i < n ∧ dn i = true) :
    Calls Tryz.prog 18 #[.pointer (some ⟨C, 0, none⟩), .string nm] w fun e w' => e = .returned (.int .i64 8) ∧ Below w.heap.size w w' :=
  cdelete_no C V 2 8 nm w h.cf (by decide) h.et (vdelete_down V 1 8 nm _ _ _ _ _ _ w (h.object_some nm _ hyes rfl) fun _ hb => (h.keeps hb).allUp_no hd)

theorem Ask.refresh_none (h : Ask w C V key n B bc sp dn vs rss) (nm tape : ByteArray) (hno : hasName (rss 0) nm = false) :
    Calls Tryz.prog 17 #[.pointer (some ⟨C, 0, none⟩), .string nm, .string tape] w fun e w' => e = .returned (.int .i64 9) ∧ Below w.heap.size w w' :=
  crefresh_no C V 2 9 nm tape w h.cf (by decide) h.et (vrefresh_no V 1 9 nm tape w (h.object_none nm hno))

theorem Ask.refresh_of (h : Ask w C V key n B bc sp dn vs rss) (nm tape : ByteArray) (r : RecV) (k : Int) (d : Nat) (hd : d ≤ 5) (hyes : hasName (rss 0) nm = true) (hr : r = (rss 0)[posOf (rss 0) nm]!)
    (hu : ∀ w', Ask w' C V key n B bc sp dn vs rss → Calls Tryz.prog 62 #[.pointer (some ⟨V, 0, none⟩), .agg #[.string r.name, .int .i64 r.mode, .int .i64 r.t, .int .i64 r.l, .int .i64 r.size, .int .i64 r.epoch], .string tape] w' fun e w'' => ∃ ev, e = .returned (.tuple #[.slice none 0 0, ev]) ∧ Chain w'' k d ev ∧ Below w'.heap.size w' w'') :
    Calls Tryz.prog 17 #[.pointer (some ⟨C, 0, none⟩), .string nm, .string tape] w fun e w' => e = .returned (.int .i64 k) ∧ Below w.heap.size w w' :=
  crefresh_no C V (d + 1) k nm tape w h.cf (by omega) h.et (vrefresh_not V d k nm _ tape _ _ _ _ _ w (h.object_some nm r hyes hr) fun w' hb => hu w' (h.keeps hb))

theorem Ask.refresh_tape (h : Ask w C V key n B bc sp dn vs rss) (nm tape : ByteArray) (r : RecV) (hyes : hasName (rss 0) nm = true) (hr : r = (rss 0)[posOf (rss 0) nm]!) (hp : IsPlan r.mode r.t r.l n) (hm0 : r.mode = 0) (he : r.epoch < 100) (hz : r.size ≤ 60) (htp : tape.size < Cof.tsize r.mode r.t * Cof.ngroups r.mode r.t r.l r.size) :
    Calls Tryz.prog 17 #[.pointer (some ⟨C, 0, none⟩), .string nm, .string tape] w fun e w' => e = .returned (.int .i64 7) ∧ Below w.heap.size w w' :=
  h.refresh_of nm tape r 7 2 (by decide) hyes hr fun w' h2 => refreshed_tape V key n B bc sp r.mode r.t r.l r.size r.epoch r.name tape w' h2.rd hp hm0 he hz htp h2.tb

theorem Ask.refresh_down (h : Ask w C V key n B bc sp dn vs rss) (nm tape : ByteArray) (r : RecV) (hyes : hasName (rss 0) nm = true) (hr : r = (rss 0)[posOf (rss 0) nm]!) (hp : IsPlan r.mode r.t r.l n) (hm0 : r.mode = 0) (he : r.epoch < 100) (hz : r.size ≤ 60) (htp : Cof.tsize r.mode r.t * Cof.ngroups r.mode r.t r.l r.size ≤ tape.size) (hd : ∃ i, i < n ∧ dn i = true) :
    Calls Tryz.prog 17 #[.pointer (some ⟨C, 0, none⟩), .string nm, .string tape] w fun e w' => e = .returned (.int .i64 8) ∧ Below w.heap.size w w' :=
  h.refresh_of nm tape r 8 1 (by decide) hyes hr fun w' h2 => refreshed_down V key n B bc sp dn r.mode r.t r.l r.size r.epoch r.name tape w' h2.rd hp hm0 he hz htp h2.tb h2.ups h2.slt hd

theorem Ask.up_store (h : Ask w C V key n B bc sp dn vs rss) (i : Int) (up : Bool) (hi : I64 i) (hno : i < 0 ∨ (n : Int) ≤ i) :
    Calls Tryz.prog 19 #[.pointer (some ⟨C, 0, none⟩), .int .i64 i, .bool up] w fun e w' => e = .returned (.int .i64 13) ∧ Below w.heap.size w w' :=
  cup_no C V 2 13 i up w h.cf (by decide) h.et (vup_no V key n B bc sp i up w h.rd.va hi hno h.tb)

theorem Ask.spoil_store (h : Ask w C V key n B bc sp dn vs rss) (i p : Int) (nm : ByteArray) (b : UInt8) (hi : I64 i) (hno : i < 0 ∨ (n : Int) ≤ i) :
    Calls Tryz.prog 20 #[.pointer (some ⟨C, 0, none⟩), .int .i64 i, .string nm, .int .i64 p, .int .u8 b.toNat] w fun e w' => e = .returned (.int .i64 13) ∧ Below w.heap.size w w' :=
  cspoil_no C V 2 13 i p nm b w h.cf (by decide) h.et (vspoil_no V 1 13 i p b nm w (openStore_no V key n B bc sp i w h.rd hi hno h.tb))

theorem Ask.spoil_none (h : Ask w C V key n B bc sp dn vs rss) (i : Nat) (p : Int) (nm : ByteArray) (b : UInt8) (hi : i < n) (hno : hasName (rss i) nm = false) :
    Calls Tryz.prog 20 #[.pointer (some ⟨C, 0, none⟩), .int .i64 i, .string nm, .int .i64 p, .int .u8 b.toNat] w fun e w' => e = .returned (.int .i64 9) ∧ Below w.heap.size w w' := by
  obtain ⟨a, c, _, hst⟩ := (h.st i hi).st
  exact cspoil_no C V 2 9 i p nm b w h.cf (by decide) h.et (vspoil_not V key n B bc sp i 1 9 p b nm w h.rd hi (sspoil_none (sp i) (dn i) a c (rss i) nm p b w hst hno))

theorem Ask.spoil_place (h : Ask w C V key n B bc sp dn vs rss) (i : Nat) (p : Int) (nm : ByteArray) (b : UInt8) (r : RecV) (hi : i < n) (hyes : hasName (rss i) nm = true) (hr : r = (rss i)[posOf (rss i) nm]!) (hp : I64 p) (hno : p < 0 ∨ (r.sn : Int) ≤ p) :
    Calls Tryz.prog 20 #[.pointer (some ⟨C, 0, none⟩), .int .i64 i, .string nm, .int .i64 p, .int .u8 b.toNat] w fun e w' => e = .returned (.int .i64 14) ∧ Below w.heap.size w w' := by
  obtain ⟨a, c, _, hst⟩ := (h.st i hi).st
  exact cspoil_no C V 2 14 i p nm b w h.cf (by decide) h.et (vspoil_not V key n B bc sp i 1 14 p b nm w h.rd hi (sspoil_place (sp i) (dn i) a c (rss i) r nm p b w hst hyes hr hp hno h.tb))

theorem Ask.shard_store (h : Ask w C V key n B bc sp dn vs rss) (i : Int) (nm : ByteArray) (hi : I64 i) (hno : i < 0 ∨ (n : Int) ≤ i) :
    Calls Tryz.prog 21 #[.pointer (some ⟨C, 0, none⟩), .int .i64 i, .string nm] w fun e w' => e = .returned (.tuple #[.string ByteArray.empty, .int .i64 13]) ∧ Below w.heap.size w w' :=
  cshard_no C V 2 13 i nm w h.cf (by decide) h.et (vshard_no V 1 13 i nm w (openStore_no V key n B bc sp i w h.rd hi hno h.tb))

theorem Ask.shard_none (h : Ask w C V key n B bc sp dn vs rss) (i : Nat) (nm : ByteArray) (hi : i < n) (hno : hasName (rss i) nm = false) :
    Calls Tryz.prog 21 #[.pointer (some ⟨C, 0, none⟩), .int .i64 i, .string nm] w fun e w' => e = .returned (.tuple #[.string ByteArray.empty, .int .i64 9]) ∧ Below w.heap.size w w' := by
  obtain ⟨a, c, _, hst⟩ := (h.st i hi).st
  exact cshard_no C V 2 9 i nm w h.cf (by decide) h.et (vshard_none V key n B bc sp i (dn i) a c (rss i) nm w h.rd hi hst hno)
end

/-! While the vault is crashed. -/
section
variable {w : World} {C V : Nat}

theorem crash_put (hc : Cf w C V) (hV : V < w.heap.size) (c5 : w.cell? ⟨V, 5, none⟩ = some (.bool true)) (hE : ErrType w) (m t l : Int) (nm vl tape : ByteArray) :
    Calls Tryz.prog 16 #[.pointer (some ⟨C, 0, none⟩), .string nm, .string vl, .agg #[.int .i64 m, .int .i64 t, .int .i64 l], .string tape] w fun e w' => e = .returned (.int .i64 1) ∧ Below w.heap.size w w' :=
  cput_no C V m t l 1 1 nm vl tape w hc (by decide) hE fun w1 hb1 => vput_no V m t l 1 0 nm vl tape w1 fun w2 hb2 => cut_new V m t l vl.size 1 0 nm vl tape w2 fun w3 hb3 =>
    have hb : Below w.heap.size w w3 := (hb1.trans (hb2.mono hb1.size)).trans (hb3.mono (Nat.le_trans hb1.size hb2.size))
    checkNew_crash V m t l vl.size nm w3 (Nat.lt_of_lt_of_le hV hb.size) ((hb.cell (p := ⟨V, 5, none⟩) hV).trans c5)

theorem crash_get (hc : Cf w C V) (hV : V < w.heap.size) (c5 : w.cell? ⟨V, 5, none⟩ = some (.bool true)) (hE : ErrType w) (nm : ByteArray) :
    Calls Tryz.prog 23 #[.pointer (some ⟨C, 0, none⟩), .string nm] w fun e w' => e = .returned (.tuple #[.string ByteArray.empty, .int .i64 1]) ∧ Below w.heap.size w w' :=
  cget_no C V 1 1 nm w hc (by decide) hE (vget_no V 0 1 nm w (object_crash V nm w hV c5))

theorem crash_delete (hc : Cf w C V) (hV : V < w.heap.size) (c5 : w.cell? ⟨V, 5, none⟩ = some (.bool true)) (hE : ErrType w) (nm : ByteArray) :
    Calls Tryz.prog 18 #[.pointer (some ⟨C, 0, none⟩), .string nm] w fun e w' => e = .returned (.int .i64 1) ∧ Below w.heap.size w w' :=
  cdelete_no C V 1 1 nm w hc (by decide) hE (vdelete_no V 0 1 nm w (object_crash V nm w hV c5))

theorem crash_refresh (hc : Cf w C V) (hV : V < w.heap.size) (c5 : w.cell? ⟨V, 5, none⟩ = some (.bool true)) (hE : ErrType w) (nm tape : ByteArray) :
    Calls Tryz.prog 17 #[.pointer (some ⟨C, 0, none⟩), .string nm, .string tape] w fun e w' => e = .returned (.int .i64 1) ∧ Below w.heap.size w w' :=
  crefresh_no C V 1 1 nm tape w hc (by decide) hE (vrefresh_no V 0 1 nm tape w (object_crash V nm w hV c5))

theorem crash_spoil (hc : Cf w C V) (c5 : w.cell? ⟨V, 5, none⟩ = some (.bool true)) (hE : ErrType w) (i p : Int) (nm : ByteArray) (b : UInt8) :
    Calls Tryz.prog 20 #[.pointer (some ⟨C, 0, none⟩), .int .i64 i, .string nm, .int .i64 p, .int .u8 b.toNat] w fun e w' => e = .returned (.int .i64 1) ∧ Below w.heap.size w w' :=
  cspoil_no C V 1 1 i p nm b w hc (by decide) hE (vspoil_no V 0 1 i p b nm w (openStore_crash V i w c5))

theorem crash_shard (hc : Cf w C V) (c5 : w.cell? ⟨V, 5, none⟩ = some (.bool true)) (hE : ErrType w) (i : Int) (nm : ByteArray) :
    Calls Tryz.prog 21 #[.pointer (some ⟨C, 0, none⟩), .int .i64 i, .string nm] w fun e w' => e = .returned (.tuple #[.string ByteArray.empty, .int .i64 1]) ∧ Below w.heap.size w w' :=
  cshard_no C V 1 1 i nm w hc (by decide) hE (vshard_no V 0 1 i nm w (openStore_crash V i w c5))
end
end Go.Proofs.YtcegdgmbponapabGreatDoor

namespace Go.Proofs.YtcegdgmbponapabGreatDoor
open Go.RowKit
attribute [local go_sem ↓] Go.wp_at_zero Go.wp_at_succ

/-- What the library's errors need lies below base. -/
structure Glob (w : World) (base : Nat) : Prop where
  tb : Tab w
  et : ErrType w
  t1 : 2 < base
  e1 : 0 < base
  bs : base ≤ w.heap.size

theorem Tab.block {w w' : World} (h : Tab w) (hb : w'.heap[2]? = w.heap[2]?) (hs : w.heap.size ≤ w'.heap.size) : Tab w' := by
  refine ⟨?_, Nat.lt_of_lt_of_le h.2 hs⟩
  have h1 := h.1
  have hg : Tryz.prog.globalNamed "internal/strconv.uint64pow10" = some 2 := by kernel_rfl
  unfold Lib.TabIs World.var? at h1 ⊢
  rw [hg] at h1 ⊢
  simp only [Option.bind_some] at h1 ⊢
  rw [hb]
  exact h1

theorem Glob.spared {own : Nat → Prop} {w w' : World} {base : Nat} (h : Glob w base) (hs : Spared own w w') (ho : ∀ b, own b → base ≤ b) : Glob w' base := by
  have hb : ∀ k, k < base → w'.heap[k]? = w.heap[k]? := fun k hk => hs.block k (Nat.lt_of_lt_of_le hk h.bs) fun e => by have := ho k e; omega
  exact ⟨h.tb.block (hb _ h.t1) hs.size, ⟨(World.cell?_of_block (hb _ h.e1)).trans h.et.1, Nat.lt_of_lt_of_le h.et.2 hs.size⟩, h.t1, h.e1, Nat.le_trans h.bs hs.size⟩

theorem Glob.below {w w' : World} {base : Nat} (h : Glob w base) (hb : Below w.heap.size w w') : Glob w' base := h.spared (Spared.ofBelow (own := fun _ => False) hb (Nat.le_refl _)) (fun _ h => h.elim)

/-- A store's records behind t of the writes of a Refresh. -/
def refL (n : Nat) (rss : Nat → List RecV) (nm : ByteArray) (ys : List RecV) (t q : Nat) : List RecV := (rss q).set (posOf (rss q) nm) (refState n (fun q => recOf (rss q) nm) ys t q)

def RefK (n : Nat) (sp : Nat → Nat) (rss : Nat → List RecV) (nm : ByteArray) (ys : List RecV) (vs : Nat → Value) (t : Nat) (w : World) : Prop :=
  ∀ q, q < n → Sto w (sp q) false (vs q) (refL n rss nm ys t q)

theorem refL_start {n : Nat} {rss : Nat → List RecV} {nm : ByteArray} {ys : List RecV} {t q : Nat} (h : refState n (fun q => recOf (rss q) nm) ys t q = recOf (rss q) nm) (hlt : posOf (rss q) nm < (rss q).length) : refL n rss nm ys t q = rss q := by
  unfold refL
  rw [h]
  unfold recOf
  rw [getElem!_pos (rss q) (posOf (rss q) nm) hlt]
  exact List.set_getElem_self _

theorem RefK.step {n : Nat} {sp : Nat → Nat} {rss : Nat → List RecV} {nm : ByteArray} {ys : List RecV} {vs : Nat → Value} {i j : Nat} {w w' : World} (h : RefK n sp rss nm ys vs (j * n + i) w) (hi : i < n) (hj : j = 0 ∨ j = 1) (hvi : ∀ i j, i < j → j < n → ∀ b, (vs i).ownBlock = some b → (vs j).ownBlock ≠ some b)
    (hs : Sto w' (sp i) false (vs i) (refL n rss nm ys (j * n + i + 1) i)) (hsp : Spared (fun b => (vs i).ownBlock = some b) w w') : RefK n sp rss nm ys vs (j * n + i + 1) w' := by
  intro q hq
  by_cases hqi : q = i
  · subst hqi; exact hs
  · have e : refL n rss nm ys (j * n + i + 1) q = refL n rss nm ys (j * n + i) q := by unfold refL; rw [refState_other hi hq hqi hj]
    rw [e]
    refine (h q hq).keeps hsp (fun e => row_ne (h i hi).row (h q hq).hp (by decide) e) (fun b hb e => ?_)
    rcases Nat.lt_or_gt_of_ne hqi with hlt | hlt
    · exact hvi q i hlt hi b hb e
    · exact hvi i q hlt hq b e hb

theorem refK_lay (n : Nat) (sp : Nat → Nat) (rss : Nat → List RecV) (nm : ByteArray) (ys : List RecV) (vs : Nat → Value) (i : Nat) (w : World) (h : RefK n sp rss nm ys vs (0 * n + i) w) (hi : i < n) (hvi : ∀ i j, i < j → j < n → ∀ b, (vs i).ownBlock = some b → (vs j).ownBlock ≠ some b) (hnm : (ys[i]!).name = nm) (hyes : hasName (rss i) nm = true) :
    Calls Tryz.prog 123 #[.pointer (some ⟨sp i, 0, none⟩), (ys[i]!).val] w fun e w' => e = .returned (.tuple #[]) ∧ RefK n sp rss nm ys vs (0 * n + i + 1) w' ∧ Spared (fun b => ∃ q, q < n ∧ (vs q).ownBlock = some b) w w' := by
  have h0 : refState n (fun q => recOf (rss q) nm) ys (0 * n + i) i = recOf (rss i) nm := by unfold refState; rw [if_neg (by omega), if_neg (by omega)]
  have h1 : refState n (fun q => recOf (rss q) nm) ys (0 * n + i + 1) i = (recOf (rss i) nm).laid (ys[i]!) := by unfold refState; rw [if_neg (by omega), if_pos (by omega)]
  have hst := h i hi
  rw [refL_start h0 (has_lt hyes)] at hst
  refine (lay_yes (sp i) false (vs i) (rss i) (ys[i]!) w hst (by rw [hnm]; exact hyes)).mono ?_
  rintro e w' ⟨rfl, hs, hsp⟩
  rw [hnm] at hs
  refine ⟨rfl, h.step hi (.inl rfl) hvi ?_ hsp, hsp.mono fun b hb => ⟨i, hi, hb⟩⟩
  unfold refL
  rw [h1]
  exact hs

theorem refK_turn (n : Nat) (sp : Nat → Nat) (rss : Nat → List RecV) (nm : ByteArray) (ys : List RecV) (vs : Nat → Value) (i : Nat) (ad : Addr) (w : World) (h : RefK n sp rss nm ys vs (1 * n + i) w) (hi : i < n) (hvi : ∀ i j, i < j → j < n → ∀ b, (vs i).ownBlock = some b → (vs j).ownBlock ≠ some b) (hnm : (ys[i]!).name = nm) (hyes : hasName (rss i) nm = true) (had : (ys[i]!).sa = some ad) (he : (recOf (rss i) nm).epoch ≤ 1000) :
    Calls Tryz.prog 124 #[.pointer (some ⟨sp i, 0, none⟩), (ys[i]!).val] w fun e w' => e = .returned (.tuple #[]) ∧ RefK n sp rss nm ys vs (1 * n + i + 1) w' ∧ Spared (fun b => ∃ q, q < n ∧ (vs q).ownBlock = some b) w w' := by
  have hlt := has_lt hyes
  have hrn : (recOf (rss i) nm).name = nm := has_name hyes
  have h0 : refState n (fun q => recOf (rss q) nm) ys (1 * n + i) i = (recOf (rss i) nm).laid (ys[i]!) := by unfold refState; rw [if_neg (by omega), if_pos (by omega)]
  have h1 : refState n (fun q => recOf (rss q) nm) ys (1 * n + i + 1) i = ((recOf (rss i) nm).laid (ys[i]!)).turned := by unfold refState; rw [if_pos (by omega)]
  obtain ⟨rs, hrs⟩ : ∃ rs, rs = refL n rss nm ys (1 * n + i) i := ⟨_, rfl⟩
  have hst := h i hi
  rw [← hrs] at hst
  have hrs' : rs = (rss i).set (posOf (rss i) nm) ((recOf (rss i) nm).laid (ys[i]!)) := by rw [hrs]; unfold refL; rw [h0]
  have hq0 : ((recOf (rss i) nm).laid (ys[i]!)).name = ((rss i)[posOf (rss i) nm]!).name := rfl
  have hpos : posOf rs nm = posOf (rss i) nm := by rw [hrs']; exact posOf_set _ _ _ _ hlt hq0
  have hhas : hasName rs nm = true := by rw [hrs', hasName_set _ _ _ _ hlt hq0]; exact hyes
  have hget : (recOf (rss i) nm).laid (ys[i]!) = rs[posOf rs nm]! := by
    rw [hpos, hrs', getElem!_pos ((rss i).set (posOf (rss i) nm) _) (posOf (rss i) nm) (by simpa using hlt), List.getElem_set_self]
  refine (turn_yes (sp i) false (vs i) rs (ys[i]!) ((recOf (rss i) nm).laid (ys[i]!)) ad w hst (by rw [hnm]; exact hhas) (by rw [hnm]; exact hget) had he).mono ?_
  rintro e w' ⟨rfl, hs, hsp⟩
  rw [hnm, hpos, hrs', List.set_set] at hs
  refine ⟨rfl, h.step hi (.inr rfl) hvi ?_ hsp, hsp.mono fun b hb => ⟨i, hi, hb⟩⟩
  unfold refL
  rw [h1]
  exact hs

theorem RefK.keeps {n : Nat} {sp : Nat → Nat} {rss : Nat → List RecV} {nm : ByteArray} {ys : List RecV} {vs : Nat → Value} {t V : Nat} {w w' : World} (h : RefK n sp rss nm ys vs t w) (hs : Spared (fun b => b = V) w w') (hsV : ∀ i, i < n → sp i ≠ V) (hvV : ∀ i, i < n → (vs i).ownBlock ≠ some V) : RefK n sp rss nm ys vs t w' :=
  fun q hq => (h q hq).keeps hs (hsV q hq) (fun b hb e => hvV q hq (by rw [hb, e]))

/-- How the writes of a call ended. -/
def Ended (w : World) (V key n B bc : Nat) (sp : Nat → Nat) (p : Pen) (m d t : Nat) (e : Ending) : Prop :=
  t ≤ m ∧ (∀ s, s < t → (p.ticks s).halts = false) ∧ ((t = m ∧ e = .returned .nilIface ∧ Vp w V key n B bc sp (p.ticks t)) ∨ (t < m ∧ (p.ticks t).halts = true ∧ (∃ ev, e = .returned ev ∧ Chain w 1 d ev) ∧ Vp w V key n B bc sp (p.ticks t).fall))

set_option maxRecDepth 100000 in
set_option maxHeartbeats 2000000 in
theorem vrefresh_gen (base V key n B bc : Nat) (sp : Nat → Nat) (p : Pen) (t l size epoch : Nat) (nm tape : ByteArray) (P : Nat → List UInt8) (vs : Nat → Value) (rss : Nat → List RecV) (w : World) (hV : Vp w V key n B bc sp p) (hcr : p.crashed = false) (hst : ∀ i, i < n → Sto w (sp i) false (vs i) (rss i)) (hyes : ∀ i, i < n → hasName (rss i) nm = true) (hob : ∀ i, i < n → (recOf (rss i) nm).ob = ⟨nm, 0, t, l, size, epoch⟩)
    (hp : IsPlan 0 t l n) (he : epoch < 100) (hz : size ≤ 60) (hnm : nm.size ≤ 12) (hk : key < 18446744073709551616) (htp : Cof.tsize 0 t * Cof.ngroups 0 t l size ≤ tape.size) (hG : Glob w base) (hbV : base ≤ V) (hbv : ∀ i, i < n → ∀ b, (vs i).ownBlock = some b → base ≤ b)
    (hP : ∀ i, i < n → (P i).length = Cof.ngroups 0 t l size) (hvi : ∀ i j, i < j → j < n → ∀ b, (vs i).ownBlock = some b → (vs j).ownBlock ≠ some b)
    (hpc : ∀ i, i < n → ∀ w', Below w.heap.size w w' → Tab w' → Calls Tryz.prog 94 #[.pointer (some ⟨V, 0, none⟩), .int .i64 i, .agg #[.string nm, .int .i64 0, .int .i64 t, .int .i64 l, .int .i64 size, .int .i64 epoch]] w' fun e w'' =>
      ∃ pv, e = .returned (.tuple #[pv, .nilIface]) ∧ w''.ownsRow w'.heap.size 5 1 pv (Cof.ngroups 0 t l size) (bs (P i)) ∧ Below w'.heap.size w' w'') :
    Calls Tryz.prog 39 #[.pointer (some ⟨V, 0, none⟩), .string nm, .string tape] w fun e w' =>
      ∃ (ys : List RecV) (k : Nat), Ended w' V key n B bc sp p (2 * n) 2 k e ∧ RefK n sp rss nm ys vs k w' ∧ ys.length = n ∧ (∀ i, i < n → RecOk w' w.heap.size key 0 t l n size (epoch + 1) nm (Cof.sumRow (P i) ((Cof.split (List.replicate size 0) 0 t l n tape.data.toList).getD i [])) i (ys[i]!)) ∧ (∀ i j, i < j → j < n → (ys[i]!).blk ≠ (ys[j]!).blk) ∧ Spared (fun b => b = V ∨ ∃ i, i < n ∧ (vs i).ownBlock = some b) w w' := by
  have hn1' := hp.n1
  have hn8 := hp.n8
  have hl := ngroups_le hp size hz
  have hR : Rdy w V key n B bc sp := Vt.rdy (h := by have := hV; unfold Vp at this; rw [hcr] at this; exact this) hn1' hn8
  obtain ⟨a0, c0', _, hst0⟩ := (hst 0 (by omega)).st
  have hob0 := hob 0 (by omega)
  have HOBJ := hid (object_yes V key n B bc sp false a0 c0' (rss 0) (recOf (rss 0) nm) nm w hR hst0 (hyes 0 (by omega)) rfl)
  obtain ⟨o1, o2, o3, o4, o5, o6⟩ := (ob_eq_iff _ _).1 hob0
  simp only [RecV.ob] at o1 o2 o3 o4 o5 o6
  rw [o1, o2, o3, o4, o5, o6] at HOBJ
  have HVT := hid hV
  have HST := hid hst
  have HY := hid hyes
  have HOB0 := hid hob
  have HP := hid hp
  have HRR := hid hR
  have HPL := hid hP
  have HTP := hid htp
  have HGB := hid hG
  have HPC := hid hpc
  have HVI := hid hvi
  have HBV := hid hbv
  have hVl := cells_lt hV.hp
  clear hV hst hyes hob hp hR hP htp hG hpc hvi hst0 hob0 o1 o2 o3 o4 o5 o6 hbv hcr
  go_enter Tryz.func39, Tryz.ntmps39
  go_wp2_with fail
  refine HOBJ.out.mono ?_
  rintro e w1 ⟨rfl, hb1⟩
  have hba := hb1.alloc hb1.size (.cells #[.string nm, .int .i64 0, .int .i64 t, .int .i64 l, .int .i64 size, .int .i64 epoch] 65)
  obtain ⟨w2, hw2⟩ : ∃ w2, w2 = w1.alloc (.cells #[.string nm, .int .i64 0, .int .i64 t, .int .i64 l, .int .i64 size, .int .i64 epoch] 65) := ⟨_, rfl⟩
  have HOB := hid (show w2.heap[w1.heap.size]? = some (.cells #[.string nm, .int .i64 0, .int .i64 t, .int .i64 l, .int .i64 size, .int .i64 epoch] 65) by rw [hw2]; exact alloc_at _ _)
  have hl1 : w1.heap.size < w2.heap.size := cells_lt HOB.out
  rw [← hw2] at hba
  have HREF := hid (refreshed_gen V key n B bc sp 0 t l size epoch nm tape P n (Nat.le_refl _) w2 (HRR.out.keeps hba (Nat.le_refl _)) (fun i hi => (hba.cell (by exact cells_lt (HST.out i hi).hp)).trans (by rw [cells_at (HST.out i hi).hp]; rfl)) (fun i hi => Nat.lt_of_lt_of_le (cells_lt (HST.out i hi).hp) hba.size) HP.out rfl he hz hl HPL.out HTP.out ((HGB.out.below hba).tb) (fun i hi w' hb hT => HPC.out i hi w' (hba.trans (hb.mono hba.size)) hT) (fun h => absurd h (Nat.lt_irrefl _)))
  go_wp2_with fail
  rw [← hw2]
  refine HREF.out.mono ?_
  rintro e w3 (⟨_, g, rfl, hrows, hb3⟩ | ⟨h, _⟩)
  · have hb03 := hba.trans (hb3.mono hba.size)
    have HOB3 := hid (show w3.heap[w1.heap.size]? = some (.cells #[.string nm, .int .i64 0, .int .i64 t, .int .i64 l, .int .i64 size, .int .i64 epoch] 65) from (hb3.block _ hl1).trans HOB.out)
    have o5 : w3.cell? ⟨w1.heap.size, 5, none⟩ = some (.int .i64 epoch) := by rw [cells_at HOB3.out]; rfl
    have f5 : w3.frozen? ⟨w1.heap.size, 5, none⟩ = false := cells_fz HOB3.out
    have o0 : w3.cell? ⟨w1.heap.size, 0, none⟩ = some (.string nm) := by rw [cells_at HOB3.out]; rfl
    have o1 : w3.cell? ⟨w1.heap.size, 1, none⟩ = some (.int .i64 0) := by rw [cells_at HOB3.out]; rfl
    have o2 : w3.cell? ⟨w1.heap.size, 2, none⟩ = some (.int .i64 t) := by rw [cells_at HOB3.out]; rfl
    have o3 : w3.cell? ⟨w1.heap.size, 3, none⟩ = some (.int .i64 l) := by rw [cells_at HOB3.out]; rfl
    have o4 : w3.cell? ⟨w1.heap.size, 4, none⟩ = some (.int .i64 size) := by rw [cells_at HOB3.out]; rfl
    have hkind : ∀ j v, w3.cell? ⟨w1.heap.size, j, none⟩ = some v → v = .string nm ∨ ∃ x : Int, v = .int .i64 x := by
      intro j v hj
      rw [cells_at HOB3.out] at hj
      rcases show j = 0 ∨ j = 1 ∨ j = 2 ∨ j = 3 ∨ j = 4 ∨ j = 5 ∨ 6 ≤ j by omega with rfl | rfl | rfl | rfl | rfl | rfl | h6
      · simp at hj; exact .inl hj.symm
      · simp at hj; exact .inr ⟨_, hj.symm⟩
      · simp at hj; exact .inr ⟨_, hj.symm⟩
      · simp at hj; exact .inr ⟨_, hj.symm⟩
      · simp at hj; exact .inr ⟨_, hj.symm⟩
      · simp at hj; exact .inr ⟨_, hj.symm⟩
      · rw [Array.getElem?_eq_none (by simpa using h6)] at hj; cases hj
    have HR4 := hid (hrows.setCell_kind (g := w1.heap.size) (k := 5) (.int .i64 ((epoch : Int) + 1)) (fun j a n c hc => by rcases hkind j _ hc with h | ⟨x, h⟩ <;> cases h) (fun j x hc => by rcases hkind j _ hc with h | ⟨x, h⟩ <;> cases h))
    have hb04 : Below w.heap.size w (w3.setCell ⟨w1.heap.size, 5, none⟩ (.int .i64 ((epoch : Int) + 1))) := hb03.setCell (p := ⟨w1.heap.size, 5, none⟩) hb1.size _
    obtain ⟨rows, hrw⟩ : ∃ rows, rows = (List.range n).map fun i => Cof.sumRow (P i) ((Cof.split (List.replicate size 0) 0 t l n tape.data.toList).getD i []) := ⟨_, rfl⟩
    rw [← hrw] at HR4
    have hrl : rows.length = n := by rw [hrw]; simp
    have hrg : ∀ i, i < n → rows.getD i [] = Cof.sumRow (P i) ((Cof.split (List.replicate size 0) 0 t l n tape.data.toList).getD i []) := fun i hi => by rw [hrw]; simp [hi]
    have hrn : ∀ i, i < n → (rows.getD i []).length = Cof.ngroups 0 t l size := fun i hi => by
      rw [hrg i hi, Cof.length_sumRow, HPL.out i hi, split_len HP.out _ _ i hi (by simpa using HTP.out)]
      simp
    have HRG := hid hrg
    have HREC := hid (records_any V key n B bc sp 0 t l size (epoch + 1) (Cof.ngroups 0 t l size) nm (some ⟨g, 0, none⟩) n rows (w3.setCell ⟨w1.heap.size, 5, none⟩ (.int .i64 ((epoch : Int) + 1))) (HRR.out.keeps hb04 (Nat.le_refl _)) HP.out (by omega) hz hnm hk hrl hrn hl HR4.out)
    obtain ⟨w4, hw4⟩ : ∃ w4, w4 = w3.setCell ⟨w1.heap.size, 5, none⟩ (.int .i64 ((epoch : Int) + 1)) := ⟨_, rfl⟩
    clear hrows hkind hrw hrl hrg hrn HR4
    go_wp2_with fail
    rw [← hw4] at HREC hb04 ⊢
    refine HREC.out.mono ?_
    rintro e w5 ⟨gr, ys, rfl, hmd⟩
    have hb45 := hmd.bl
    have hb05 := hb04.trans (hb45.mono hb04.size)
    have hS05 : Spared (fun _ => False) w w5 := Spared.ofBelow hb05 (Nat.le_refl _)
    have hV5 := HVT.out.keeps hS05 (fun h => h) (fun h => h)
    have hrow := hmd.row
    rw [Nat.sub_self, List.replicate_zero, List.append_nil] at hrow
    obtain ⟨_, _, hgv, hgrd⟩ := owns_rd_size hrow
    have hgeq := (by simpa using hgv : (some (⟨gr, 0, none⟩ : Addr)) = _ ∧ _)
    rw [← hgeq.1] at hgrd
    have hgr := hrow.lt gr rfl
    have hvl : ∀ i, i < n → ∀ b, (vs i).ownBlock = some b → b < w.heap.size := fun i hi b hb => ((HST.out i hi).row.lt b hb).2
    have hvV : ∀ i, i < n → (vs i).ownBlock ≠ some V := fun i hi => row_ne (HST.out i hi).row HVT.out.hp (by decide)
    have hsV : ∀ i, i < n → sp i ≠ V := by
      intro i hi e
      have h1 := (HST.out i hi).hp
      have h2 := HVT.out.hp
      rw [e, h2] at h1
      cases h1
    obtain ⟨LB, hLB, _⟩ := HVT.out.hb
    have hvB : ∀ i, i < n → (vs i).ownBlock ≠ some B := fun i hi => row_ne (HST.out i hi).row hLB (by decide)
    have hBV : B ≠ V := by
      intro e
      have h2 := HVT.out.hp
      rw [← e, hLB] at h2
      cases h2
    have hnmx : ∀ i, i < n → (ys[i]!).name = nm := fun i hi => (hmd.ok i hi).e.1
    have hepx : ∀ i, i < n → (recOf (rss i) nm).epoch ≤ 1000 := fun i hi => by
      have := ((ob_eq_iff _ _).1 (HOB0.out i hi)).2.2.2.2.2
      simp only [RecV.ob] at this
      omega
    have had : ∀ i, i < n → ∃ ad, (ys[i]!).sa = some ad := by
      intro i hi
      obtain ⟨sg, cap, hsl, _, _⟩ := row_some (hmd.ok i hi).own (by rw [(hmd.ok i hi).sn]; omega)
      have := (by simpa using hsl : (ys[i]!).sa = some ⟨sg, 0, none⟩ ∧ _)
      exact ⟨_, this.1⟩
    have hG5 := HGB.out.below hb05
    have hW := write_any 2 2 (stepFns 2) (fun t w' => RefK n sp rss nm ys vs t w') (fun b => ∃ i, i < n ∧ (vs i).ownBlock = some b) V key n B bc gr n sp ys p w5 rfl (by decide) hn8 steps_at2
      (fun j f hf args w' => by
        cases j with
        | zero => cases hf; exact Tryz.callLay args w'
        | succ j => cases j with
          | zero => cases hf; exact Tryz.callTurn args w'
          | succ j => cases hf)
      hV5 hmd.len hgrd hgr.2
      (fun w' hb q hq => by
        have e : refState n (fun q => recOf (rss q) nm) ys 0 q = recOf (rss q) nm := by unfold refState; rw [if_neg (by omega), if_neg (by omega)]
        rw [refL_start e (has_lt (HY.out q hq))]
        exact ((HST.out q hq).keeps hS05 (fun h => h) (fun _ _ h => h)).keeps (Spared.ofBelow (own := fun _ => False) hb (Nat.le_refl _)) (fun h => h) (fun _ _ h => h))
      (fun t w1 w2 h hs => h.keeps hs hsV hvV)
      (fun b ⟨i, hi, e⟩ => by have := hvl i hi b e; have := hb05.size; omega)
      (fun ⟨i, hi, e⟩ => hvV i hi e) (fun ⟨i, hi, e⟩ => hvB i hi e) (fun ⟨i, hi, e⟩ => by have := hvl i hi _ e; have := hb04.size; omega) (by have := hb04.size; omega) hBV
      (fun w1 hs => (hG5.spared hs (fun b hb => by
        rcases hb with rfl | ⟨i, hi, hb⟩
        · exact hbV
        · exact HBV.out i hi b hb)).tb)
      (fun j i f w1 hf hi hJ _ => by
        cases j with
        | zero =>
          cases hf
          exact refK_lay n sp rss nm ys vs i w1 hJ hi HVI.out (hnmx i hi) (HY.out i hi)
        | succ j => cases j with
          | zero =>
            cases hf
            obtain ⟨ad, hadi⟩ := had i hi
            exact refK_turn n sp rss nm ys vs i ad w1 hJ hi HVI.out (hnmx i hi) (HY.out i hi) hadi (hepx i hi)
          | succ j => cases hf)
    have HW := hid hW
    clear hW
    have hxb : ∀ i, i < n → ∀ b, (ys[i]!).blk = some b → w4.heap.size ≤ b := fun i hi b hb => ((hmd.ok i hi).own.lt b hb).1
    have HFIN := hid (show ∀ w6, Spared (fun b => b = V ∨ ∃ i, i < n ∧ (vs i).ownBlock = some b) w5 w6 → ys.length = n ∧ (∀ i, i < n → RecOk w6 w.heap.size key 0 t l n size (epoch + 1) nm (Cof.sumRow (P i) ((Cof.split (List.replicate size 0) 0 t l n tape.data.toList).getD i [])) i (ys[i]!)) ∧ (∀ i j, i < j → j < n → (ys[i]!).blk ≠ (ys[j]!).blk) ∧ Spared (fun b => b = V ∨ ∃ i, i < n ∧ (vs i).ownBlock = some b) w w6 from fun w6 hs6 => ⟨hmd.len, fun i hi => by
      have hk := ((hmd.ok i hi).keeps hs6 (fun b hb ho => by
        have h1 := hxb i hi b hb
        have h2 := hb04.size
        rcases ho with rfl | ⟨q, hq, hqb⟩
        · omega
        · have := hvl q hq b hqb; omega)).mono (by have := hb04.size; omega : w.heap.size ≤ w4.heap.size)
      rw [HRG.out i hi] at hk
      exact hk, hmd.inj, (Spared.ofBelow hb05 (Nat.le_refl _)).trans hs6⟩)
    clear hmd hrow hgrd hxb hnmx had hG5 hV5 hgv hgeq hepx
    go_wp2_with fail
    refine HW.out.mono ?_
    rintro e w6 ⟨⟨k, hk1, hJ, hnh, hend⟩, hsp6⟩
    have HJ := hid hJ
    have HNH := hid hnh
    have HSP := hid hsp6
    have HK1 := hid hk1
    clear hJ hnh hsp6 hk1
    rcases hend with ⟨hk2, rfl, hvp⟩ | ⟨hk2, hh, ⟨ev, rfl, hch⟩, hvp⟩
    · have HVP := hid hvp
      have HK2 := hid hk2
      clear hvp hk2
      go_wp2_with (go_at_call 53; refine (at_nil _ _).mono ?_; rintro e w7 ⟨rfl, rfl⟩)
      go_ret
      exact ⟨ys, k, ⟨HK1.out, HNH.out, .inl ⟨HK2.out, rfl, HVP.out⟩⟩, HJ.out, HFIN.out _ HSP.out⟩
    · have HVP := hid hvp
      have HK2 := hid hk2
      have HHH := hid hh
      have HCH := hid hch
      obtain ⟨te, ve, rfl⟩ := hch.shape
      clear hvp hk2 hh hch
      go_wp2_with (go_at_call 53; refine (at_chain _ _ 1 1 _ HCH.out).mono ?_; rintro e w7 ⟨e7, rfl, hch7, hb7⟩)
      go_ret
      have hs7 : Spared (fun _ => False) w6 w7 := Spared.ofBelow hb7 (Nat.le_refl _)
      exact ⟨ys, k, ⟨HK1.out, HNH.out, .inr ⟨HK2.out, HHH.out, ⟨_, rfl, hch7⟩, HVP.out.keeps hs7 (fun h => h) (fun h => h)⟩⟩, fun q hq => (HJ.out q hq).keeps hs7 (fun h => h) (fun _ _ h => h), HFIN.out _ (HSP.out.trans (Spared.ofBelow hb7 (Nat.le_refl _)))⟩
  · exact absurd h (Nat.lt_irrefl _)
end Go.Proofs.YtcegdgmbponapabGreatDoor

namespace Go.Proofs.YtcegdgmbponapabGreatDoor
open Go.RowKit
attribute [local go_sem ↓] Go.wp_at_zero Go.wp_at_succ

theorem One.later {w w' : World} {base V key n B bc : Nat} {sp : Nat → Nat} {down down' : Nat → Bool} {mode t l size epoch len : Nat} {nm : ByteArray} {P : Nat → List UInt8} {vs : Nat → Value} {xs : Nat → RecV} (h : One w base V key n B bc sp down mode t l size epoch nm P vs xs)
    (h' : Held w' base V key n B bc sp down' mode t l size epoch nm len (fun i => Cof.sealed key (Cof.head mode t l n i epoch size nm.data.toList ++ P i)) vs xs) : One w' base V key n B bc sp down' mode t l size epoch nm P vs xs :=
  ⟨h'.vt, h'.st, fun i hi => ⟨(h.ok i hi).e, (h.ok i hi).sn, h'.own i hi⟩, h.xi, h.vi, h.si, h.bV, h.bB, h.bsp, h.bv⟩

set_option maxRecDepth 100000 in
theorem crefresh_spread (C V d : Nat) (k : Int) (nm tape : ByteArray) (w : World) (R : World → Prop) (h : Cf w C V) (hd : d ≤ 10)
    (hv : Calls Tryz.prog 39 #[.pointer (some ⟨V, 0, none⟩), .string nm, .string tape] w fun e w' => ∃ ev, e = .returned ev ∧ Chain w' k d ev ∧ ErrType w' ∧ R w') :
    Calls Tryz.prog 17 #[.pointer (some ⟨C, 0, none⟩), .string nm, .string tape] w fun e w' => e = .returned (.int .i64 k) ∧ ∃ w1, R w1 ∧ Below w1.heap.size w1 w' := by
  have c0 : w.cell? ⟨C, 0, none⟩ = some (.pointer (some ⟨V, 0, none⟩)) := by rw [cells_at h]; rfl
  have HV := hid hv
  clear h hv
  go_enter Tryz.func17, Tryz.ntmps17
  go_wp2_with fail
  refine HV.out.mono ?_
  rintro e w1 ⟨ev, rfl, hch, hE, hr⟩
  have HNU := hid (number_chain k w1 d ev hch hd hE)
  have HR := hid hr
  obtain ⟨te, ve, rfl⟩ := hch.shape
  clear hch hr
  go_wp2_with (go_at_call 36; refine HNU.out.mono ?_; rintro e w2 ⟨rfl, hb2⟩)
  go_ret
  exact ⟨rfl, w1, HR.out, hb2⟩

theorem cutRun_leave (code : List UInt8 → Option Nat) : ∀ (N : List (List UInt8)) (f : List UInt8) (s : Nat), (∀ x ∈ N, code x = some 5) → cutRun code N f s = some (f, s)
  | [], _, _, _ => rfl
  | x :: N, f, s, h => by
    unfold cutRun
    rw [h x (List.mem_cons_self ..)]
    simp only [if_true]
    exact cutRun_leave code N f s fun y hy => h y (List.mem_cons_of_mem _ hy)

theorem allSame_const (L : List Ob) (x : Ob) (h0 : L ≠ []) (h : ∀ y ∈ L, y = x) : allSame L = true := by
  unfold allSame
  refine decide_eq_true ⟨h0, fun j hj => ?_⟩
  have hpos : 0 < L.length := List.length_pos_iff.2 h0
  rw [getElem!_pos L j hj, getElem!_pos L 0 hpos, h _ (List.getElem_mem hj), h _ (List.getElem_mem hpos)]

theorem name_found {rs : List RecV} (hso : Sorted rs) (r : RecV) (hr : r ∈ rs) : hasName rs r.name = true ∧ rs[posOf rs r.name]! = r := by
  obtain ⟨i, hi, rfl⟩ := List.getElem_of_mem hr
  have hp : posOf rs (rs[i]).name = i := posOf_eq rs _ i (by omega) (fun k hk => by
    have := hso k i hk hi
    rwa [getElem!_pos rs i hi] at this) (fun k hk hk2 hc => by
    rcases Nat.eq_or_lt_of_le hk with rfl | hlt
    · rw [getElem!_pos rs i hi] at hc
      rw [cmpB_zero.2 rfl] at hc
      omega
    · have h1 := hso i k hlt hk2
      rw [getElem!_pos rs i hi] at h1
      have h2 := cmpB_trans h1 hc
      rw [cmpB_zero.2 rfl] at h2
      omega)
  refine ⟨?_, by rw [hp, getElem!_pos rs i hi]⟩
  unfold hasName
  rw [hp, decide_eq_true hi, getElem!_pos rs i hi, cmpB_zero.2 rfl]
  rfl

/-- At every store lies the same, and nothing beside. -/
structure Even (n : Nat) (rss : Nat → List RecV) : Prop where
  same : ∀ i, i < n → (rss i).map RecV.ob = (rss 0).map RecV.ob
  bare : ∀ i, i < n → ∀ r ∈ rss i, r.na = none
  ep : ∀ i, i < n → ∀ r ∈ rss i, r.epoch ≤ 1000 ∧ r.name.size ≤ 1000

theorem Even.has {n : Nat} {rss : Nat → List RecV} (h : Even n rss) (hso : ∀ i, i < n → Sorted (rss i)) (i j : Nat) (hi : i < n) (hj : j < n) (r : RecV) (hr : r ∈ rss i) : hasName (rss j) r.name = true ∧ (recOf (rss j) r.name).ob = r.ob ∧ recOf (rss j) r.name ∈ rss j := by
  have h1 : r.ob ∈ (rss j).map RecV.ob := by
    rw [h.same j hj, ← h.same i hi]
    exact List.mem_map_of_mem hr
  obtain ⟨q, hq, hqo⟩ := List.mem_map.1 h1
  have hqn : q.name = r.name := congrArg Ob.name hqo
  obtain ⟨h2, h3⟩ := name_found (hso j hj) q hq
  rw [hqn] at h2 h3
  unfold recOf
  rw [h3]
  exact ⟨h2, hqo, hq⟩

set_option maxHeartbeats 1000000 in
theorem settle_leave (V key n B bc : Nat) (sp : Nat → Nat) (dn : Nat → Bool) (vs : Nat → Value) (rss : Nat → List RecV) (p : Pen) (base : Nat) (w : World) (h : Vp w V key n B bc sp p) (hn1 : 1 ≤ n) (hn8 : n ≤ 8) (hst : ∀ i, i < n → Sto w (sp i) (dn i) (vs i) (rss i)) (hev : Even n rss) (hG : Glob w base) (hbV : base ≤ V) :
    Calls Tryz.prog 52 #[.pointer (some ⟨V, 0, none⟩)] w fun e w' => ∃ v, e = .returned v ∧ v = .nilIface ∧ Below w.heap.size w w' := by
  have hva := Vt.va h
  have hso : ∀ i, i < n → Sorted (rss i) := fun i hi => (hst i hi).so
  have hmem : ∀ x ∈ namesOf (namesUpTo rss n), ∃ i, i < n ∧ ∃ r ∈ rss i, r.name.data.toList = x := fun x hx => (namesUpTo_mem rss n x).1 ((namesOf_mem _ x).1 hx)
  have hN : (namesOf (namesUpTo rss n)).length ≤ 80 := by
    have h1 : (namesOf (namesUpTo rss n)).length ≤ (namesUpTo rss n).length := by
      unfold namesOf
      unfold Lib.compact Lib.compactUpTo
      rw [List.length_map]
      refine Nat.le_trans (List.length_filter_le _ _) ?_
      rw [List.length_range, List.length_mergeSort]
      exact Nat.le_refl _
    have h2 := namesUpTo_length rss n (fun i hi => (hst i hi).le)
    omega
  have hcut : Calls Tryz.prog 81 #[.pointer (some ⟨V, 0, none⟩)] w fun e w' => e = .returned (.tuple #[.string ⟨#[]⟩, .int .i64 (5 : Nat), .nilIface]) ∧ Below w.heap.size w w' := by
    refine (cutOff_any V (namesOf (namesUpTo rss n)) (fun _ => some 5) w hN (fun x c hc => by cases hc; exact Nat.le_refl _) (fun x hx => ?_) (names_any V key n B bc sp dn vs rss w hva hn8 hst) (fun x hx w' hb => ?_)).mono ?_
    · obtain ⟨i, hi, r, hr, rfl⟩ := hmem x hx
      exact (hev.ep i hi r hr).2
    · obtain ⟨i, hi, r, hr, rfl⟩ := hmem x hx
      have hall := fun j hj => hev.has hso i j hi hj r hr
      have hb' : ∀ j, j < n → Sto w' (sp j) (dn j) (vs j) (rss j) := fun j hj => (hst j hj).keeps (Spared.ofBelow (own := fun _ => False) hb (Nat.le_refl _)) (fun h => h) (fun _ _ h => h)
      refine (settling_any V key n B bc sp dn vs rss ⟨r.name.data.toList.toArray⟩ n (Nat.le_refl _) w' (hva.keeps hb (Nat.le_refl _)) hn1 hn8 hb' (fun j hj => by simpa using (hall j hj).1) (fun h => absurd h (Nat.lt_irrefl _)) (fun j hj => by simpa using (hev.ep j hj _ (hall j hj).2.2).1)).mono ?_
      rintro e w'' ⟨rfl, hb2⟩
      refine ⟨?_, hb2⟩
      have hA : ∀ y ∈ (List.range n).map (fun j => (recOf (rss j) ⟨r.name.data.toList.toArray⟩).ob), y = r.ob := by
        intro y hy
        obtain ⟨j, hj, rfl⟩ := List.mem_map.1 hy
        simpa using (hall j (List.mem_range.1 hj)).2.1
      have hZ : (List.range n).map (fun j => (recOf (rss j) ⟨r.name.data.toList.toArray⟩).late) = (List.range n).map (fun j => (recOf (rss j) ⟨r.name.data.toList.toArray⟩).ob) := by
        apply List.map_congr_left
        intro j hj
        have := hev.bare j (List.mem_range.1 hj) _ (hall j (List.mem_range.1 hj)).2.2
        unfold RecV.late
        rw [show recOf (rss j) ⟨r.name.data.toList.toArray⟩ = recOf (rss j) r.name by simp, this]
        rfl
      unfold settleR
      rw [if_neg (Nat.lt_irrefl _), hZ]
      unfold settleV settleOf
      have hne : (List.range n).map (fun j => (recOf (rss j) ⟨r.name.data.toList.toArray⟩).ob) ≠ [] := by
        intro e
        have := congrArg List.length e
        simp at this
        omega
      rw [if_pos (allSame_const _ r.ob hne hA), if_pos rfl]
      rfl
    · rintro e w' (⟨f, s, hr, rfl, hb⟩ | ⟨hr, _⟩)
      · rw [cutRun_leave _ _ _ _ (fun _ _ => rfl)] at hr
        cases hr
        exact ⟨rfl, hb⟩
      · rw [cutRun_leave _ _ _ _ (fun _ _ => rfl)] at hr
        cases hr
  refine (settle_of V key n B bc sp ⟨#[]⟩ 5 w (fun v w' => v = .nilIface ∧ Below w.heap.size w w') hva hn1 hn8 hcut fun w' g hb hg hh => ?_).mono fun e w' h => h
  obtain ⟨LB, hLB, _⟩ := h.hb
  have hBV : B ≠ V := by
    intro e
    have h2 := h.hp
    rw [← e, hLB] at h2
    cases h2
  have hs : Spared (fun _ => False) w w' := Spared.ofBelow hb (Nat.le_refl _)
  have hVl := cells_lt h.hp
  have hTV : 2 ≠ V := fun e => by have := hG.t1; omega
  have hv' := h.keeps hs (fun h => h) (fun h => h)
  refine (write_any 5 0 (stepFns 5) (fun _ _ => True) (fun _ => False) V key n B bc g n sp (List.replicate n (RecV.bare ⟨#[]⟩ 0 0 0 0 0)) p w' rfl (by decide) hn8 steps_at5 (fun j f hf => by cases j <;> cases hf) hv' (by simp) ?_ (cells_lt hh) (fun _ _ => trivial) (fun _ _ _ _ _ => trivial) (fun _ h => h.elim) (fun h => h) (fun h => h) (fun h => h) (by omega) hBV ?_ (fun j i f w1 hf => by cases j <;> cases hf)).mono ?_
  · intro k v hk
    refine ⟨g, 0, rfl, cells_lt hh, ?_⟩
    rw [Nat.zero_add, block_cell hh]
    exact hk
  · intro w1 hs1
    exact (hG.tb.keeps hb (Nat.le_refl _)).block (hs1.block _ (hG.below hb).tb.2 (fun h => h.elim (fun e => hTV e) (fun h => h))) hs1.size
  · rintro e w'' ⟨⟨k, hk, _, _, hend⟩, hsp⟩
    rw [Nat.zero_mul] at hk hend
    have hk0 : k = 0 := by omega
    subst hk0
    rcases hend with ⟨_, rfl, hvp⟩ | ⟨h, _⟩
    · refine ⟨_, rfl, rfl, hb.trans ⟨hsp.os, hsp.tape, hsp.output, hsp.size, fun k hk => ?_⟩⟩
      by_cases hkV : k = V
      · subst hkV
        exact hvp.hp.trans hv'.hp.symm
      · exact hsp.block k (by have := hb.size; omega) (fun h => h.elim hkV (fun h => h))
    · omega
end Go.Proofs.YtcegdgmbponapabGreatDoor
