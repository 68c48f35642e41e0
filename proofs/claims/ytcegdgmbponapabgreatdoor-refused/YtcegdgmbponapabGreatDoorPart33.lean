/-
  cofferkeep.Refused.
  cofferkeep.Refused, the walk.
-/
import Derived.Test.YtcegdgmbponapabGreatDoorPart32
import Derived.Test.YtcegdgmbponapabGreatDoorPart30
import Derived.Test.YtcegdgmbponapabGreatDoorPart27
import Derived.Test.YtcegdgmbponapabGreatDoorPart03
import Derived.Test.YtcegdgmbponapabGreatDoorPart04
import Derived.BigQuiet
namespace Go.Proofs.YtcegdgmbponapabGreatDoor
open Go.RowKit
attribute [local go_sem ↓] Go.wp_at_zero Go.wp_at_succ

def nmK : ByteArray := ⟨#[107]⟩
def nmN : ByteArray := ⟨#[110]⟩

theorem vpiece_rec {w : World} {V key n B bc : Nat} {sp : Nat → Nat} {base i mode t l size epoch : Nat} {dn : Bool} {v : Value} {rs : List RecV} {nm : ByteArray} {P : List UInt8} (hR : Rdy w V key n B bc sp) (hi : i < n) (hs : Sto w (sp i) dn v rs) (hyes : hasName rs nm = true) (ok : RecOk w base key mode t l n size epoch nm P i (recOf rs nm))
    (hp : IsPlan mode t l n) (he : epoch ≤ 100) (hz : size ≤ 60) (hn1 : 1 ≤ nm.size) (hnm : nm.size ≤ 12) (hk : key < 18446744073709551616) (hP : P.length = Cof.ngroups mode t l size) (w' : World) (hb : Below w.heap.size w w') (hT : Tab w') :
    Calls Tryz.prog 94 #[.pointer (some ⟨V, 0, none⟩), .int .i64 i, .agg #[.string nm, .int .i64 mode, .int .i64 t, .int .i64 l, .int .i64 size, .int .i64 epoch]] w' fun e w'' =>
      ∃ pv, e = .returned (.tuple #[pv, .nilIface]) ∧ w''.ownsRow w'.heap.size 5 1 pv (Cof.ngroups mode t l size) (bs P) ∧ Below w'.heap.size w' w'' := by
  obtain ⟨a, c, _, hst⟩ := hs.st
  have hok := ok.keeps (Spared.ofBelow (own := fun _ => False) hb (Nat.le_refl _)) (fun _ _ h => h)
  obtain ⟨sa', sc', hsv, hrd⟩ := owns_rd_size hok.own
  have hrd' : Rd w' (recOf rs nm).sa (bs (Cof.sealed key (Cof.head mode t l n i epoch size nm.data.toList ++ P))) := by cases hsv; exact hrd
  have hXl : (Cof.sealed key (Cof.head mode t l n i epoch size nm.data.toList ++ P)).length = 10 + nm.size + P.length + 8 := by
    unfold Cof.sealed
    simp [Cof.length_head, Cof.length_high]
    omega
  exact vpiece_good V key n B bc sp i dn a c rs (recOf rs nm) mode t l size epoch nm w' (hR.keeps hb (Nat.le_refl _)) hi (hst.keeps hb (Nat.le_refl _)) hyes rfl _ rfl _ P hp he hz hn1 hnm hk (ngroups_le hp size hz) hrd' (by rw [hok.sn, hXl]) (owns_caps hok.own) ⟨hP, rfl⟩ hT

/-- What T of the pieces join to, as far as they are up. -/
theorem One.get {w : World} {base V key n B bc : Nat} {sp : Nat → Nat} {down : Nat → Bool} {mode t l epoch : Nat} {nm v x : ByteArray} {vs : Nat → Value} {xs : Nat → RecV} (h : One w base V key n B bc sp down mode t l v.size epoch nm (fun i => (Cof.split v.data.toList mode t l n x.data.toList).getD i []) vs xs) (C : Nat) (hc : Cf w C V) (hp : IsPlan mode t l n) (he : epoch ≤ 100) (hz : v.size ≤ 60) (hn1 : 1 ≤ nm.size) (hnm : nm.size ≤ 12) (hk : key < 18446744073709551616) (hx : x.size = Cof.tsize mode t * Cof.ngroups mode t l v.size) (hT : Tab w) (hup : Cof.gsize mode t l + Cof.tsize mode t ≤ (upTo down n).length) :
    Calls Tryz.prog 23 #[.pointer (some ⟨C, 0, none⟩), .string nm] w fun e w' => e = .returned (.tuple #[.string v, .int .i64 0]) ∧ Below w.heap.size w w' := by
  have hn8 := hp.n8
  have hlt : ∀ s ∈ upTo down n, s < n := fun s hs => by unfold upTo at hs; exact List.mem_range.1 (List.mem_filter.1 hs).1
  have hnd : (upTo down n).Nodup := by unfold upTo; exact List.nodup_range.filter _
  have hjs := Cof.join_split v.data.toList x.data.toList mode t l n ((upTo down n).take (Cof.gsize mode t l + Cof.tsize mode t)) (by have := (gsize_le hp).1; omega) (Nat.le_trans hp.tn hn8) (by have h1 := hp.t1; rcases hp.md with ⟨_, h⟩ | ⟨_, h⟩ <;> omega) hx (hnd.sublist (List.take_sublist _ _)) (fun s hs => Nat.lt_of_lt_of_le (hlt s (List.mem_of_mem_take hs)) hn8) (fun s hs => hlt s (List.mem_of_mem_take hs)) (by rw [List.length_take]; omega)
  have h1 := vget_ok base V key n B bc sp down mode t l v.size epoch nm _ vs xs w h hp he hz hn1 hnm hk (ngroups_le hp v.size hz) (fun i hi => split_len hp _ _ i hi (by show _ ≤ x.size; exact Nat.le_of_eq hx.symm)) hT (Cof.gsize mode t l + Cof.tsize mode t) rfl hup v.data.toList hjs
  have h2 := cget_of C V v.size nm v.data.toList w hc rfl h1
  rw [show (⟨v.data.toList.toArray⟩ : ByteArray) = v by simp] at h2
  exact h2

theorem has_other {r : RecV} {nm : ByteArray} (h : r.name ≠ nm) : hasName [r] nm = false := by
  unfold hasName posOf
  by_cases hc : cmpB r.name nm < 0
  · simp [hc]
  · have h0 : ¬ cmpB r.name nm = 0 := fun e => h (cmpB_zero.1 e)
    simp [hc, h0]

set_option maxRecDepth 100000 in
theorem outside_any (z : Int) (n : Nat) (w : World) (hz : I64 z) (hn : n ≤ 100) (hn1 : 1 ≤ n) :
    Calls Tryz.prog 15 #[.int .i64 z, .int .i64 n] w fun e w' => ∃ y : Int, e = .returned (.int .i64 y) ∧ I64 y ∧ (y < 0 ∨ (n : Int) ≤ y) ∧ w' = w := by
  have hz1 := hz.1
  have hz2 := hz.2
  by_cases h0 : 0 ≤ z
  · by_cases h1 : z < (n : Int)
    · go_enter Tryz.func15, Tryz.ntmps15
      go_wp2
      go_ret
      exact ⟨_, rfl, by unfold I64; omega, .inr (by omega), rfl⟩
    · go_enter Tryz.func15, Tryz.ntmps15
      go_wp2
      go_ret
      exact ⟨_, rfl, hz, .inr (by omega), rfl⟩
  · go_enter Tryz.func15, Tryz.ntmps15
    go_wp2
    go_ret
    exact ⟨_, rfl, hz, .inl (by omega), rfl⟩

theorem planK : IsPlan 0 2 1 3 := ⟨by decide, by decide, by decide, by decide, by decide, .inl ⟨rfl, by decide⟩⟩
theorem Cf.ne {w : World} {C V : Nat} (h : Cf w C V) {b : Nat} {cs : Array Value} {e : TypeId} (hb : w.heap[b]? = some (.cells cs e)) (he : e ≠ 59) : C ≠ b := by
  intro e1
  unfold Cf at h
  rw [e1, hb] at h
  cases h
  exact he rfl

/-- One object at three stores that are all up; the pen as it is. -/
structure Sit (base C V key B bc : Nat) (sp : Nat → Nat) (v x : ByteArray) (vs : Nat → Value) (xs : Nat → RecV) (w0 : World) (p : Pen) (w : World) : Prop where
  vp : Vp w V key 3 B bc sp p
  st : ∀ i, i < 3 → Sto w (sp i) false (vs i) [xs i]
  ok : ∀ i, i < 3 → RecOk w base key 0 2 1 3 v.size 0 nmK ((Cof.split v.data.toList 0 2 1 3 x.data.toList).getD i []) i (xs i)
  cf : Cf w C V
  gb : Glob w base
  bl : Below base w0 w
  xi : ∀ i j, i < j → j < 3 → (xs i).blk ≠ (xs j).blk
  vi : ∀ i j, i < j → j < 3 → (vs i).ownBlock ≠ (vs j).ownBlock
  si : ∀ i j, i < j → j < 3 → sp i ≠ sp j
  bV : base ≤ V
  bB : base ≤ B
  bsp : ∀ i, i < 3 → base ≤ sp i
  bv : ∀ i, i < 3 → ∀ b, (vs i).ownBlock = some b → base ≤ b

section
variable {base C V key B bc : Nat} {sp : Nat → Nat} {v x : ByteArray} {vs : Nat → Value} {xs : Nat → RecV} {w0 w w' : World} {p : Pen}

theorem Sit.keeps {own : Nat → Prop} (h : Sit base C V key B bc sp v x vs xs w0 p w) (q : Pen) (hs : Spared own w w') (ho : ∀ b, own b → b = V ∨ ∃ i, i < 3 ∧ (vs i).ownBlock = some b) (hv : Vp w' V key 3 B bc sp q) (hst : ∀ i, i < 3 → Sto w' (sp i) false (vs i) [xs i]) : Sit base C V key B bc sp v x vs xs w0 q w' := by
  have hV := h.vp.hp
  have hob : ∀ b, own b → base ≤ b := fun b hb => by
    rcases ho b hb with rfl | ⟨i, hi, hb⟩
    · exact h.bV
    · exact h.bv i hi b hb
  refine ⟨hv, hst, fun i hi => (h.ok i hi).keeps hs (fun b hb e => ?_), h.cf.keeps hs (fun e => ?_), h.gb.spared hs hob, h.bl.trans (hs.below base h.gb.bs hob), h.xi, h.vi, h.si, h.bV, h.bB, h.bsp, h.bv⟩
  · rcases ho b e with rfl | ⟨q, hq, hqb⟩
    · exact row_ne (h.ok i hi).own hV (by decide) hb
    · exact rows_ne (h.st q hq).row (h.ok i hi).own (by decide) hqb hb
  · rcases ho C e with e | ⟨q, hq, hqb⟩
    · exact h.cf.ne hV (by decide) e
    · exact row_ne (h.st q hq).row h.cf (by decide) hqb

theorem Sit.below (h : Sit base C V key B bc sp v x vs xs w0 p w) (hb : Below w.heap.size w w') : Sit base C V key B bc sp v x vs xs w0 p w' :=
  have hs : Spared (fun _ => False) w w' := Spared.ofBelow hb (Nat.le_refl _)
  h.keeps p hs (fun _ h => h.elim) (h.vp.keeps hs (fun h => h) (fun h => h)) (fun i hi => (h.st i hi).keeps hs (fun h => h) (fun _ _ h => h))

theorem Sit.pen (h : Sit base C V key B bc sp v x vs xs w0 p w) (q : Pen) (hs : Spared (fun b => b = V) w w') (hv : Vp w' V key 3 B bc sp q) : Sit base C V key B bc sp v x vs xs w0 q w' := by
  have hV := h.vp.hp
  refine h.keeps q hs (fun b hb => .inl hb) hv (fun i hi => (h.st i hi).keeps hs (fun e => ?_) (fun b hb e => row_ne (h.st i hi).row hV (by decide) (e ▸ hb)))
  have h1 := (h.st i hi).hp
  rw [e, hV] at h1
  cases h1

theorem Sit.BV (h : Sit base C V key B bc sp v x vs xs w0 p w) : B ≠ V := by
  obtain ⟨LB, hLB, _⟩ := h.vp.hb
  intro e
  have h2 := h.vp.hp
  rw [← e, hLB] at h2
  cases h2

theorem Sit.one {done ahead : Int} (h : Sit base C V key B bc sp v x vs xs w0 ⟨done, false, ahead, false⟩ w) : One w base V key 3 B bc sp (fun _ => false) 0 2 1 v.size 0 nmK (fun i => (Cof.split v.data.toList 0 2 1 3 x.data.toList).getD i []) vs xs :=
  ⟨⟨done, ahead, h.vp⟩, h.st, h.ok, h.xi, h.vi, h.si, h.bV, h.bB, h.bsp, h.bv⟩

theorem Sit.recs (h : Sit base C V key B bc sp v x vs xs w0 p w) (i : Nat) (hi : i < 3) : recOf [xs i] nmK = xs i ∧ hasName [xs i] nmK = true := by
  refine ⟨?_, has_one (h.ok i hi).e.1⟩
  unfold recOf
  rw [pos_one (h.ok i hi).e.1]
  rfl

theorem Sit.even (h : Sit base C V key B bc sp v x vs xs w0 p w) : Even 3 (fun i => [xs i]) := by
  refine ⟨fun i hi => ?_, fun i hi r hr => ?_, fun i hi r hr => ?_⟩
  · have h1 := (h.ok i hi).e
    have h2 := (h.ok 0 (by decide)).e
    show [(xs i).ob] = [(xs 0).ob]
    unfold RecV.ob
    rw [h1.1, h1.2.1, h1.2.2.1, h1.2.2.2.1, h1.2.2.2.2.1, h1.2.2.2.2.2.1, h2.1, h2.2.1, h2.2.2.1, h2.2.2.2.1, h2.2.2.2.2.1, h2.2.2.2.2.2.1]
  · rw [List.mem_singleton.1 hr]; exact (h.ok i hi).e.2.2.2.2.2.2.1
  · rw [List.mem_singleton.1 hr, (h.ok i hi).e.1, (h.ok i hi).e.2.2.2.2.2.1]
    exact ⟨by decide, by decide⟩

/-- CrashAt(0). -/
theorem Sit.crashAt (h : Sit base C V key B bc sp v x vs xs w0 p w) :
    Calls Tryz.prog 31 #[.pointer (some ⟨C, 0, none⟩), .int .i64 0] w fun e w' => e = .returned (.tuple #[]) ∧ Sit base C V key B bc sp v x vs xs w0 ⟨p.done, true, 0, p.crashed⟩ w' :=
  (ccrashAt_of C V 0 w _ h.cf (vcrashAt_any V key 3 B bc sp p 0 w h.vp h.BV)).mono fun _ _ ⟨h1, h2, h3⟩ => ⟨h1, h.pen _ h3 h2⟩

/-- A Refresh whose first write crashes. -/
theorem Sit.refresh {done : Int} (h : Sit base C V key B bc sp v x vs xs w0 ⟨done, true, 0, false⟩ w) (hvs : v.size = 2) (hx : x.size = 2) (hk : key < 18446744073709551616) :
    Calls Tryz.prog 17 #[.pointer (some ⟨C, 0, none⟩), .string nmK, .string ⟨#[122, 122]⟩] w fun e w' => e = .returned (.int .i64 1) ∧ Sit base C V key B bc sp v x vs xs w0 ⟨done, false, 0, true⟩ w' := by
  have hz : v.size ≤ 60 := by omega
  have hP : ∀ i, i < 3 → ((Cof.split v.data.toList 0 2 1 3 x.data.toList).getD i []).length = Cof.ngroups 0 2 1 v.size := fun i hi => split_len planK _ _ i hi (by show _ ≤ x.size; rw [show v.data.toList.length = v.size from rfl, hvs, hx]; decide)
  have hR : Rdy w V key 3 B bc sp := Vt.rdy h.vp (by decide) (by decide)
  have hvi : ∀ i j, i < j → j < 3 → ∀ b, (vs i).ownBlock = some b → (vs j).ownBlock ≠ some b := fun i j hij hj b hb e => h.vi i j hij hj (by rw [hb, e])
  have hob : ∀ i, i < 3 → (recOf [xs i] nmK).ob = ⟨nmK, 0, 2, 1, v.size, 0⟩ := fun i hi => by
    rw [(h.recs i hi).1]
    obtain ⟨e1, e2, e3, e4, e5, e6, _⟩ := (h.ok i hi).e
    unfold RecV.ob
    rw [e1, e2, e3, e4, e5, e6]
  have htp : Cof.tsize 0 2 * Cof.ngroups 0 2 1 v.size ≤ (⟨#[122, 122]⟩ : ByteArray).size := by rw [hvs]; decide
  have hpc : ∀ i : Nat, i < 3 → ∀ w', Below w.heap.size w w' → Tab w' → Calls Tryz.prog 94 #[.pointer (some ⟨V, 0, none⟩), .int .i64 i, .agg #[.string nmK, .int .i64 (0 : Nat), .int .i64 (2 : Nat), .int .i64 (1 : Nat), .int .i64 v.size, .int .i64 (0 : Nat)]] w' fun e w'' =>
      ∃ pv, e = .returned (.tuple #[pv, .nilIface]) ∧ w''.ownsRow w'.heap.size 5 1 pv (Cof.ngroups 0 2 1 v.size) (bs ((Cof.split v.data.toList 0 2 1 3 x.data.toList).getD i [])) ∧ Below w'.heap.size w' w'' := fun i hi w' hb hT =>
    vpiece_rec hR hi (h.st i hi) (h.recs i hi).2 (by rw [(h.recs i hi).1]; exact h.ok i hi) planK (by decide) hz (by decide) (by decide) hk (hP i hi) w' hb hT
  have hg := vrefresh_gen base V key 3 B bc sp ⟨done, true, 0, false⟩ 2 1 v.size 0 nmK ⟨#[122, 122]⟩ (fun i => (Cof.split v.data.toList 0 2 1 3 x.data.toList).getD i []) vs (fun i => [xs i]) w h.vp rfl h.st (fun i hi => (h.recs i hi).2) hob planK (by decide) hz (by decide) hk htp h.gb h.bV h.bv hP hvi hpc
  refine (crefresh_spread C V 2 1 nmK ⟨#[122, 122]⟩ w (Sit base C V key B bc sp v x vs xs w0 ⟨done, false, 0, true⟩) h.cf (by decide) (hg.mono ?_)).mono ?_
  · rintro e w' ⟨ys, k, ⟨hk1, hnh, hend⟩, hJ, _, _, _, hsp⟩
    have hk0 : k = 0 := by
      rcases Nat.eq_zero_or_pos k with h | h
      · exact h
      · have := hnh 0 h
        simp [Pen.ticks, Pen.halts] at this
    subst hk0
    rcases hend with ⟨h0, _⟩ | ⟨_, _, ⟨ev, rfl, hch⟩, hvp⟩
    · omega
    · have hsit := h.keeps ⟨done, false, 0, true⟩ hsp (fun b hb => hb) hvp (fun i hi => by
        have h1 := hJ i hi
        rw [refL_start (by unfold refState; rw [if_neg (by omega), if_neg (by omega)]) (has_lt (h.recs i hi).2)] at h1
        exact h1)
      exact ⟨ev, rfl, hch, hsit.gb.et, hsit⟩
  · rintro e w' ⟨rfl, w1, h1, hb⟩
    exact ⟨rfl, h1.below hb⟩

/-- Recover, where nothing was written. -/
theorem Sit.recover {done : Int} (h : Sit base C V key B bc sp v x vs xs w0 ⟨done, false, 0, true⟩ w) :
    Calls Tryz.prog 22 #[.pointer (some ⟨C, 0, none⟩)] w fun e w' => e = .returned (.int .i64 0) ∧ Sit base C V key B bc sp v x vs xs w0 ⟨done, false, 0, false⟩ w' := by
  have hvn : Vp (penNew w V done) V key 3 B bc sp ⟨done, false, 0, false⟩ := penNew_vp (p := ⟨done, false, 0, true⟩) h.vp h.BV
  have hsn := penNew_spared w V done
  have hgo := fun Post hall hs => vrecover_go V key 3 B bc sp ⟨done, false, 0, true⟩ w Post h.vp rfl hall hs
  simp only at hgo
  generalize penNew w V done = wn at *
  have hn := h.pen ⟨done, false, 0, false⟩ hsn hvn
  have hset := settle_leave V key 3 B bc sp (fun _ => false) vs (fun i => [xs i]) ⟨done, false, 0, false⟩ base wn hn.vp (by decide) (by decide) hn.st hn.even hn.gb hn.bV
  have hall : Calls Tryz.prog 63 #[.pointer (some ⟨V, 0, none⟩)] w fun e w' => e = .returned .nilIface ∧ w' = w := allUp_yes V key 3 B 0 bc sp w (Vt.va h.vp) (by decide) (fun i hi => by rw [cells_at (h.st i hi).hp]; rfl)
  exact crecover_nil C V () w _ h.cf (hgo _ hall (hset.mono fun e w' ⟨u, h1, h2, h3⟩ => ⟨u, h1, h2, hn.below h3⟩))

theorem Sit.get {done ahead : Int} (h : Sit base C V key B bc sp v x vs xs w0 ⟨done, false, ahead, false⟩ w) (hvs : v.size = 2) (hx : x.size = 2) (hk : key < 18446744073709551616) :
    Calls Tryz.prog 23 #[.pointer (some ⟨C, 0, none⟩), .string nmK] w fun e w' => e = .returned (.tuple #[.string v, .int .i64 0]) ∧ Below w.heap.size w w' :=
  h.one.get C h.cf planK (by decide) (by omega) (by decide) (by decide) hk (by rw [hx, hvs]; decide) h.gb.tb (by decide)

theorem Sit.crash {done ahead : Int} {b : Bool} (h : Sit base C V key B bc sp v x vs xs w0 ⟨done, b, ahead, true⟩ w) : Cf w C V ∧ V < w.heap.size ∧ w.cell? ⟨V, 5, none⟩ = some (.bool true) ∧ ErrType w :=
  ⟨h.cf, cells_lt h.vp.hp, by rw [cells_at h.vp.hp]; rfl, h.gb.et⟩
end

/-- With the second store down, it is put up. -/
theorem sit_up (base C V key B bc : Nat) (sp : Nat → Nat) (v x : ByteArray) (vs : Nat → Value) (xs : Nat → RecV) (w0 w : World) (hvs : v.size = 2) (hx : x.size = 2) (h : One w base V key 3 B bc sp (fun j => if j = 1 then !false else (fun _ => false) j) 0 2 1 v.size 0 nmK (fun i => (Cof.split v.data.toList 0 2 1 3 x.data.toList).getD i []) vs xs) (hc : Cf w C V) (hG : Glob w base) (hbl : Below base w0 w) :
    Calls Tryz.prog 19 #[.pointer (some ⟨C, 0, none⟩), .int .i64 (1 : Nat), .bool true] w fun e w' => e = .returned (.int .i64 0) ∧ ∃ done ahead, Sit base C V key B bc sp v x vs xs w0 ⟨done, false, ahead, false⟩ w' := by
  have hP : ∀ i, i < 3 → ((Cof.split v.data.toList 0 2 1 3 x.data.toList).getD i []).length = Cof.ngroups 0 2 1 v.size := fun i hi => split_len planK _ _ i hi (by show _ ≤ x.size; rw [show v.data.toList.length = v.size from rfl, hvs, hx]; decide)
  refine ((h.held _ hP).up C 1 true hc (by decide) (by decide) (by decide)).mono ?_
  rintro e w1 ⟨rfl, hh1, hs1⟩
  have hone1 := h.later hh1
  obtain ⟨done, ahead, hvt1⟩ := hone1.vt
  have hb1 : ∀ k, k = sp 1 → base ≤ k := fun k hk => by rw [hk]; exact h.bsp 1 (by decide)
  refine ⟨rfl, done, ahead, hvt1, fun i hi => ?_, hone1.ok, hc.keeps hs1 (hc.ne (h.st 1 (by decide)).hp (by decide)), hG.spared hs1 hb1, hbl.trans (hs1.below base hG.bs hb1), h.xi, h.vi, h.si, h.bV, h.bB, h.bsp, h.bv⟩
  have := hone1.st i hi
  by_cases h1 : i = 1
  · subst h1; exact this
  · simp only [h1, if_false] at this; exact this

set_option maxRecDepth 100000 in
set_option maxHeartbeats 2000000 in
theorem crashed_any (base C V key B bc : Nat) (sp : Nat → Nat) (v x : ByteArray) (vs : Nat → Value) (xs : Nat → RecV) (w : World) (hv : v = ⟨#[97, 98]⟩) (hx : x.size = 2) (h : One w base V key 3 B bc sp (fun j => if j = 1 then !false else (fun _ => false) j) 0 2 1 v.size 0 nmK (fun i => (Cof.split v.data.toList 0 2 1 3 x.data.toList).getD i []) vs xs) (hc : Cf w C V) (hk : key < 18446744073709551616) (hG : Glob w base) :
    Calls Tryz.prog 24 #[.pointer (some ⟨C, 0, none⟩)] w fun e w' => e = .returned (.bool true) ∧ Below base w w' := by
  have hvs : v.size = 2 := by rw [hv]; rfl
  have HUP := hid (sit_up base C V key B bc sp v x vs xs w w hvs hx h hc hG (Below.refl _ _))
  have HV := hid hv
  have HX := hid hx
  have HVS := hid hvs
  unfold nmK at *
  clear h hc hG hv hx hvs
  go_enter Tryz.func24, Tryz.ntmps24
  go_wp2_with fail
  refine HUP.out.mono ?_
  rintro e w1 ⟨rfl, done, ahead, hs⟩
  have HS := hid hs
  clear hs
  go_wp2_with fail
  refine HS.out.crashAt.mono ?_
  rintro e w2 ⟨rfl, hs⟩
  have HS2 := hid hs
  clear hs
  go_wp2_with fail
  refine (HS2.out.refresh HVS.out HX.out hk).mono ?_
  rintro e w3 ⟨rfl, hs⟩
  have HS3 := hid hs
  clear hs
  go_wp2_with fail
  refine (crash_put HS3.out.crash.1 HS3.out.crash.2.1 HS3.out.crash.2.2.1 HS3.out.crash.2.2.2 0 0 0 ⟨#[]⟩ ⟨#[]⟩ ⟨#[]⟩).mono ?_
  rintro e w4 ⟨rfl, hb⟩
  have HS4 := hid (HS3.out.below hb)
  clear hb
  go_wp2_with fail
  refine (crash_get HS4.out.crash.1 HS4.out.crash.2.1 HS4.out.crash.2.2.1 HS4.out.crash.2.2.2 ⟨#[107]⟩).mono ?_
  rintro e w5 ⟨rfl, hb⟩
  have HS5 := hid (HS4.out.below hb)
  clear hb
  go_wp2_with fail
  refine (crash_delete HS5.out.crash.1 HS5.out.crash.2.1 HS5.out.crash.2.2.1 HS5.out.crash.2.2.2 ⟨#[107]⟩).mono ?_
  rintro e w6 ⟨rfl, hb⟩
  have HS6 := hid (HS5.out.below hb)
  clear hb
  go_wp2_with fail
  refine (crash_spoil HS6.out.crash.1 HS6.out.crash.2.2.1 HS6.out.crash.2.2.2 0 0 ⟨#[107]⟩ 1).mono ?_
  rintro e w7 ⟨rfl, hb⟩
  have HS7 := hid (HS6.out.below hb)
  clear hb
  go_wp2_with fail
  refine (crash_shard HS7.out.crash.1 HS7.out.crash.2.2.1 HS7.out.crash.2.2.2 0 ⟨#[107]⟩).mono ?_
  rintro e w8 ⟨rfl, hb⟩
  have HS8 := hid (HS7.out.below hb)
  clear hb
  go_wp2_with fail
  refine (cobjects_crash C V w8 HS8.out.crash.1 HS8.out.crash.2.2.1).mono ?_
  rintro e w9 ⟨rfl, rfl⟩
  go_wp2_with fail
  refine HS8.out.recover.mono ?_
  rintro e w10 ⟨rfl, hs⟩
  have HS10 := hid hs
  clear hs
  have HGET := hid (HS10.out.get HVS.out HX.out hk)
  rw [HV.out] at HGET
  go_wp2_with fail
  refine HGET.out.mono ?_
  rintro e w11 ⟨rfl, hb⟩
  have HB := hid (HS10.out.bl.trans (hb.mono HS10.out.gb.bs))
  clear hb
  go_wp2_with fail
  go_ret
  exact ⟨rfl, HB.out⟩
end Go.Proofs.YtcegdgmbponapabGreatDoor

namespace Go.Proofs.YtcegdgmbponapabGreatDoor
open Go.RowKit
attribute [local go_sem ↓] Go.wp_at_zero Go.wp_at_succ

/-- The same, with what a call needs that is refused. -/
theorem Sit.ask {base C V key B bc : Nat} {sp : Nat → Nat} {v x : ByteArray} {vs : Nat → Value} {xs : Nat → RecV} {w0 w : World} {done ahead : Int} {b : Bool} (h : Sit base C V key B bc sp v x vs xs w0 ⟨done, b, ahead, false⟩ w) : Ask w C V key 3 B bc sp (fun _ => false) vs (fun i => [xs i]) :=
  ⟨h.cf, Vt.rdy h.vp (by decide) (by decide), h.st, h.gb.tb, h.gb.et⟩

theorem sit_start {base C V key B bc : Nat} {sp : Nat → Nat} {v x : ByteArray} {vs : Nat → Value} {xs : Nat → RecV} {w0 w : World} (h : One w base V key 3 B bc sp (fun _ => false) 0 2 1 v.size 0 nmK (fun i => (Cof.split v.data.toList 0 2 1 3 x.data.toList).getD i []) vs xs) (hc : Cf w C V) (hG : Glob w base) (hbl : Below base w0 w) :
    ∃ done ahead, Sit base C V key B bc sp v x vs xs w0 ⟨done, false, ahead, false⟩ w := by
  obtain ⟨done, ahead, hvt⟩ := h.vt
  exact ⟨done, ahead, hvt, h.st, h.ok, hc, hG, hbl, h.xi, h.vi, h.si, h.bV, h.bB, h.bsp, h.bv⟩

/-- What is down behind Up(1, false). -/
def dn1 : Nat → Bool := fun j => if j = 1 then !false else (fun _ => false) j

theorem sit_down {base C V key B bc : Nat} {sp : Nat → Nat} {v x : ByteArray} {vs : Nat → Value} {xs : Nat → RecV} {w0 w : World} {done ahead : Int} (h : Sit base C V key B bc sp v x vs xs w0 ⟨done, false, ahead, false⟩ w) (hvs : v.size = 2) (hx : x.size = 2) :
    Calls Tryz.prog 19 #[.pointer (some ⟨C, 0, none⟩), .int .i64 (1 : Nat), .bool false] w fun e w' => e = .returned (.int .i64 0) ∧ One w' base V key 3 B bc sp dn1 0 2 1 v.size 0 nmK (fun i => (Cof.split v.data.toList 0 2 1 3 x.data.toList).getD i []) vs xs ∧ Cf w' C V ∧ Glob w' base ∧ Below base w0 w' ∧ Spared (fun b => b = sp 1) w w' := by
  have hP : ∀ i, i < 3 → ((Cof.split v.data.toList 0 2 1 3 x.data.toList).getD i []).length = Cof.ngroups 0 2 1 v.size := fun i hi => split_len planK _ _ i hi (by show _ ≤ x.size; rw [show v.data.toList.length = v.size from rfl, hvs, hx]; decide)
  refine ((h.one.held _ hP).up C 1 false h.cf (by decide) (by decide) (by decide)).mono ?_
  rintro e w1 ⟨rfl, hh1, hs1⟩
  have hb1 : ∀ k, k = sp 1 → base ≤ k := fun k hk => by rw [hk]; exact h.bsp 1 (by decide)
  exact ⟨rfl, h.one.later hh1, h.cf.keeps hs1 (h.cf.ne (h.st 1 (by decide)).hp (by decide)), h.gb.spared hs1 hb1, h.bl.trans (hs1.below base h.gb.bs hb1), hs1⟩

theorem one_ask {base C V key B bc : Nat} {sp : Nat → Nat} {dn : Nat → Bool} {v x : ByteArray} {vs : Nat → Value} {xs : Nat → RecV} {w : World} (h : One w base V key 3 B bc sp dn 0 2 1 v.size 0 nmK (fun i => (Cof.split v.data.toList 0 2 1 3 x.data.toList).getD i []) vs xs) (hc : Cf w C V) (hG : Glob w base) : Ask w C V key 3 B bc sp dn vs (fun i => [xs i]) := by
  obtain ⟨done, ahead, hvt⟩ := h.vt
  exact ⟨hc, hvt.rdy (by decide) (by decide), h.st, hG.tb, hG.et⟩

theorem fits_no1 (m : Int) (h : m < 0 ∨ 2 ≤ m) : ¬ Fits m 1 1 (3 : Nat) := by
  unfold Fits
  omega
theorem fits_no2 : ¬ Fits 0 2 3 (3 : Nat) := by
  unfold Fits
  omega

set_option maxRecDepth 100000 in
set_option maxHeartbeats 4000000 in
theorem refused_any (k : Int) (key : Nat) (at_ : Int) (w : World) (hk : I64 k) (hat : I64 at_) (hkey : key < 18446744073709551616) (hT : Tab w) (hE : ErrType w) :
    Calls Tryz.prog 4 #[.int .i64 k, .int .u64 key, .int .i64 at_] w fun e w' => e = .returned (.bool true) ∧ Below w.heap.size w w' := by
  obtain ⟨i0, hi, hz0, hz1, hz2⟩ := info_parts Tryz.info5
  obtain ⟨v, hv⟩ : ∃ v : ByteArray, v = ⟨#[97, 98]⟩ := ⟨_, rfl⟩
  obtain ⟨x, hx⟩ : ∃ x : ByteArray, x = ⟨#[120, 121]⟩ := ⟨_, rfl⟩
  have hvs : v.size = 2 := by rw [hv]; rfl
  have hxs : x.size = 2 := by rw [hx]; rfl
  have HFR := hid (fresh_ok 3 key 0 2 1 v x w planK (by omega) (by rw [hvs]; decide) (by rw [hvs, hxs]; decide) hkey)
  rw [hv, hx] at HFR
  obtain ⟨lg, hlg⟩ : ∃ lg : ByteArray, lg = ⟨(List.replicate 61 0).toArray⟩ := ⟨_, rfl⟩
  have hls : lg.size = 61 := by rw [hlg]; rfl
  have HLG := hid hlg
  have HLS := hid hls
  clear hlg hls
  have HG0 := hid (show Glob w w.heap.size from ⟨hT, hE, hT.2, hE.2, Nat.le_refl _⟩)
  have HV := hid (And.intro hv (And.intro hx (And.intro hvs hxs)))
  clear hT hE hv hx hvs hxs
  go_enter Tryz.func4, Tryz.ntmps4
  go_wp2_with fail
  refine HFR.out.mono ?_
  rintro e w1 ⟨C, V, B, bc, sp, vs, xs, rfl, hcf, hC, hone, hb1⟩
  have hs := sit_start (v := v) (x := x) (w0 := w) (by rw [HV.out.1, HV.out.2.1]; exact hone) hcf (HG0.out.spared (Spared.ofBelow (own := fun _ => False) hb1 (Nat.le_refl _)) (fun _ h => h.elim)) hb1
  obtain ⟨done, ahead, hs⟩ := hs
  have HS := hid hs
  clear hs hone hcf
  have hb1a := (Below.refl w1.heap.size w1).alloc (Nat.le_refl _) (.cells #[.int .i64 0, .int .i64 2, .int .i64 1] 29)
  obtain ⟨w1a, hw1a⟩ : ∃ w1a, w1a = w1.alloc (.cells #[.int .i64 0, .int .i64 2, .int .i64 1] 29) := ⟨_, rfl⟩
  have HW1A := hid hw1a
  have HPL := hid (show w1a.heap[w1.heap.size]? = some (.cells #[.int .i64 0, .int .i64 2, .int .i64 1] 29) by rw [hw1a]; exact alloc_at _ _)
  clear hw1a
  go_wp2_with (first | (at_make; refine wpList_make_full _ rfl (.const (.int .i64 61)) (.const (.int .i64 61)) 44 rfl (w1.heap.size + 1) 5 i0 (.int .u8 0) 1 Tryz.underlying44 hi hz0 hz1 .i64 .i64 _ _ 61 rfl rfl rfl rfl (by rw [hz2]; omega) (by unfold maxLen; omega) (by simp) ?_; intro w2 hown2 hgrow2; (rw [show (w1.alloc (.cells #[.int .i64 0, .int .i64 2, .int .i64 1] 29)).heap.size = w1.heap.size + 1 from by simp] at hown2); (have hcv := conv_string w2 (some ⟨w1.heap.size + 1, 0, none⟩) 61 61 (List.replicate 61 0) (by simp) (owns_rd (made_row hown2))); (rw [← HLG.out] at hcv); (have hb2 := grown_below hgrow2); clear hown2 hgrow2) | fail)
  rw [← HW1A.out] at hb2 hb1a
  have hb12 : Below w1.heap.size w1 w2 := hb1a.trans (hb2.mono hb1a.size)
  have HP2 := hid (show w2.heap[w1.heap.size]? = some (.cells #[.int .i64 0, .int .i64 2, .int .i64 1] 29) from (hb2.block _ (cells_lt HPL.out)).trans HPL.out)
  have HS2 := hid (HS.out.below hb12)
  have HNAME := hid (show ∀ i, i < 3 → (xs i).name = (⟨#[107]⟩ : ByteArray) from fun i hi => (HS.out.ok i hi).e.1)
  have HPLAN := hid (show ∀ w', Below w2.heap.size w2 w' → w'.cell? ⟨w1.heap.size, 0, none⟩ = some (.int .i64 0) ∧ w'.cell? ⟨w1.heap.size, 1, none⟩ = some (.int .i64 2) ∧ w'.cell? ⟨w1.heap.size, 2, none⟩ = some (.int .i64 1) from fun w' hb => by
    have h := (hb.block _ (cells_lt HP2.out)).trans HP2.out
    exact ⟨by rw [cells_at h]; rfl, by rw [cells_at h]; rfl, by rw [cells_at h]; rfl⟩)
  have HOUT := hid (fun z n w' hz h1 h2 => outside_any z n w' hz h1 h2)
  have HSN := hid (show (xs 0).sn = 21 from by
    have h1 := (HS.out.ok 0 (by decide)).sn
    rw [h1, split_len planK _ _ 0 (by decide) (by rw [show v.data.toList.length = v.size from rfl, HV.out.2.2.1]; show _ ≤ x.size; rw [HV.out.2.2.2]; decide), show v.data.toList.length = v.size from rfl, HV.out.2.2.1]
    rfl)
  have HK := hid hk
  have HAT := hid hat
  clear hb1a hk hat
  go_wp2_with fail
  refine (HOUT.out k 3 _ HK.out (by decide) (by decide)).mono ?_
  rintro e wysx ⟨ys, rfl, hys1, hys2, hwys⟩
  subst hwys
  have Hys := hid (And.intro hys1 hys2)
  clear hys1 hys2
  go_wp2_with fail
  refine (HS2.out.ask.put_name 0 0 0 ⟨#[]⟩ lg ⟨#[]⟩ (.inl (by decide)) (by decide)).mono ?_
  rintro e w3 ⟨rfl, hb⟩
  have HS3 := hid (HS2.out.below hb)
  have hb2_3 := hb
  clear hb
  go_wp2_with fail
  refine (HS3.out.ask.put_name 0 0 0 ⟨#[49, 50, 51, 52, 53, 54, 55, 56, 57, 48, 49, 50, 51]⟩ lg ⟨#[]⟩ (.inr (by decide)) (by decide)).mono ?_
  rintro e w4 ⟨rfl, hb⟩
  have HS4 := hid (HS3.out.below hb)
  have hb2_4 := hb2_3.trans (hb.mono hb2_3.size)
  clear hb hb2_3
  go_wp2_with fail
  refine (HOUT.out k 2 _ HK.out (by decide) (by decide)).mono ?_
  rintro e wymx ⟨ym, rfl, hym1, hym2, hwym⟩
  subst hwym
  have Hym := hid (And.intro hym1 hym2)
  clear hym1 hym2
  go_wp2_with fail
  refine (HS4.out.ask.put_plan ym 1 1 ⟨#[110]⟩ lg ⟨#[]⟩ (by decide) (by decide) Hym.out.1 (by unfold I64; omega) (by unfold I64; omega) (fits_no1 ym Hym.out.2)).mono ?_
  rintro e w5 ⟨rfl, hb⟩
  have HS5 := hid (HS4.out.below hb)
  have hb2_5 := hb2_4.trans (hb.mono hb2_4.size)
  clear hb hb2_4
  go_wp2_with fail
  refine (HS5.out.ask.put_plan 0 2 3 ⟨#[110]⟩ lg ⟨#[]⟩ (by decide) (by decide) (by unfold I64; omega) (by unfold I64; omega) (by unfold I64; omega) fits_no2).mono ?_
  rintro e w6 ⟨rfl, hb⟩
  have HS6 := hid (HS5.out.below hb)
  have hb2_6 := hb2_5.trans (hb.mono hb2_5.size)
  clear hb hb2_5
  obtain ⟨p0, p1, p2⟩ := HPLAN.out _ hb2_6
  go_wp2_with fail
  refine (HS6.out.ask.put_big 0 2 1 ⟨#[110]⟩ lg ⟨#[]⟩ (by decide) (by decide) planK (by rw [HLS.out]; decide) (by rw [HLS.out]; unfold maxLen; decide)).mono ?_
  rintro e w7 ⟨rfl, hb⟩
  have HS7 := hid (HS6.out.below hb)
  have hb2_7 := hb2_6.trans (hb.mono hb2_6.size)
  clear hb hb2_6 p0 p1 p2
  obtain ⟨p0, p1, p2⟩ := HPLAN.out _ hb2_7
  go_wp2_with fail
  refine (HS7.out.ask.put_twice 0 2 1 ⟨#[107]⟩ ⟨#[]⟩ ⟨#[]⟩ (by decide) (by decide) planK (by decide) (has_one (HNAME.out 0 (by decide)))).mono ?_
  rintro e w8 ⟨rfl, hb⟩
  have HS8 := hid (HS7.out.below hb)
  have hb2_8 := hb2_7.trans (hb.mono hb2_7.size)
  clear hb hb2_7 p0 p1 p2
  obtain ⟨p0, p1, p2⟩ := HPLAN.out _ hb2_8
  go_wp2_with fail
  refine (HS8.out.ask.put_tape 0 2 1 ⟨#[110]⟩ ⟨#[97, 98, 99]⟩ ⟨#[120, 121]⟩ (by decide) (by decide) planK (by decide) (has_other (by rw [HNAME.out 0 (by decide)]; decide)) (by show (1 : Nat) < 10; decide) (by decide)).mono ?_
  rintro e w9 ⟨rfl, hb⟩
  have HS9 := hid (HS8.out.below hb)
  have hb2_9 := hb2_8.trans (hb.mono hb2_8.size)
  clear hb hb2_8 p0 p1 p2
  go_wp2_with fail
  refine (HS9.out.ask.refresh_tape ⟨#[107]⟩ ⟨#[120]⟩ (xs 0) (has_one (HNAME.out 0 (by decide))) (by rw [pos_one (HNAME.out 0 (by decide))]; rfl) (by obtain ⟨_, e2, e3, e4, _⟩ := (HS.out.ok 0 (by decide)).e; rw [e2, e3, e4]; exact planK) (HS.out.ok 0 (by decide)).e.2.1 (by rw [(HS.out.ok 0 (by decide)).e.2.2.2.2.2.1]; decide) (by rw [(HS.out.ok 0 (by decide)).e.2.2.2.2.1, HV.out.2.2.1]; decide) (by obtain ⟨_, e2, e3, e4, e5, _⟩ := (HS.out.ok 0 (by decide)).e; rw [e2, e3, e4, e5, HV.out.2.2.1]; decide)).mono ?_
  rintro e w10 ⟨rfl, hb⟩
  have HS10 := hid (HS9.out.below hb)
  have hb2_10 := hb2_9.trans (hb.mono hb2_9.size)
  clear hb hb2_9
  go_wp2_with fail
  refine (HS10.out.ask.delete_none ⟨#[110]⟩ (has_other (by rw [HNAME.out 0 (by decide)]; decide))).mono ?_
  rintro e w11 ⟨rfl, hb⟩
  have HS11 := hid (HS10.out.below hb)
  have hb2_11 := hb2_10.trans (hb.mono hb2_10.size)
  clear hb hb2_10
  go_wp2_with fail
  refine (HS11.out.ask.up_store ys true Hys.out.1 Hys.out.2).mono ?_
  rintro e w12 ⟨rfl, hb⟩
  have HS12 := hid (HS11.out.below hb)
  have hb2_12 := hb2_11.trans (hb.mono hb2_11.size)
  clear hb hb2_11
  go_wp2_with fail
  refine (HS12.out.ask.spoil_store ys 0 ⟨#[107]⟩ 1 Hys.out.1 Hys.out.2).mono ?_
  rintro e w13 ⟨rfl, hb⟩
  have HS13 := hid (HS12.out.below hb)
  have hb2_13 := hb2_12.trans (hb.mono hb2_12.size)
  clear hb hb2_12
  go_wp2_with fail
  refine (HOUT.out at_ 21 _ HAT.out (by decide) (by decide)).mono ?_
  rintro e wypx ⟨yp, rfl, hyp1, hyp2, hwyp⟩
  subst hwyp
  have Hyp := hid (And.intro hyp1 hyp2)
  clear hyp1 hyp2
  go_wp2_with fail
  refine (HS13.out.ask.spoil_place 0 yp ⟨#[107]⟩ 1 (xs 0) (by decide) (has_one (HNAME.out 0 (by decide))) (by rw [pos_one (HNAME.out 0 (by decide))]; rfl) Hyp.out.1 (by rw [HSN.out]; exact Hyp.out.2)).mono ?_
  rintro e w14 ⟨rfl, hb⟩
  have HS14 := hid (HS13.out.below hb)
  have hb2_14 := hb2_13.trans (hb.mono hb2_13.size)
  clear hb hb2_13
  go_wp2_with fail
  refine (HS14.out.ask.shard_store ys ⟨#[107]⟩ Hys.out.1 Hys.out.2).mono ?_
  rintro e w15 ⟨rfl, hb⟩
  have HS15 := hid (HS14.out.below hb)
  have hb2_15 := hb2_14.trans (hb.mono hb2_14.size)
  clear hb hb2_14
  go_wp2_with fail
  refine (HS15.out.ask.shard_none 0 ⟨#[110]⟩ (by decide) (has_other (by rw [HNAME.out 0 (by decide)]; decide))).mono ?_
  rintro e w16 ⟨rfl, hb⟩
  have HS16 := hid (HS15.out.below hb)
  have hb2_16 := hb2_15.trans (hb.mono hb2_15.size)
  clear hb hb2_15
  go_wp2_with fail
  refine (sit_down HS16.out HV.out.2.2.1 HV.out.2.2.2).mono ?_
  rintro e wd ⟨rfl, hone, hcf, hG, hbl, hsd⟩
  have hpw := (HPLAN.out _ hb2_16)
  have HPD := hid (show wd.heap[w1.heap.size]? = some (.cells #[.int .i64 0, .int .i64 2, .int .i64 1] 29) from by
    have h1 : w16.heap[w1.heap.size]? = some (.cells #[.int .i64 0, .int .i64 2, .int .i64 1] 29) := (hb2_16.block _ (cells_lt HP2.out)).trans HP2.out
    refine hsd.heap h1 (fun e => ?_)
    have h2 := (HS16.out.st 1 (by decide)).hp
    rw [← e, h1] at h2
    cases h2)
  have HD := hid (And.intro hone (And.intro hcf (And.intro hG hbl)))
  have HPW := hid (show ∀ w', Below wd.heap.size wd w' → w'.cell? ⟨w1.heap.size, 0, none⟩ = some (.int .i64 0) ∧ w'.cell? ⟨w1.heap.size, 1, none⟩ = some (.int .i64 2) ∧ w'.cell? ⟨w1.heap.size, 2, none⟩ = some (.int .i64 1) from fun w' hb => by
    have h := (hb.block _ (cells_lt HPD.out)).trans HPD.out
    exact ⟨by rw [cells_at h]; rfl, by rw [cells_at h]; rfl, by rw [cells_at h]; rfl⟩)
  have HASK := hid (show ∀ w', Below wd.heap.size wd w' → Ask w' C V key 3 B bc sp dn1 vs (fun i => [xs i]) from fun w' hb => (one_ask hone hcf hG).keeps hb)
  have HDN := hid (show ∃ i, i < 3 ∧ dn1 i = true from ⟨1, by decide, rfl⟩)
  clear hone hcf hG hbl hsd hpw hb2_16
  obtain ⟨p0, p1, p2⟩ := HPW.out _ (Below.refl _ _)
  go_wp2_with fail
  refine ((HASK.out _ (Below.refl _ _)).put_down 0 2 1 ⟨#[110]⟩ ⟨#[]⟩ ⟨#[]⟩ (by decide) (by decide) planK (by decide) (has_other (by rw [HNAME.out 0 (by decide)]; decide)) (by show (1 : Nat) < 10; decide) (by decide) HDN.out).mono ?_
  rintro e we ⟨rfl, hbe⟩
  clear p0 p1 p2
  go_wp2_with fail
  refine ((HASK.out _ hbe).delete_down ⟨#[107]⟩ (has_one (HNAME.out 0 (by decide))) HDN.out).mono ?_
  rintro e wf ⟨rfl, hb⟩
  have hbf := hbe.trans (hb.mono hbe.size)
  clear hb hbe
  go_wp2_with fail
  refine ((HASK.out _ hbf).refresh_down ⟨#[107]⟩ ⟨#[120, 121]⟩ (xs 0) (has_one (HNAME.out 0 (by decide))) (by rw [pos_one (HNAME.out 0 (by decide))]; rfl) (by obtain ⟨_, e2, e3, e4, _⟩ := (HS.out.ok 0 (by decide)).e; rw [e2, e3, e4]; exact planK) (HS.out.ok 0 (by decide)).e.2.1 (by rw [(HS.out.ok 0 (by decide)).e.2.2.2.2.2.1]; decide) (by rw [(HS.out.ok 0 (by decide)).e.2.2.2.2.1, HV.out.2.2.1]; decide) (by obtain ⟨_, e2, e3, e4, e5, _⟩ := (HS.out.ok 0 (by decide)).e; rw [e2, e3, e4, e5, HV.out.2.2.1]; decide) HDN.out).mono ?_
  rintro e wg ⟨rfl, hb⟩
  have hbg := hbf.trans (hb.mono hbf.size)
  clear hb hbf
  go_wp2_with fail
  refine (crecover_no C V 2 8 () wg (HASK.out _ hbg).cf (by decide) (HASK.out _ hbg).et (vrecover_down V 1 8 wg ((HASK.out _ hbg).allUp_no HDN.out))).mono ?_
  rintro e wh ⟨rfl, hb⟩
  have hbh := hbg.trans (hb.mono hbg.size)
  clear hb hbg
  have HGET := hid ((HD.out.1.below hbh).get C (HASK.out _ hbh).cf planK (by decide) (by rw [HV.out.2.2.1]; decide) (by decide) (by decide) hkey (by rw [HV.out.2.2.1, HV.out.2.2.2]; decide) (HASK.out _ hbh).tb (by decide))
  rw [HV.out.1] at HGET
  go_wp2_with fail
  refine HGET.out.mono ?_
  rintro e wi ⟨rfl, hb⟩
  have hbi := hbh.trans (hb.mono hbh.size)
  clear hb hbh
  have HCR := hid (crashed_any w.heap.size C V key B bc sp v x vs xs wi HV.out.1 HV.out.2.2.2 (HD.out.1.below hbi) (HASK.out _ hbi).cf hkey (HD.out.2.2.1.below hbi))
  have HBI := hid (HD.out.2.2.2.trans (hbi.mono HD.out.2.2.1.bs))
  clear hbi
  go_wp2_with fail
  refine HCR.out.mono ?_
  rintro e wj ⟨rfl, hb⟩
  have HB := hid (HBI.out.trans hb)
  clear hb
  go_wp2_with fail
  go_ret
  exact ⟨rfl, HB.out⟩
end Go.Proofs.YtcegdgmbponapabGreatDoor
