/-
  A region that draws its order, makes one variable and writes it: both come up whenever they may.
  vault.piece.
-/
import Derived.Test.YtcegdgmbponapaaGreatDoorPart17
import Derived.Laws.Tables
import Derived.Test.YtcegdgmbponapaaGreatDoorPart20
import Derived.Test.YtcegdgmbponapaaGreatDoorPart23
namespace Go.Proofs.YtcegdgmbponapaaGreatDoor
open Go.RowKit

section
variable {P : Program} {ops : Array Oper} {Q : Exit → Act → World → Prop} {md : Region.Mode}

theorem all_listed2 (hacyc : ∀ (i : Nat) (o : Oper) (e : Edge), ops[i]? = some o → e ∈ o.after → Region.binds md e = true → e.on < i) {listed : Array Bool} (hs : listed.size = ops.size) (h : Region.ready md ops listed = []) :
    ∀ i, i < ops.size → listed.getD i false = true := by
  intro i
  induction i using Nat.strongRecOn with
  | ind i ih =>
    intro hi
    cases hb : listed.getD i false with
    | true => rfl
    | false =>
      have : i ∈ Region.ready md ops listed := mem_ready.2 ⟨by rw [getD_flip (by omega), hb], ops[i], by simp [hi], fun e he hbd => ih e.on (hacyc i _ e (by simp [hi]) he hbd) (by have := hacyc i _ e (by simp [hi]) he hbd; omega)⟩
      rw [h] at this
      cases this

theorem wpAny_inv2 (I : Array Bool → Act → World → Prop) (hacyc : ∀ (i : Nat) (o : Oper) (e : Edge), ops[i]? = some o → e ∈ o.after → Region.binds md e = true → e.on < i)
    (hstep : ∀ (listed : Array Bool) (a : Act) (w : World) (i : Nat) (o : Oper), I listed a w → listed.size = ops.size → ops[i]? = some o → listed.getD i false = false → (∀ e ∈ o.after, Region.binds md e = true → listed.getD e.on false = true) → wpOp P ops Q i (fun a' w' => I (listed.setIfInBounds i true) a' w') a w)
    (hend : ∀ listed a w, I listed a w → (∀ i, i < ops.size → listed.getD i false = true) → Q .normal a w) :
    ∀ (fuel : Nat) (listed : Array Bool) (a : Act) (w : World), listed.size = ops.size → todo ops listed ≤ fuel → I listed a w → wpAny P md ops Q fuel listed a w := by
  intro fuel
  induction fuel with
  | zero =>
    intro listed a w hs hf hI
    have hall : ∀ i, i < ops.size → listed.getD i false = true := by
      intro i hi
      have h0 : todo ops listed = 0 := by omega
      unfold todo at h0
      rw [List.countP_eq_zero] at h0
      have := h0 i (List.mem_range.2 hi)
      rw [← getD_flip (by omega)]
      simpa using this
    refine ⟨?_, hend _ _ _ hI hall⟩
    cases hr : Region.ready md ops listed with
    | nil => rfl
    | cons j r =>
      have hj : j ∈ Region.ready md ops listed := by rw [hr]; exact List.mem_cons_self ..
      obtain ⟨h0, o, ho, _⟩ := mem_ready.1 hj
      have hjs : j < ops.size := (Array.getElem?_eq_some_iff.1 ho).1
      rw [getD_flip (by omega), hall j hjs] at h0
      cases h0
  | succ fuel ih =>
    intro listed a w hs hf hI
    refine ⟨fun hr => hend _ _ _ hI (all_listed2 hacyc hs hr), fun i hi => ?_⟩
    obtain ⟨h0, o, ho, hall⟩ := mem_ready.1 hi
    have his : i < ops.size := (Array.getElem?_eq_some_iff.1 ho).1
    refine wpOp_mono (fun a' w' h' => ih _ a' w' (by simpa using hs) ?_ h') (hstep listed a w i o hI hs ho (by rw [← getD_flip (by omega)]; exact h0) hall)
    have : todo ops (listed.setIfInBounds i true) < todo ops listed := by
      unfold todo
      refine countP_less _ _ _ (fun x _ hx => ?_) i (List.mem_range.2 his) (by rw [h0]; rfl) (by simp [show i < listed.size by omega])
      by_cases hxi : i = x
      · subst hxi; rw [h0]; rfl
      · rw [getD_set_ne true hxi] at hx; exact hx
    omega


/-- Each operation but two, once. -/
def StepBut (P : Program) (slot : Nat → Nat) (R : Nat → Value → World → Prop) (fixed : List (Nat × Value)) (w0 : World) (p q : Nat) : Nat → List Oper → Prop
  | _, [] => True
  | i, o :: rest => (i = p ∨ i = q ∨ ∀ a w, Below w0.heap.size w0 w → (∀ x ∈ fixed, a.tmps.getD x.1 undef = x.2) → (∀ e ∈ o.after, Region.binds .any e = true → e.on ≠ p → e.on ≠ q → R e.on (a.tmps.getD (slot e.on) undef) w) → StepOk P o a w fun v w' => Below w.heap.size w w' ∧ R i v w') ∧ StepBut P slot R fixed w0 p q (i + 1) rest

theorem StepBut.at {slot : Nat → Nat} {R : Nat → Value → World → Prop} {fixed : List (Nat × Value)} {w0 : World} {p q : Nat} : ∀ (l : List Oper) (k i : Nat) (o : Oper), StepBut P slot R fixed w0 p q k l → l[i]? = some o → k + i ≠ p → k + i ≠ q →
    ∀ a w, Below w0.heap.size w0 w → (∀ x ∈ fixed, a.tmps.getD x.1 undef = x.2) → (∀ e ∈ o.after, Region.binds .any e = true → e.on ≠ p → e.on ≠ q → R e.on (a.tmps.getD (slot e.on) undef) w) → StepOk P o a w fun v w' => Below w.heap.size w w' ∧ R (k + i) v w' := by
  intro l
  induction l with
  | nil => intro k i o _ hi; simp at hi
  | cons x l ih =>
    intro k i o h hi hp hq
    cases i with
    | zero =>
      simp at hi
      subst hi
      rcases h.1 with h1 | h1 | h1
      · omega
      · omega
      · exact h1
    | succ i =>
      have := ih (k + 1) i o h.2 (by simpa using hi) (by omega) (by omega)
      rw [show k + (i + 1) = k + 1 + i by omega]
      exact this

/-- What the operations must look like: but for the one that writes each has a slot of its own, and none hangs on the two. -/
def memOk (ops : Array Oper) (slot : Nat → Nat) (N p q : Nat) (keys : List Nat) : Bool :=
  p != q && (List.range ops.size).all fun i => match ops[i]? with
    | none => false
    | some o => o.guard.isNone && o.after.all (fun e => !Region.binds .any e || decide (e.on < i)) &&
      (i == q && o.dst == none && o.after.any (fun e => e.on == p && Region.binds .any e) || i != q && o.dst == some (slot i) && decide (slot i < N) && keys.all (fun k => k != slot i) && (List.range ops.size).all fun j => j == q || slot i != slot j || i == j)

structure MI (slot : Nat → Nat) (R : Nat → Value → World → Prop) (fixed : List (Nat × Value)) (N : Nat) (p q : Nat) (te : TypeId) (cs : Array Value) (w0 : World) (listed : Array Bool) (a : Act) (w : World) : Prop where
  df : a.defers = []
  sz : a.tmps.size = N
  bl : Below w0.heap.size w0 w
  fx : ∀ x ∈ fixed, a.tmps.getD x.1 undef = x.2
  rs : ∀ j, j ≠ p → j ≠ q → listed.getD j false = true → R j (a.tmps.getD (slot j) undef) w
  pq : listed.getD q false = true → listed.getD p false = true
  al : listed.getD p false = true → ∃ b c, a.tmps.getD (slot p) undef = .pointer (some ⟨b, 0, none⟩) ∧ w0.heap.size ≤ b ∧ w.heap[b]? = some (.cells c te) ∧ c.size = cs.size ∧ (listed.getD q false = true → c = cs)

theorem wp_region_mem {id : Nat} {a : Act} {w : World} (hm : P.follows .mixedOrders = true) (slot : Nat → Nat) (R : Nat → Value → World → Prop) (fixed : List (Nat × Value)) (N p q : Nat) (keys : List Nat) (te : TypeId) (cs z : Array Value) (x y : Operand)
    (hok : memOk ops slot N p q keys = true) (hk : fixed.map Prod.fst = keys)
    (hp : ∃ o, ops[p]? = some o ∧ ∀ (a : Act) (w : World), (execOp a.eval o).run P w = .ok (.value (.pointer (some ⟨w.heap.size, 0, none⟩))) (w.alloc (.cells z te))) (hzs : z.size = cs.size)
    (hq : ∃ o, ops[q]? = some o ∧ o.op = .store te x y ∧ (∀ a : Act, a.eval x = a.tmps.getD (slot p) undef) ∧ ∀ (a : Act) (w : World), (∀ e ∈ o.after, Region.binds .any e = true → e.on ≠ p → e.on ≠ q → R e.on (a.tmps.getD (slot e.on) undef) w) → a.eval y = .agg cs)
    (hi : (P.info? te).map (·.size) = some cs.size) (hcs : cs.all (·.oneCell') = true)
    (ha : a.defers = []) (hN : a.tmps.size = N) (hfx : ∀ p ∈ fixed, a.tmps.getD p.1 undef = p.2)
    (hper : ∀ j v w w', R j v w → Below { w with drawn := w.drawn }.heap.size w w' → R j v w')
    (hperS : ∀ j v w' b c, Below w.heap.size { w with drawn := w.drawn + 1 } w' → R j v w' → w.heap.size ≤ b → R j v (w'.setRow b c))
    (hstep : StepBut P slot R fixed { w with drawn := w.drawn + 1 } p q 0 ops.toList)
    (hend : ∀ a w' b, a.defers = [] → a.tmps.size = N → Below w.heap.size { w with drawn := w.drawn + 1 } w' → (∀ p ∈ fixed, a.tmps.getD p.1 undef = p.2) → (∀ j, j < ops.size → j ≠ p → j ≠ q → R j (a.tmps.getD (slot j) undef) w') → a.tmps.getD (slot p) undef = .pointer (some ⟨b, 0, none⟩) → w.heap.size ≤ b → w'.heap[b]? = some (.cells cs te) → Q .normal a w') :
    (Code.region id ops true).wp P Q a w := by
  unfold memOk at hok
  rw [Bool.and_eq_true] at hok
  obtain ⟨hpq, hok⟩ := hok
  have hpq : p ≠ q := by simpa using hpq
  rw [List.all_eq_true] at hok
  obtain ⟨op, hop, hopr⟩ := hp
  obtain ⟨oq, hoq, hoqs, hoqx, hoqy⟩ := hq
  have hpl : p < ops.size := (Array.getElem?_eq_some_iff.1 hop).1
  have hql : q < ops.size := (Array.getElem?_eq_some_iff.1 hoq).1
  have hall : ∀ (i : Nat) (o : Oper), ops[i]? = some o → o.guard = none ∧ (∀ e ∈ o.after, Region.binds .any e = true → e.on < i) ∧ (i = q ∧ o.dst = none ∧ (∃ e ∈ o.after, e.on = p ∧ Region.binds .any e = true) ∨ i ≠ q ∧ o.dst = some (slot i) ∧ slot i < N ∧ (∀ x ∈ fixed, x.1 ≠ slot i) ∧ ∀ j, j < ops.size → j ≠ q → slot i = slot j → i = j) := by
    intro i o ho
    have his : i < ops.size := (Array.getElem?_eq_some_iff.1 ho).1
    have := hok i (List.mem_range.2 his)
    simp only [ho, Bool.and_eq_true, beq_iff_eq, decide_eq_true_eq, Option.isNone_iff_eq_none, List.all_eq_true, bne_iff_ne, ne_eq, Array.all_eq_true_iff_forall_mem, Bool.or_eq_true, List.mem_range, Array.any_eq_true', Bool.not_eq_true'] at this
    obtain ⟨⟨h1, h2⟩, h3⟩ := this
    refine ⟨h1, fun e he hbd => (h2 e he).elim (fun h => by rw [hbd] at h; cases h) (fun h => h), ?_⟩
    rcases h3 with ⟨⟨h3, h4⟩, h5⟩ | ⟨⟨⟨⟨h3, h4⟩, h5⟩, h6⟩, h8⟩
    · exact .inl ⟨h3, h4, h5⟩
    · refine .inr ⟨h3, h4, h5, fun x hx => h6 x.1 (by rw [← hk]; exact List.mem_map_of_mem hx), fun j hj hjq he => ?_⟩
      rcases h8 j hj with (h | h) | h
      · exact absurd h hjq
      · exact absurd he h
      · exact h
  have hslp : slot p < N := by
    rcases (hall p op hop).2.2 with ⟨h, _⟩ | ⟨_, _, h, _⟩
    · exact absurd h hpq
    · exact h
  refine wp_region_any hm (wpAny_inv2 (MI slot R fixed N p q te cs { w with drawn := w.drawn + 1 }) (fun i o e ho he hbd => (hall i o ho).2.1 e he hbd) ?_ ?_ ops.size _ _ _ (by simp) (by unfold todo; exact Nat.le_trans (List.countP_le_length ..) (by simp)) ⟨ha, hN, Below.refl _ _, hfx, ?_, ?_, ?_⟩)
  · intro listed a1 w1 i o hI hs ho hno hdep
    obtain ⟨hg, hed, hcase⟩ := hall i o ho
    have his : i < listed.size := by rw [hs]; exact (Array.getElem?_eq_some_iff.1 ho).1
    unfold wpOp
    simp only [ho, Region.wanted, hg, if_true]
    refine .inl ?_
    rcases hcase with ⟨rfl, hd, e, he, hep, heb⟩ | ⟨hiq, hd, hsl, hfk, hinj⟩
    · rw [hoq] at ho; cases ho
      have hlp : listed.getD p false = true := by rw [← hep]; exact hdep e he heb
      obtain ⟨b, c, hb1, hb2, hb3, hb4, _⟩ := hI.al hlp
      have hy := hoqy a1 w1 (fun e he hbd hne hnq => hI.rs _ hne hnq (hdep e he hbd))
      refine wp_store_row te x y hoqs b cs (by rw [hoqx]; exact hb1) hy te c hb3 hi hb4 hcs ?_
      rw [hd]
      refine ⟨hI.df, hI.sz, hI.bl.trans (below_setRow (Below.refl _ _) hb2 cs), hI.fx, fun j hjp hjq hj => ?_, fun _ => ?_, fun _ => ?_⟩
      · rw [getD_set_ne false (Ne.symm hjq)] at hj
        exact hperS j _ w1 b cs hI.bl (hI.rs j hjp hjq hj) hb2
      · rw [getD_set_ne false (Ne.symm hpq)]; exact hlp
      · exact ⟨b, cs, hb1, hb2, setRow_heap _ _ _ _ _ _ hb3, rfl, fun _ => rfl⟩
    · by_cases hip : i = p
      · subst hip
        rw [hop] at ho; cases ho
        have hqn : listed.getD q false = false := by
          cases h : listed.getD q false with
          | false => rfl
          | true => rw [hI.pq h] at hno; cases hno
        unfold Oper.wp
        rw [hopr]
        show MI slot R fixed N i q te cs _ _ (a1.put op.dst _) _
        rw [hd]
        have hba := (Below.refl w1.heap.size w1).alloc (Nat.le_refl _) (.cells z te)
        refine ⟨hI.df, by simp [Act.put, hI.sz], hI.bl.alloc hI.bl.size _, fun x hx => ?_, fun j hjp hjq hj => ?_, fun h => ?_, fun _ => ?_⟩
        · have := hI.fx x hx
          simp only [Act.put]
          rw [← this]
          simp [Array.getElem?_setIfInBounds_ne (Ne.symm (hfk x hx))]
        · rw [getD_set_ne false (Ne.symm hjp)] at hj
          have hjs : j < ops.size := by
            rcases Nat.lt_or_ge j listed.size with h | h
            · omega
            · simp [Array.getElem?_eq_none h] at hj
          have hne : slot i ≠ slot j := fun e => hjp (hinj j hjs hjq e).symm
          simp only [Act.put]
          have := hper j _ _ _ (hI.rs j hjp hjq hj) hba
          simpa [Array.getElem?_setIfInBounds_ne hne] using this
        · rw [getD_set_ne false hpq] at h
          rw [hqn] at h; cases h
        · refine ⟨w1.heap.size, z, ?_, hI.bl.size, ?_, hzs, fun h => ?_⟩
          · simp only [Act.put]
            have hz : slot i < a1.tmps.size := by rw [hI.sz]; exact hsl
            simp [hz]
          · show (w1.heap.push _)[w1.heap.size]? = _
            simp
          · rw [getD_set_ne false hpq] at h
            rw [hqn] at h; cases h
      · have hok := hstep.at (P := P) ops.toList 0 i o (by simpa using ho) (by omega) (by omega) a1 w1 hI.bl hI.fx (fun e he hbd hne hnq => hI.rs _ hne hnq (hdep e he hbd))
        rw [Nat.zero_add] at hok
        refine hok.wp fun v w'' hp => ?_
        rw [hd]
        refine ⟨hI.df, by simp [Act.put, hI.sz], hI.bl.trans (hp.1.mono hI.bl.size), fun x hx => ?_, fun j hjp hjq hj => ?_, fun h => ?_, fun h => ?_⟩
        · have := hI.fx x hx
          simp only [Act.put]
          rw [← this]
          simp [Array.getElem?_setIfInBounds_ne (Ne.symm (hfk x hx))]
        · by_cases hji : i = j
          · subst hji
            simp only [Act.put]
            have hz : slot i < a1.tmps.size := by rw [hI.sz]; exact hsl
            simpa [hz] using hp.2
          · rw [getD_set_ne false hji] at hj
            have hjs : j < ops.size := by
              rcases Nat.lt_or_ge j listed.size with h | h
              · omega
              · simp [Array.getElem?_eq_none h] at hj
            have hne : slot i ≠ slot j := fun e => hji (hinj j hjs hjq e)
            simp only [Act.put]
            have := hper j _ _ _ (hI.rs j hjp hjq hj) hp.1
            simpa [Array.getElem?_setIfInBounds_ne hne] using this
        · rw [getD_set_ne false hiq] at h
          rw [getD_set_ne false hip]; exact hI.pq h
        · rw [getD_set_ne false hip] at h
          obtain ⟨b, c, hb1, hb2, hb3, hb4, hb5⟩ := hI.al h
          have hne : slot i ≠ slot p := fun e => hip (hinj p hpl hpq e)
          refine ⟨b, c, ?_, hb2, ?_, hb4, fun h' => hb5 (by rw [getD_set_ne false hiq] at h'; exact h')⟩
          · simp only [Act.put]
            simpa [Array.getElem?_setIfInBounds_ne hne] using hb1
          · rw [hp.1.block b ((Array.getElem?_eq_some_iff.1 hb3).1)]; exact hb3
  · intro listed a1 w1 hI hall'
    obtain ⟨b, c, hb1, hb2, hb3, hb4, hb5⟩ := hI.al (hall' p hpl)
    have := hb5 (hall' q hql)
    subst this
    exact hend a1 w1 b hI.df hI.sz hI.bl hI.fx (fun j hj hjp hjq => hI.rs j hjp hjq (hall' j hj)) hb1 hb2 hb3
  · intro j _ _ hj; simp [Array.getElem?_replicate] at hj; split at hj <;> simp at hj
  · intro hj; simp [Array.getElem?_replicate] at hj; split at hj <;> simp at hj
  · intro hj; simp [Array.getElem?_replicate] at hj; split at hj <;> simp at hj
end

section
variable {P : Program} {ops : Array Oper} {Q : Exit → Act → World → Prop}

/-- Each operation, once; of the operations ahead those that bind count. -/
def StepAll2 (P : Program) (slot : Nat → Nat) (R : Nat → Value → World → Prop) (fixed : List (Nat × Value)) (w0 : World) : Nat → List Oper → Prop
  | _, [] => True
  | i, o :: rest => (∀ a w, Below w0.heap.size w0 w → (∀ x ∈ fixed, a.tmps.getD x.1 undef = x.2) → (∀ e ∈ o.after, Region.binds .any e = true → R e.on (a.tmps.getD (slot e.on) undef) w) → StepOk P o a w fun v w' => Below w.heap.size w w' ∧ R i v w') ∧ StepAll2 P slot R fixed w0 (i + 1) rest

theorem StepAll2.at {slot : Nat → Nat} {R : Nat → Value → World → Prop} {fixed : List (Nat × Value)} {w0 : World} : ∀ (l : List Oper) (k i : Nat) (o : Oper), StepAll2 P slot R fixed w0 k l → l[i]? = some o →
    ∀ a w, Below w0.heap.size w0 w → (∀ x ∈ fixed, a.tmps.getD x.1 undef = x.2) → (∀ e ∈ o.after, Region.binds .any e = true → R e.on (a.tmps.getD (slot e.on) undef) w) → StepOk P o a w fun v w' => Below w.heap.size w w' ∧ R (k + i) v w' := by
  intro l
  induction l with
  | nil => intro k i o _ hi; simp at hi
  | cons x l ih =>
    intro k i o h hi
    cases i with
    | zero =>
      simp at hi
      subst hi
      exact h.1
    | succ i =>
      have := ih (k + 1) i o h.2 (by simpa using hi)
      rw [show k + (i + 1) = k + 1 + i by omega]
      exact this

def regOk2 (ops : Array Oper) (slot : Nat → Nat) (N : Nat) (keys : List Nat) : Bool :=
  (List.range ops.size).all fun i => match ops[i]? with
    | none => true
    | some o => o.dst == some (slot i) && decide (slot i < N) && o.guard.isNone && keys.all (fun k => k != slot i) && o.after.all (fun e => !Region.binds .any e || decide (e.on < i)) && (List.range ops.size).all fun j => slot i != slot j || i == j

theorem wp_region_each2 {id : Nat} {a : Act} {w : World} (hm : P.follows .mixedOrders = true) (slot : Nat → Nat) (R : Nat → Value → World → Prop) (fixed : List (Nat × Value)) (N : Nat) (keys : List Nat)
    (hok : regOk2 ops slot N keys = true) (hk : fixed.map Prod.fst = keys)
    (ha : a.defers = []) (hN : a.tmps.size = N) (hfx : ∀ p ∈ fixed, a.tmps.getD p.1 undef = p.2)
    (hper : ∀ j v w w', R j v w → Below w.heap.size w w' → R j v w')
    (hstep : StepAll2 P slot R fixed { w with drawn := w.drawn + 1 } 0 ops.toList)
    (hend : ∀ a w', a.defers = [] → a.tmps.size = N → Below w.heap.size { w with drawn := w.drawn + 1 } w' → (∀ p ∈ fixed, a.tmps.getD p.1 undef = p.2) → (∀ j, j < ops.size → R j (a.tmps.getD (slot j) undef) w') → Q .normal a w') :
    (Code.region id ops true).wp P Q a w := by
  unfold regOk2 at hok
  rw [List.all_eq_true] at hok
  have hops : ∀ (i : Nat) (o : Oper), ops[i]? = some o → o.dst = some (slot i) ∧ slot i < N ∧ o.guard = none ∧ (∀ x ∈ fixed, x.1 ≠ slot i) ∧ (∀ e ∈ o.after, Region.binds .any e = true → e.on < i) ∧ ∀ j, j < ops.size → slot i = slot j → i = j := by
    intro i o ho
    have his : i < ops.size := (Array.getElem?_eq_some_iff.1 ho).1
    have := hok i (List.mem_range.2 his)
    simp only [ho, Bool.and_eq_true, beq_iff_eq, decide_eq_true_eq, Option.isNone_iff_eq_none, List.all_eq_true, bne_iff_ne, ne_eq, Array.all_eq_true_iff_forall_mem, Bool.or_eq_true, List.mem_range, Bool.not_eq_true'] at this
    obtain ⟨⟨⟨⟨⟨h1, h2⟩, h3⟩, h4⟩, h5⟩, h6⟩ := this
    refine ⟨h1, h2, h3, fun x hx => h4 x.1 (by rw [← hk]; exact List.mem_map_of_mem hx), fun e he hbd => (h5 e he).elim (fun h => by rw [hbd] at h; cases h) (fun h => h), fun j hj he => ?_⟩
    rcases h6 j hj with h | h
    · exact absurd he h
    · exact h
  refine wp_region_any hm (wpAny_inv2 (RI slot R fixed N { w with drawn := w.drawn + 1 }) (fun i o e ho he hbd => (hops i o ho).2.2.2.2.1 e he hbd) ?_ ?_ ops.size _ _ _ (by simp) (by unfold todo; exact Nat.le_trans (List.countP_le_length ..) (by simp)) ⟨ha, hN, Below.refl _ _, hfx, fun j hj => by simp [Array.getElem?_replicate] at hj; split at hj <;> simp at hj⟩)
  · intro listed a w' i o hI hs ho _ hall
    obtain ⟨h1, h2, h3, h4, h5, h6⟩ := hops i o ho
    have his : i < ops.size := (Array.getElem?_eq_some_iff.1 ho).1
    have hok := hstep.at (P := P) ops.toList 0 i o (by simpa using ho) a w' hI.bl hI.fx (fun e he hbd => hI.rs _ (hall e he hbd))
    rw [Nat.zero_add] at hok
    unfold wpOp
    simp only [ho, Region.wanted, h3, if_true]
    refine .inl (hok.wp fun v w'' hp => ?_)
    rw [h1]
    refine ⟨hI.df, by simp [Act.put, hI.sz], hI.bl.trans (hp.1.mono hI.bl.size), fun p hp' => ?_, fun j hj => ?_⟩
    · have := hI.fx p hp'
      simp only [Act.put]
      rw [← this]
      simp [Array.getElem?_setIfInBounds_ne (Ne.symm (h4 p hp'))]
    · by_cases hji : i = j
      · subst hji
        simp only [Act.put]
        have hz : slot i < a.tmps.size := by rw [hI.sz]; exact h2
        simpa [hz] using hp.2
      · rw [getD_set_ne false hji] at hj
        have hjs : j < ops.size := by
          rcases Nat.lt_or_ge j listed.size with h | h
          · omega
          · simp [Array.getElem?_eq_none h] at hj
        have hsl : slot i ≠ slot j := fun e => hji (h6 j hjs e)
        simp only [Act.put]
        have := hper j _ _ _ (hI.rs j hj) hp.1
        simpa [Array.getElem?_setIfInBounds_ne hsl] using this
  · intro listed a w' hI hall
    exact hend a w' hI.df hI.sz hI.bl hI.fx (fun j hj => hI.rs j (hall j hj))
end

theorem arr_of (t : Array Value) (n : Nat) (h : t.size = n) : t = ((List.range n).map fun i => t.getD i undef).toArray := by
  apply Array.ext
  · simp [h]
  · intro i h1 h2
    simp [h1]

theorem arr47 (t : Array Value) (h : t.size = 47) : ∃ u0 u1 u2 u3 u4 u5 u6 u7 u8 u9 u10 u11 u12 u13 u14 u15 u16 u17 u18 u19 u20 u21 u22 u23 u24 u25 u26 u27 u28 u29 u30 u31 u32 u33 u34 u35 u36 u37 u38 u39 u40 u41 u42 u43 u44 u45 u46 : Value, t = #[u0, u1, u2, u3, u4, u5, u6, u7, u8, u9, u10, u11, u12, u13, u14, u15, u16, u17, u18, u19, u20, u21, u22, u23, u24, u25, u26, u27, u28, u29, u30, u31, u32, u33, u34, u35, u36, u37, u38, u39, u40, u41, u42, u43, u44, u45, u46] := ⟨_, _, _, _, _, _, _, _, _, _, _, _, _, _, _, _, _, _, _, _, _, _, _, _, _, _, _, _, _, _, _, _, _, _, _, _, _, _, _, _, _, _, _, _, _, _, _, (arr_of t 47 h).trans rfl⟩
end Go.Proofs.YtcegdgmbponapaaGreatDoor

namespace Go.Proofs.YtcegdgmbponapaaGreatDoor
open Go.RowKit
attribute [local go_sem ↓] Go.wp_at_zero Go.wp_at_succ

def pieceSlot (i : Nat) : Nat := if i < 9 then i + 12 else if i = 9 then 21 else if i = 10 then 11 else if i = 11 then 22 else if i = 12 then 23 else if i = 13 then 8 else if i = 14 then 99 else 9

/-- What the operations of 'the record is asked for' find, one by one. -/
def askR (V B bc n i s W : Nat) (nm : ByteArray) (r : RecV) : Nat → Value → World → Prop
  | 0, v, _ => v = .pointer (some ⟨V, 0, none⟩)
  | 1, v, _ => v = .pointer (some ⟨V, 0, none⟩)
  | 2, v, _ => v = .pointer (some ⟨V, 1, none⟩)
  | 3, v, _ => v = .slice (some ⟨B, 0, none⟩) n bc
  | 4, v, _ => v = .int .i64 i
  | 5, v, _ => v = .pointer (some ⟨B, i, none⟩)
  | 6, v, _ => v = .pointer (some ⟨s, 0, none⟩)
  | 7, v, _ => v = .pointer (some ⟨W, 0, none⟩)
  | 8, v, _ => v = .string nm
  | 9, v, _ => v = .tuple #[.agg #[.string r.name, .int .i64 r.mode, .int .i64 r.t, .int .i64 r.l, .int .i64 r.size, .int .i64 r.epoch, .slice r.sa r.sn r.sc, .slice r.na r.nn r.nc], .nilIface]
  | 10, v, _ => v = .tuple #[.agg #[.string r.name, .int .i64 r.mode, .int .i64 r.t, .int .i64 r.l, .int .i64 r.size, .int .i64 r.epoch, .slice r.sa r.sn r.sc, .slice r.na r.nn r.nc], .nilIface]
  | 11, v, _ => v = .agg #[.string r.name, .int .i64 r.mode, .int .i64 r.t, .int .i64 r.l, .int .i64 r.size, .int .i64 r.epoch, .slice r.sa r.sn r.sc, .slice r.na r.nn r.nc]
  | 12, v, _ => v = .nilIface
  | 15, v, _ => v = .nilIface
  | _, _, _ => True

theorem askR_any {V B bc n i s W : Nat} {nm : ByteArray} {r : RecV} {j : Nat} {v : Value} {w w' : World} (h : askR V B bc n i s W nm r j v w) : askR V B bc n i s W nm r j v w' := by
  unfold askR at h ⊢
  split at h <;> exact h

def takeSlot (i : Nat) : Nat := if i < 11 then i + 30 else if i = 11 then 29 else if i = 12 then 41 else if i = 13 then 42 else if i = 14 then 10 else 9

/-- What the operations of 'the piece is taken out' find, one by one. -/
def takeR (V n i b key mode t l size epoch len W : Nat) (sa : Option Addr) (sn sc : Nat) (nm : ByteArray) (P : List UInt8) : Nat → Value → World → Prop
  | 0, v, _ => v = .pointer (some ⟨V, 0, none⟩)
  | 1, v, _ => v = .int .i64 i
  | 2, v, _ => v = .agg #[.string nm, .int .i64 mode, .int .i64 t, .int .i64 l, .int .i64 size, .int .i64 epoch]
  | 3, v, _ => v = .agg #[.string nm, .int .i64 mode, .int .i64 t, .int .i64 l, .int .i64 size, .int .i64 epoch, .int .i64 n, .int .i64 i]
  | 4, v, _ => v = .pointer (some ⟨b, 6, none⟩)
  | 5, v, _ => v = .slice sa sn sc
  | 6, v, _ => v = .pointer (some ⟨V, 0, none⟩)
  | 7, v, _ => v = .pointer (some ⟨V, 0, none⟩)
  | 8, v, _ => v = .pointer (some ⟨V, 0, none⟩)
  | 9, v, _ => v = .int .u64 key
  | 10, v, w => ∃ pv, v = .tuple #[pv, .nilIface] ∧ w.ownsRow W 5 1 pv len (bs P)
  | 11, v, w => ∃ pv, v = .tuple #[pv, .nilIface] ∧ w.ownsRow W 5 1 pv len (bs P)
  | 12, v, w => w.ownsRow W 5 1 v len (bs P)
  | 13, v, _ => v = .nilIface
  | 14, v, w => w.ownsRow W 5 1 v len (bs P)
  | 15, v, _ => v = .nilIface
  | _, _, _ => True

theorem takeR_keeps {V n i b key mode t l size epoch len W : Nat} {sa : Option Addr} {sn sc : Nat} {nm : ByteArray} {P : List UInt8} (j : Nat) (v : Value) (w w' : World) (h : takeR V n i b key mode t l size epoch len W sa sn sc nm P j v w) (hb : Below w.heap.size w w') : takeR V n i b key mode t l size epoch len W sa sn sc nm P j v w' := by
  unfold takeR at h ⊢
  split at h
  · exact h
  · exact h
  · exact h
  · exact h
  · exact h
  · exact h
  · exact h
  · exact h
  · exact h
  · exact h
  · exact h.imp fun pv h => ⟨h.1, owns_below_size h.2 hb (Nat.le_refl _)⟩
  · exact h.imp fun pv h => ⟨h.1, owns_below_size h.2 hb (Nat.le_refl _)⟩
  · exact owns_below_size h hb (Nat.le_refl _)
  · exact h
  · exact owns_below_size h hb (Nat.le_refl _)
  · exact h
  · trivial

set_option maxRecDepth 100000 in
theorem atStore_nil (z : Int) (w : World) (hz : I64 z) (hT : Tab w) :
    Calls Tryz.prog 136 #[.int .i64 z, .nilIface] w fun ev w' => ev = .returned .nilIface ∧ Below w.heap.size w w' := by
  have HT := hid hT
  have HZ := hid hz
  clear hT hz
  go_enter Tryz.func136, Tryz.ntmps136
  go_wp2_with (first | (go_at_call 174; refine (itoa_any z HZ.out _ HT.out).mono ?_; rintro e w1 ⟨s, rfl, hs, hb1⟩) | (go_at_call 78; refine (at_nil _ _).mono ?_; rintro e w2 ⟨rfl, rfl⟩))
  go_ret
  exact ⟨rfl, hb1⟩

set_option maxRecDepth 100000 in
set_option maxHeartbeats 1000000 in
theorem vpiece_good (V key n B bc : Nat) (sp : Nat → Nat) (i : Nat) (down : Bool) (a : Option Addr) (c : Nat) (rs : List RecV) (r : RecV) (mode t l size epoch : Nat) (nm : ByteArray) (w : World) (h : Rdy w V key n B bc sp) (hi : i < n) (hs : St w (sp i) down a c rs) (hyes : hasName rs nm = true) (hr : r = rs[posOf rs nm]!)
    (len : Nat) (hlen : len = Cof.ngroups mode t l size) (X P : List UInt8) (hp : IsPlan mode t l n) (he : epoch ≤ 100) (hz : size ≤ 60) (hn1 : 1 ≤ nm.size) (hnm : nm.size ≤ 12) (hk : key < 18446744073709551616) (hl : len ≤ 60) (hX : Rd w r.sa (bs X)) (hsn : r.sn = X.length) (hsc : r.sn ≤ r.sc) (hgood : Cof.Good key (Cof.head mode t l n i epoch size nm.data.toList) len X P) (hT : Tab w) :
    Calls Tryz.prog 132 #[.pointer (some ⟨V, 0, none⟩), .int .i64 i, .agg #[.string nm, .int .i64 mode, .int .i64 t, .int .i64 l, .int .i64 size, .int .i64 epoch]] w fun e w' =>
      ∃ pv, e = .returned (.tuple #[pv, .nilIface]) ∧ w'.ownsRow w.heap.size 5 1 pv len (bs P) ∧ Below w.heap.size w w' := by
  have hXl : X.length = 10 + nm.size + len + 8 := by
    obtain ⟨h1, rfl⟩ := hgood
    unfold Cof.sealed
    simp [Cof.length_head, Cof.length_high, h1]
    omega
  obtain ⟨xb, xo, hsa, _, _⟩ := hX.pos (by rw [bs_length]; omega)
  rw [hsa] at hX
  have HPC := hid (fun w' hx => piece_same mode t l n i epoch size key len hlen nm xb xo r.sn r.sc X w' hp hi he hz hn1 hnm hk hl hsn hsc (by omega) hx)
  have HX := hid hX
  have HG := hid hgood
  have HT := hid hT
  have HSA := hid hsa
  have hi8 := hi
  have hba := (Below.refl w.heap.size w).alloc (Nat.le_refl _) (.cells #[.string nm, .int .i64 mode, .int .i64 t, .int .i64 l, .int .i64 size, .int .i64 epoch] 55)
  have hR := h.keeps hba (Nat.le_refl _)
  have HR := hid hR
  have HS := hid (hs.keeps hba (Nat.le_refl _))
  have HYES := hid (And.intro hyes hr)
  have hi' : (i : Int) < (n : Int) := by omega
  have HI := hid (show I64 (i : Int) by have := h.n8; unfold I64; omega)
  clear h hs hyes hr hp he hz hk hX hsn hsc hgood hT hlen hXl
  go_enter Tryz.func132, Tryz.ntmps132
  go_wp2_with fail
  obtain ⟨w1, hw1⟩ : ∃ w1, w1 = w.alloc (.cells #[.string nm, .int .i64 mode, .int .i64 t, .int .i64 l, .int .i64 size, .int .i64 epoch] 55) := ⟨_, rfl⟩
  have HOBJ := hid (show w1.heap[w.heap.size]? = some (.cells #[.string nm, .int .i64 mode, .int .i64 t, .int .i64 l, .int .i64 size, .int .i64 epoch] 55) by rw [hw1]; exact alloc_at _ _)
  have o0 : w1.cell? ⟨w.heap.size, 0, none⟩ = some (.string nm) := by rw [hw1]; simp
  have lO : w.heap.size < w1.heap.size := by rw [hw1]; simp
  rw [← hw1] at hR HR HS hba ⊢
  clear hw1
  have c1 := hR.va.c1
  have k0 := hR.st i hi
  have lV := hR.va.lt
  have lB := hR.va.bl
  clear hR
  have HFX : ∀ a : Act, (∀ x ∈ [((0 : Nat), Value.pointer (some ⟨V, 0, none⟩)), (1, .int .i64 i), (5, .pointer (some ⟨w.heap.size, 0, none⟩))], a.tmps.getD x.1 undef = x.2) → a.tmps[0]?.getD undef = .pointer (some ⟨V, 0, none⟩) ∧ a.tmps[1]?.getD undef = .int .i64 i ∧ a.tmps[5]?.getD undef = .pointer (some ⟨w.heap.size, 0, none⟩) := by
    intro a h
    simpa using h
  have HCELL : ∀ w' : World, Below w1.heap.size { w1 with drawn := w1.drawn + 1 } w' → w'.cell? ⟨V, 1, none⟩ = some (.slice (some ⟨B, 0, none⟩) n bc) ∧ w'.cell? ⟨B, i, none⟩ = some (.pointer (some ⟨sp i, 0, none⟩)) ∧ w'.cell? ⟨w.heap.size, 0, none⟩ = some (.string nm) := by
    intro w' hb
    exact ⟨(hb.cell lV).trans c1, (hb.cell lB).trans k0, (hb.cell lO).trans o0⟩
  clear c1 k0 o0
  refine wp_region_mem (by kernel_rfl) pieceSlot (askR V B bc n i (sp i) w.heap.size nm r) [(0, .pointer (some ⟨V, 0, none⟩)), (1, .int .i64 i), (5, .pointer (some ⟨w.heap.size, 0, none⟩))] 47 13 14 [0, 1, 5] 152 #[.string r.name, .int .i64 r.mode, .int .i64 r.t, .int .i64 r.l, .int .i64 r.size, .int .i64 r.epoch, .slice r.sa r.sn r.sc, .slice r.na r.nn r.nc] #[.string ByteArray.empty, .int .i64 0, .int .i64 0, .int .i64 0, .int .i64 0, .int .i64 0, .slice none 0 0, .slice none 0 0] (.tmp 8) (.tmp 22) (by kernel_rfl) rfl ⟨_, rfl, fun a w => by go_simp <;> rfl⟩ rfl ⟨_, rfl, rfl, fun a => rfl, fun a w h => ?_⟩ Tryz.cellsRec (by simp [Value.oneCell']) rfl rfl ?_ (fun j v w w' h _ => askR_any h) (fun j v w' b c _ h _ => askR_any h) ?_ ?_
  · have h11 := h ⟨11, .data⟩ (by simp) rfl (by decide) (by decide)
    simp [askR, pieceSlot] at h11
    simp [Act.eval]
    exact h11
  · simp
  · refine ⟨?_, ?_, ?_, ?_, ?_, ?_, ?_, ?_, ?_, ?_, ?_, ?_, ?_, ?_, ?_, ?_, trivial⟩
    · refine .inr (.inr fun a w' hb hf hd => ?_)
      obtain ⟨f0, f1, f5⟩ := HFX a hf
      obtain ⟨c1, k0, o0⟩ := HCELL w' hb
      simp [askR, pieceSlot, Region.binds] at hd
      exact .inl ⟨.pointer (some ⟨V, 0, none⟩), w', by go_simp, Below.refl _ _, rfl⟩
    · refine .inr (.inr fun a w' hb hf hd => ?_)
      obtain ⟨f0, f1, f5⟩ := HFX a hf
      obtain ⟨c1, k0, o0⟩ := HCELL w' hb
      simp [askR, pieceSlot, Region.binds] at hd
      exact .inl ⟨.pointer (some ⟨V, 0, none⟩), w', by go_simp, Below.refl _ _, rfl⟩
    · refine .inr (.inr fun a w' hb hf hd => ?_)
      obtain ⟨f0, f1, f5⟩ := HFX a hf
      obtain ⟨c1, k0, o0⟩ := HCELL w' hb
      simp [askR, pieceSlot, Region.binds] at hd
      exact .inl ⟨.pointer (some ⟨V, 1, none⟩), w', by go_simp, Below.refl _ _, rfl⟩
    · refine .inr (.inr fun a w' hb hf hd => ?_)
      obtain ⟨f0, f1, f5⟩ := HFX a hf
      obtain ⟨c1, k0, o0⟩ := HCELL w' hb
      simp [askR, pieceSlot, Region.binds] at hd
      exact .inl ⟨.slice (some ⟨B, 0, none⟩) n bc, w', by go_simp, Below.refl _ _, rfl⟩
    · refine .inr (.inr fun a w' hb hf hd => ?_)
      obtain ⟨f0, f1, f5⟩ := HFX a hf
      obtain ⟨c1, k0, o0⟩ := HCELL w' hb
      simp [askR, pieceSlot, Region.binds] at hd
      exact .inl ⟨.int .i64 i, w', by go_simp, Below.refl _ _, rfl⟩
    · refine .inr (.inr fun a w' hb hf hd => ?_)
      obtain ⟨f0, f1, f5⟩ := HFX a hf
      obtain ⟨c1, k0, o0⟩ := HCELL w' hb
      simp [askR, pieceSlot, Region.binds] at hd
      exact .inl ⟨.pointer (some ⟨B, i, none⟩), w', by go_simp, Below.refl _ _, rfl⟩
    · refine .inr (.inr fun a w' hb hf hd => ?_)
      obtain ⟨f0, f1, f5⟩ := HFX a hf
      obtain ⟨c1, k0, o0⟩ := HCELL w' hb
      simp [askR, pieceSlot, Region.binds] at hd
      exact .inl ⟨.pointer (some ⟨sp i, 0, none⟩), w', by go_simp, Below.refl _ _, rfl⟩
    · refine .inr (.inr fun a w' hb hf hd => ?_)
      obtain ⟨f0, f1, f5⟩ := HFX a hf
      obtain ⟨c1, k0, o0⟩ := HCELL w' hb
      simp [askR, pieceSlot, Region.binds] at hd
      exact .inl ⟨.pointer (some ⟨w.heap.size, 0, none⟩), w', by go_simp, Below.refl _ _, rfl⟩
    · refine .inr (.inr fun a w' hb hf hd => ?_)
      obtain ⟨f0, f1, f5⟩ := HFX a hf
      obtain ⟨c1, k0, o0⟩ := HCELL w' hb
      simp [askR, pieceSlot, Region.binds] at hd
      exact .inl ⟨.string nm, w', by go_simp, Below.refl _ _, rfl⟩
    · refine .inr (.inr fun a w' hb hf hd => ?_)
      obtain ⟨f0, f1, f5⟩ := HFX a hf
      obtain ⟨c1, k0, o0⟩ := HCELL w' hb
      simp [askR, pieceSlot, Region.binds] at hd
      refine .inr ⟨85, #[.pointer (some ⟨sp i, 0, none⟩), .string nm], by go_simp, (record_yes (sp i) down _ c rs r nm w' (HS.out.keeps ((Below.refl w1.heap.size w1).drew.trans hb) (Nat.le_refl _)) HYES.out.1 HYES.out.2).mono ?_⟩
      rintro e w'' ⟨rfl, hb2⟩
      exact ⟨_, rfl, hb2, rfl⟩
    · refine .inr (.inr fun a w' hb hf hd => ?_)
      obtain ⟨f0, f1, f5⟩ := HFX a hf
      obtain ⟨c1, k0, o0⟩ := HCELL w' hb
      simp [askR, pieceSlot, Region.binds] at hd
      exact .inl ⟨.tuple #[.agg #[.string r.name, .int .i64 r.mode, .int .i64 r.t, .int .i64 r.l, .int .i64 r.size, .int .i64 r.epoch, .slice r.sa r.sn r.sc, .slice r.na r.nn r.nc], .nilIface], w', by go_simp, Below.refl _ _, rfl⟩
    · refine .inr (.inr fun a w' hb hf hd => ?_)
      obtain ⟨f0, f1, f5⟩ := HFX a hf
      obtain ⟨c1, k0, o0⟩ := HCELL w' hb
      simp [askR, pieceSlot, Region.binds] at hd
      exact .inl ⟨.agg #[.string r.name, .int .i64 r.mode, .int .i64 r.t, .int .i64 r.l, .int .i64 r.size, .int .i64 r.epoch, .slice r.sa r.sn r.sc, .slice r.na r.nn r.nc], w', by go_simp, Below.refl _ _, rfl⟩
    · refine .inr (.inr fun a w' hb hf hd => ?_)
      obtain ⟨f0, f1, f5⟩ := HFX a hf
      obtain ⟨c1, k0, o0⟩ := HCELL w' hb
      simp [askR, pieceSlot, Region.binds] at hd
      exact .inl ⟨.nilIface, w', by go_simp, Below.refl _ _, rfl⟩
    · exact .inl rfl
    · exact .inr (.inl rfl)
    · refine .inr (.inr fun a w' hb hf hd => ?_)
      obtain ⟨f0, f1, f5⟩ := HFX a hf
      obtain ⟨c1, k0, o0⟩ := HCELL w' hb
      simp [askR, pieceSlot, Region.binds] at hd
      exact .inl ⟨.nilIface, w', by go_simp, Below.refl _ _, rfl⟩
  · intro a1 w2 b hdf hsz hb hf hr hb1 hb2 hb3
    obtain ⟨tm, df⟩ := a1
    simp only at hdf hsz hf hr hb1
    subst hdf
    obtain ⟨u0, u1, u2, u3, u4, u5, u6, u7, u8, u9, u10, u11, u12, u13, u14, u15, u16, u17, u18, u19, u20, u21, u22, u23, u24, u25, u26, u27, u28, u29, u30, u31, u32, u33, u34, u35, u36, u37, u38, u39, u40, u41, u42, u43, u44, u45, u46, rfl⟩ := arr47 tm hsz
    have r15 := hr 15 (by decide) (by decide) (by decide)
    simp [askR, pieceSlot] at r15 hb1 hf
    obtain ⟨rfl, rfl, rfl⟩ := hf
    subst r15 hb1
    clear hr hsz
    go_wp2_with fail
    have hb12 : Below w1.heap.size w1 w2 := (Below.refl w1.heap.size w1).drew.trans hb
    have hRd := HR.out.keeps hb12 (Nat.le_refl _)
    have c0 := hRd.va.c0
    have HRD := hid hRd
    have lV2 := hRd.va.lt
    have hbW : Below w.heap.size w w2 := hba.trans (hb12.mono (by omega))
    have HOB2 := hid (show w2.heap[w.heap.size]? = _ from (hb12.block _ lO).trans HOBJ.out)
    have lb := cells_lt hb3
    have HFX2 : ∀ a : Act, (∀ x ∈ [((0 : Nat), Value.pointer (some ⟨V, 0, none⟩)), (1, .int .i64 i), (5, .pointer (some ⟨w.heap.size, 0, none⟩)), (8, .pointer (some ⟨b, 0, none⟩))], a.tmps.getD x.1 undef = x.2) → a.tmps[0]?.getD undef = .pointer (some ⟨V, 0, none⟩) ∧ a.tmps[1]?.getD undef = .int .i64 i ∧ a.tmps[5]?.getD undef = .pointer (some ⟨w.heap.size, 0, none⟩) ∧ a.tmps[8]?.getD undef = .pointer (some ⟨b, 0, none⟩) := by
      intro a h
      simpa using h
    have HCELL2 : ∀ w' : World, Below w2.heap.size { w2 with drawn := w2.drawn + 1 } w' → w'.cell? ⟨V, 0, none⟩ = some (.int .u64 key) ∧ w'.cell? ⟨b, 6, none⟩ = some (.slice r.sa r.sn r.sc) ∧ w'.cell? ⟨w.heap.size, 0, none⟩ = some (.string nm) ∧ w'.cell? ⟨w.heap.size, 1, none⟩ = some (.int .i64 mode) ∧ w'.cell? ⟨w.heap.size, 2, none⟩ = some (.int .i64 t) ∧ w'.cell? ⟨w.heap.size, 3, none⟩ = some (.int .i64 l) ∧ w'.cell? ⟨w.heap.size, 4, none⟩ = some (.int .i64 size) ∧ w'.cell? ⟨w.heap.size, 5, none⟩ = some (.int .i64 epoch) := by
      intro w' hb'
      have lO2 : w.heap.size < w2.heap.size := cells_lt HOB2.out
      have e : ∀ o, w'.cell? ⟨w.heap.size, o, none⟩ = w2.cell? ⟨w.heap.size, o, none⟩ := fun o => hb'.cell lO2
      exact ⟨(hb'.cell lV2).trans c0, (hb'.cell lb).trans (show w2.cell? ⟨b, 6, none⟩ = _ by rw [cells_at hb3]; rfl), by rw [e, cells_at HOB2.out]; rfl, by rw [e, cells_at HOB2.out]; rfl, by rw [e, cells_at HOB2.out]; rfl, by rw [e, cells_at HOB2.out]; rfl, by rw [e, cells_at HOB2.out]; rfl, by rw [e, cells_at HOB2.out]; rfl⟩
    clear hRd c0 hb3
    refine wp_region_each2 (by kernel_rfl) takeSlot (takeR V n i b key mode t l size epoch len w.heap.size r.sa r.sn r.sc nm P) [(0, .pointer (some ⟨V, 0, none⟩)), (1, .int .i64 i), (5, .pointer (some ⟨w.heap.size, 0, none⟩)), (8, .pointer (some ⟨b, 0, none⟩))] 47 [0, 1, 5, 8] (by kernel_rfl) rfl rfl rfl ?_ takeR_keeps ?_ ?_
    · simp
    · refine ⟨?_, ?_, ?_, ?_, ?_, ?_, ?_, ?_, ?_, ?_, ?_, ?_, ?_, ?_, ?_, ?_, trivial⟩
      · intro a w' hb' hf hd
        obtain ⟨f0, f1, f5, f8⟩ := HFX2 a hf
        obtain ⟨q0, q1, k0, k1, k2, k3, k4, k5⟩ := HCELL2 w' hb'
        simp [takeR, takeSlot, Region.binds] at hd
        exact .inl ⟨.pointer (some ⟨V, 0, none⟩), w', by go_simp, Below.refl _ _, rfl⟩
      · intro a w' hb' hf hd
        obtain ⟨f0, f1, f5, f8⟩ := HFX2 a hf
        obtain ⟨q0, q1, k0, k1, k2, k3, k4, k5⟩ := HCELL2 w' hb'
        simp [takeR, takeSlot, Region.binds] at hd
        exact .inl ⟨.int .i64 i, w', by go_simp, Below.refl _ _, rfl⟩
      · intro a w' hb' hf hd
        obtain ⟨f0, f1, f5, f8⟩ := HFX2 a hf
        obtain ⟨q0, q1, k0, k1, k2, k3, k4, k5⟩ := HCELL2 w' hb'
        simp [takeR, takeSlot, Region.binds] at hd
        exact .inl ⟨.agg #[.string nm, .int .i64 mode, .int .i64 t, .int .i64 l, .int .i64 size, .int .i64 epoch], w', by go_simp, Below.refl _ _, rfl⟩
      · intro a w' hb' hf hd
        obtain ⟨f0, f1, f5, f8⟩ := HFX2 a hf
        obtain ⟨q0, q1, k0, k1, k2, k3, k4, k5⟩ := HCELL2 w' hb'
        simp [takeR, takeSlot, Region.binds] at hd
        refine .inr ⟨137, #[.pointer (some ⟨V, 0, none⟩), .int .i64 i, .agg #[.string nm, .int .i64 mode, .int .i64 t, .int .i64 l, .int .i64 size, .int .i64 epoch]], by go_simp, (label_any V key n B 0 bc sp i mode t l size epoch nm w' (HRD.out.va.keeps ((Below.refl w2.heap.size w2).drew.trans hb') (Nat.le_refl _))).mono ?_⟩
        rintro e w'' ⟨rfl, hb2'⟩
        exact ⟨_, rfl, hb2', rfl⟩
      · intro a w' hb' hf hd
        obtain ⟨f0, f1, f5, f8⟩ := HFX2 a hf
        obtain ⟨q0, q1, k0, k1, k2, k3, k4, k5⟩ := HCELL2 w' hb'
        simp [takeR, takeSlot, Region.binds] at hd
        exact .inl ⟨.pointer (some ⟨b, 6, none⟩), w', by go_simp, Below.refl _ _, rfl⟩
      · intro a w' hb' hf hd
        obtain ⟨f0, f1, f5, f8⟩ := HFX2 a hf
        obtain ⟨q0, q1, k0, k1, k2, k3, k4, k5⟩ := HCELL2 w' hb'
        simp [takeR, takeSlot, Region.binds] at hd
        exact .inl ⟨.slice r.sa r.sn r.sc, w', by go_simp, Below.refl _ _, rfl⟩
      · intro a w' hb' hf hd
        obtain ⟨f0, f1, f5, f8⟩ := HFX2 a hf
        obtain ⟨q0, q1, k0, k1, k2, k3, k4, k5⟩ := HCELL2 w' hb'
        simp [takeR, takeSlot, Region.binds] at hd
        exact .inl ⟨.pointer (some ⟨V, 0, none⟩), w', by go_simp, Below.refl _ _, rfl⟩
      · intro a w' hb' hf hd
        obtain ⟨f0, f1, f5, f8⟩ := HFX2 a hf
        obtain ⟨q0, q1, k0, k1, k2, k3, k4, k5⟩ := HCELL2 w' hb'
        simp [takeR, takeSlot, Region.binds] at hd
        exact .inl ⟨.pointer (some ⟨V, 0, none⟩), w', by go_simp, Below.refl _ _, rfl⟩
      · intro a w' hb' hf hd
        obtain ⟨f0, f1, f5, f8⟩ := HFX2 a hf
        obtain ⟨q0, q1, k0, k1, k2, k3, k4, k5⟩ := HCELL2 w' hb'
        simp [takeR, takeSlot, Region.binds] at hd
        exact .inl ⟨.pointer (some ⟨V, 0, none⟩), w', by go_simp, Below.refl _ _, rfl⟩
      · intro a w' hb' hf hd
        obtain ⟨f0, f1, f5, f8⟩ := HFX2 a hf
        obtain ⟨q0, q1, k0, k1, k2, k3, k4, k5⟩ := HCELL2 w' hb'
        simp [takeR, takeSlot, Region.binds] at hd
        exact .inl ⟨.int .u64 key, w', by go_simp, Below.refl _ _, rfl⟩
      · intro a w' hb' hf hd
        obtain ⟨f0, f1, f5, f8⟩ := HFX2 a hf
        obtain ⟨q0, q1, k0, k1, k2, k3, k4, k5⟩ := HCELL2 w' hb'
        simp [takeR, takeSlot, Region.binds] at hd
        refine .inr ⟨181, #[.agg #[.string nm, .int .i64 mode, .int .i64 t, .int .i64 l, .int .i64 size, .int .i64 epoch, .int .i64 n, .int .i64 i], .slice r.sa r.sn r.sc, .int .u64 key], by go_simp, ?_⟩
        rw [HSA.out]
        refine (HPC.out w' (HX.out.below (hbW.trans (((Below.refl w2.heap.size w2).drew.trans hb').mono hbW.size)) (Nat.le_refl _))).mono ?_
        rintro e w'' ⟨hg, _, hb2'⟩
        obtain ⟨pv, rfl, hown⟩ := hg P HG.out
        exact ⟨_, rfl, hb2', pv, rfl, World.ownsRow.mono hown (by have := hb'.size; have := hbW.size; simp at *; omega)⟩
      · intro a w' hb' hf hd
        obtain ⟨f0, f1, f5, f8⟩ := HFX2 a hf
        obtain ⟨q0, q1, k0, k1, k2, k3, k4, k5⟩ := HCELL2 w' hb'
        simp [takeR, takeSlot, Region.binds] at hd
        obtain ⟨pv, h10, hown⟩ := hd
        exact .inl ⟨.tuple #[pv, .nilIface], w', by go_simp, Below.refl _ _, pv, rfl, hown⟩
      · intro a w' hb' hf hd
        obtain ⟨f0, f1, f5, f8⟩ := HFX2 a hf
        obtain ⟨q0, q1, k0, k1, k2, k3, k4, k5⟩ := HCELL2 w' hb'
        simp [takeR, takeSlot, Region.binds] at hd
        obtain ⟨pv, h11, hown⟩ := hd
        exact .inl ⟨pv, w', by go_simp, Below.refl _ _, hown⟩
      · intro a w' hb' hf hd
        obtain ⟨f0, f1, f5, f8⟩ := HFX2 a hf
        obtain ⟨q0, q1, k0, k1, k2, k3, k4, k5⟩ := HCELL2 w' hb'
        simp [takeR, takeSlot, Region.binds] at hd
        obtain ⟨pv, h11, hown⟩ := hd
        exact .inl ⟨.nilIface, w', by go_simp, Below.refl _ _, rfl⟩
      · intro a w' hb' hf hd
        obtain ⟨f0, f1, f5, f8⟩ := HFX2 a hf
        obtain ⟨q0, q1, k0, k1, k2, k3, k4, k5⟩ := HCELL2 w' hb'
        simp [takeR, takeSlot, Region.binds] at hd
        exact .inl ⟨a.tmps[41]?.getD undef, w', by go_simp, Below.refl _ _, hd.1⟩
      · intro a w' hb' hf hd
        obtain ⟨f0, f1, f5, f8⟩ := HFX2 a hf
        obtain ⟨q0, q1, k0, k1, k2, k3, k4, k5⟩ := HCELL2 w' hb'
        simp [takeR, takeSlot, Region.binds] at hd
        exact .inl ⟨.nilIface, w', by go_simp, Below.refl _ _, rfl⟩
    · intro a2 w3 hdf hsz hb' hf hr
      obtain ⟨tm2, df2⟩ := a2
      simp only at hdf hsz hf hr
      subst hdf
      obtain ⟨x0, x1, x2, x3, x4, x5, x6, x7, x8, x9, x10, x11, x12, x13, x14, x15, x16, x17, x18, x19, x20, x21, x22, x23, x24, x25, x26, x27, x28, x29, x30, x31, x32, x33, x34, x35, x36, x37, x38, x39, x40, x41, x42, x43, x44, x45, x46, rfl⟩ := arr47 tm2 hsz
      have r14 := hr 14 (by decide)
      have r15 := hr 15 (by decide)
      simp [takeR, takeSlot] at r14 r15 hf
      obtain ⟨rfl, rfl, rfl, rfl⟩ := hf
      subst r15
      have H14 := hid r14
      have hb23 : Below w2.heap.size w2 w3 := (Below.refl w2.heap.size w2).drew.trans hb'
      have hbW3 := hbW.trans (hb23.mono hbW.size)
      have HT3 := hid (HT.out.keeps hbW3 (Nat.le_refl _))
      clear hr hsz r14 HFX HFX2 HCELL HCELL2
      go_wp2_with (go_at_call 136; refine (atStore_nil _ _ HI.out HT3.out).mono ?_; rintro e w4 ⟨rfl, hb4⟩)
      go_ret2
      exact ⟨_, rfl, owns_below_size H14.out hb4 (Nat.le_refl _), hbW3.trans (hb4.mono hbW3.size)⟩
end Go.Proofs.YtcegdgmbponapaaGreatDoor
