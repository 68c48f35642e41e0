/-
  Worn: of the shards those of the chosen stores are as they were made, and each other is out of reach or spoilt. What Get answers then.
  cofferkeep.fresh.
-/
import Derived.Test.YtcegdgmbponapaaGreatDoorPart37
import Derived.Test.YtcegdgmbponapaaGreatDoorPart35
namespace Go.Proofs.YtcegdgmbponapaaGreatDoor
open Go.RowKit

/-- As many are up as were chosen. -/
theorem chosen_len (n : Nat) (ss : List Nat) (hnd : ss.Nodup) (hlt : ∀ s ∈ ss, s < n) : ((List.range n).filter fun i => decide (i ∈ ss)).length = ss.length := by
  induction ss with
  | nil =>
    rw [List.length_nil, List.length_eq_zero_iff, List.filter_eq_nil_iff]
    simp
  | cons s ss ih =>
    obtain ⟨h1, h2⟩ := List.nodup_cons.1 hnd
    have ih' := ih h2 (fun x hx => hlt x (List.mem_cons_of_mem _ hx))
    rw [← List.countP_eq_length_filter] at ih' ⊢
    have key : ∀ L : List Nat, L.countP (fun i => decide (i ∈ s :: ss)) = L.count s + L.countP (fun i => decide (i ∈ ss)) := by
      intro L
      induction L with
      | nil => rfl
      | cons x L ih =>
        rw [List.countP_cons, List.countP_cons, List.count_cons, ih]
        by_cases hx : x = s
        · subst hx
          simp [h1]
          omega
        · simp [hx]
          omega
    have hc : ∀ m, (List.range m).count s = if s < m then 1 else 0 := by
      intro m
      induction m with
      | zero => rfl
      | succ m ih =>
        rw [List.range_succ, List.count_append, ih, List.count_singleton]
        by_cases h3 : s < m
        · rw [if_pos h3, if_pos (by omega : s < m + 1), if_neg (by simp; omega)]
        · by_cases h4 : m = s
          · subst h4; simp
          · rw [if_neg h3, if_neg (by omega : ¬ s < m + 1), if_neg (by simpa using h4)]
    rw [key, ih', hc, if_pos (hlt s (List.mem_cons_self ..)), List.length_cons]
    omega

theorem upTo_congr (f g : Nat → Bool) (n : Nat) (h : ∀ i, i < n → f i = g i) : upTo f n = upTo g n := by
  unfold upTo
  apply List.filter_congr
  intro i hi
  rw [h i (List.mem_range.1 hi)]

theorem upTo_chosen (f : Nat → Bool) (n : Nat) (ss : List Nat) (hnd : ss.Nodup) (hlt : ∀ s ∈ ss, s < n) (h : ∀ i, i < n → f i = !decide (i ∈ ss)) : (upTo f n).length = ss.length := by
  rw [← chosen_len n ss hnd hlt]
  unfold upTo
  congr 1
  apply List.filter_congr
  intro i hi
  rw [h i (List.mem_range.1 hi)]
  simp

theorem upTo_one_less (f : Nat → Bool) (n : Nat) (s : Nat) (ss : List Nat) (hnd : (s :: ss).Nodup) (hlt : ∀ x ∈ s :: ss, x < n) (h : ∀ i, i < n → f i = (!decide (i ∈ s :: ss) || decide (i = s))) : (upTo f n).length = ss.length := by
  obtain ⟨h1, h2⟩ := List.nodup_cons.1 hnd
  refine upTo_chosen f n ss h2 (fun x hx => hlt x (List.mem_cons_of_mem _ hx)) fun i hi => ?_
  rw [h i hi]
  by_cases hs : i = s
  · subst hs
    simp [h1]
  · simp [hs]

def Worn (S X : Nat → List UInt8) (down : Nat → Bool) (ss : List Nat) (L n j : Nat) : Prop :=
  ∀ i, i < n → ((i ∈ ss ∨ j ≤ i) → down i = false ∧ X i = S i) ∧ (i ∉ ss → i < j → down i = true ∨ ∃ p d, p < L ∧ d ≠ 0 ∧ X i = Cof.spoil (S i) p d)

theorem Worn.start (S : Nat → List UInt8) (ss : List Nat) (L n : Nat) : Worn S S (fun _ => false) ss L n 0 :=
  fun _ _ => ⟨fun _ => ⟨rfl, rfl⟩, fun _ h => by omega⟩

theorem Worn.pass {S X : Nat → List UInt8} {down : Nat → Bool} {ss : List Nat} {L n j : Nat} (h : Worn S X down ss L n j) (hj : j ∈ ss) : Worn S X down ss L n (j + 1) := by
  intro i hi
  refine ⟨fun h1 => (h i hi).1 ?_, fun h1 h2 => (h i hi).2 h1 ?_⟩
  · rcases h1 with h1 | h1
    · exact .inl h1
    · exact .inr (by omega)
  · have : i ≠ j := fun e => h1 (e ▸ hj)
    omega

theorem Worn.sink {S X : Nat → List UInt8} {down : Nat → Bool} {ss : List Nat} {L n j : Nat} (h : Worn S X down ss L n j) (hj : j ∉ ss) : Worn S X (fun i => if i = j then !false else down i) ss L n (j + 1) := by
  intro i hi
  by_cases hij : i = j
  · subst hij
    refine ⟨fun h1 => ?_, fun _ _ => .inl (by simp)⟩
    rcases h1 with h1 | h1
    · exact absurd h1 hj
    · omega
  · simp only [hij, if_false]
    exact ⟨fun h1 => (h i hi).1 (h1.imp id (by omega)), fun h1 h2 => (h i hi).2 h1 (by omega)⟩

theorem Worn.spot {S X : Nat → List UInt8} {down : Nat → Bool} {ss : List Nat} {L n j : Nat} (h : Worn S X down ss L n j) (hj : j ∉ ss) (hjn : j < n) (p : Nat) (d : UInt8) (hp : p < L) (hd : d ≠ 0) : Worn S (fun i => if i = j then Cof.spoil (X j) p d else X i) down ss L n (j + 1) := by
  intro i hi
  by_cases hij : i = j
  · subst hij
    refine ⟨fun h1 => ?_, fun _ _ => .inr ⟨p, d, hp, hd, ?_⟩⟩
    · rcases h1 with h1 | h1
      · exact absurd h1 hj
      · omega
    · simp only [if_true]
      rw [((h i hjn).1 (.inr (Nat.le_refl _))).2]
  · simp only [hij, if_false]
    exact ⟨fun h1 => (h i hi).1 (h1.imp id (by omega)), fun h1 h2 => (h i hi).2 h1 (by omega)⟩

theorem spoilt_bad (key : Nat) (hd P : List UInt8) (len p : Nat) (d : UInt8) (hk : key < 18446744073709551616) (hP : P.length = len) (hp : p < hd.length + len + 8) (h0 : d ≠ 0) : ¬ ∃ Q, Cof.Good key hd len (Cof.spoil (Cof.sealed key (hd ++ P)) p d) Q := by
  rintro ⟨Q, h1, h2⟩
  exact Cof.spoilt_told key hd P Q p d hk (by rw [h1, hP]) (by rw [Cof.length_sealed, List.length_append, hP]; exact hp) h0 h2

/-- The shards as they were made. -/
def madeX (key mode t l n epoch size : Nat) (nm : ByteArray) (P : Nat → List UInt8) (i : Nat) : List UInt8 := Cof.sealed key (Cof.head mode t l n i epoch size nm.data.toList ++ P i)

theorem head_len (mode t l n i epoch size : Nat) (nm : ByteArray) : (Cof.head mode t l n i epoch size nm.data.toList).length = 10 + nm.size := by rw [Cof.length_head]; simp

theorem Worn.judged {key mode t l n epoch size : Nat} {nm : ByteArray} {len : Nat} {P X : Nat → List UInt8} {down : Nat → Bool} {ss : List Nat} (h : Worn (madeX key mode t l n epoch size nm P) X down ss (10 + nm.size + len + 8) n n) (hk : key < 18446744073709551616) (hP : ∀ i, i < n → (P i).length = len) :
    Judged key mode t l n epoch size nm len down (fun i => !decide (i ∈ ss)) X P := by
  intro i hi hdn
  refine ⟨fun hb => ?_, fun hb => ?_⟩
  · have hm : i ∈ ss := by simpa using hb
    exact ⟨hP i hi, ((h i hi).1 (.inl hm)).2⟩
  · have hm : i ∉ ss := by simpa using hb
    rcases (h i hi).2 hm hi with h1 | ⟨p, d, hp, hd, hx⟩
    · rw [hdn] at h1; cases h1
    · rw [hx]
      exact spoilt_bad key _ (P i) len p d hk (hP i hi) (by rw [head_len]; exact hp) hd

/-- One of the chosen is spoilt too. -/
theorem Worn.judged2 {key mode t l n epoch size : Nat} {nm : ByteArray} {len : Nat} {P X : Nat → List UInt8} {down : Nat → Bool} {ss : List Nat} (h : Worn (madeX key mode t l n epoch size nm P) X down ss (10 + nm.size + len + 8) n n) (hk : key < 18446744073709551616) (hP : ∀ i, i < n → (P i).length = len) (s p : Nat) (d : UInt8) (hs : s ∈ ss) (hsn : s < n) (hp : p < 10 + nm.size + len + 8) (hd : d ≠ 0) :
    Judged key mode t l n epoch size nm len down (fun i => !decide (i ∈ ss) || decide (i = s)) (fun i => if i = s then Cof.spoil (X s) p d else X i) P := by
  intro i hi hdn
  by_cases his : i = s
  · subst his
    refine ⟨fun hb => by simp at hb, fun _ => ?_⟩
    simp only [if_true]
    rw [((h i hi).1 (.inl hs)).2]
    exact spoilt_bad key _ (P i) len p d hk (hP i hi) (by rw [head_len]; exact hp) hd
  · have hj := h.judged hk hP i hi hdn
    simp only [his, if_false, decide_false, Bool.or_false]
    exact hj

theorem Judged.sink {key mode t l n epoch size : Nat} {nm : ByteArray} {len : Nat} {P X : Nat → List UInt8} {down bad : Nat → Bool} (h : Judged key mode t l n epoch size nm len down bad X P) (s : Nat) : Judged key mode t l n epoch size nm len (fun i => if i = s then !false else down i) bad X P := by
  intro i hi hdn
  by_cases his : i = s
  · simp [his] at hdn
  · simp only [his, if_false] at hdn
    exact h i hi hdn

theorem Worn.off {S X : Nat → List UInt8} {down : Nat → Bool} {ss : List Nat} {L n : Nat} (h : Worn S X down ss L n n) : ∀ i, i < n → (down i || !decide (i ∈ ss)) = !decide (i ∈ ss) := by
  intro i hi
  by_cases hm : i ∈ ss
  · rw [((h i hi).1 (.inl hm)).1]; simp
  · simp [hm]

theorem Worn.get {w : World} {base V key n B bc : Nat} {sp : Nat → Nat} {down : Nat → Bool} {mode t l epoch : Nat} {nm v x : ByteArray} {X : Nat → List UInt8} {vs : Nat → Value} {xs : Nat → RecV} {ss : List Nat}
    (hw : Worn (madeX key mode t l n epoch v.size nm (fun i => (Cof.split v.data.toList mode t l n x.data.toList).getD i [])) X down ss (10 + nm.size + Cof.ngroups mode t l v.size + 8) n n)
    (h : Held w base V key n B bc sp down mode t l v.size epoch nm (Cof.ngroups mode t l v.size) X vs xs) (C : Nat) (hc : Cf w C V) (hp : IsPlan mode t l n) (he : epoch ≤ 100) (hz : v.size ≤ 60) (hn1 : 1 ≤ nm.size) (hnm : nm.size ≤ 12) (hk : key < 18446744073709551616) (hl : Cof.ngroups mode t l v.size ≤ 60)
    (hP : ∀ i, i < n → ((Cof.split v.data.toList mode t l n x.data.toList).getD i []).length = Cof.ngroups mode t l v.size) (hx : x.size = Cof.tsize mode t * Cof.ngroups mode t l v.size) (hT : Tab w) (hnd : ss.Nodup) (hlt : ∀ s ∈ ss, s < n) (hN : ss.length = Cof.gsize mode t l + Cof.tsize mode t) :
    Calls Tryz.prog 24 #[.pointer (some ⟨C, 0, none⟩), .string nm] w fun e w' => e = .returned (.tuple #[.string v, .int .i64 0]) ∧ Below w.heap.size w w' := by
  have hn8 := hp.n8
  obtain ⟨U, hU⟩ : ∃ U, U = upTo (fun i => down i || !decide (i ∈ ss)) n := ⟨_, rfl⟩
  have hUl : U.length = ss.length := by rw [hU]; exact upTo_chosen _ n ss hnd hlt hw.off
  have hUn : U.Nodup := by rw [hU]; unfold upTo; exact List.nodup_range.filter _
  have hUlt : ∀ s ∈ U, s < n := fun s hs => by rw [hU] at hs; unfold upTo at hs; exact List.mem_range.1 (List.mem_filter.1 hs).1
  have hjs := Cof.join_split v.data.toList x.data.toList mode t l n (U.take (Cof.gsize mode t l + Cof.tsize mode t)) (by have := (gsize_le hp).1; omega) (Nat.le_trans hp.tn hn8) (by have h1 := hp.t1; rcases hp.md with ⟨_, h⟩ | ⟨_, h⟩ <;> omega) hx (hUn.sublist (List.take_sublist _ _)) (fun s hs => Nat.lt_of_lt_of_le (hUlt s (List.mem_of_mem_take hs)) hn8) (fun s hs => hUlt s (List.mem_of_mem_take hs)) (by rw [List.length_take, hUl]; omega)
  have h1 := vget_held base V key n B bc sp down (fun i => !decide (i ∈ ss)) mode t l v.size epoch nm X _ vs xs w h hp he hz hn1 hnm hk hl (hw.judged hk hP) hT (Cof.gsize mode t l + Cof.tsize mode t) rfl (by rw [← hU, hUl]; omega) v.data.toList (by rw [← hU]; exact hjs)
  have h2 := cget_of C V v.size nm v.data.toList w hc rfl h1
  rw [show (⟨v.data.toList.toArray⟩ : ByteArray) = v by simp] at h2
  exact h2

/-- One of the chosen is out of reach too. -/
theorem Judged.few {w : World} {base V key n B bc : Nat} {sp : Nat → Nat} {down bad : Nat → Bool} {mode t l size epoch : Nat} {nm : ByteArray} {X P : Nat → List UInt8} {vs : Nat → Value} {xs : Nat → RecV} {s : Nat} {ss : List Nat}
    (hj : Judged key mode t l n epoch size nm (Cof.ngroups mode t l size) down bad X P) (h : Held w base V key n B bc sp down mode t l size epoch nm (Cof.ngroups mode t l size) X vs xs) (C : Nat) (hc : Cf w C V) (hp : IsPlan mode t l n) (he : epoch ≤ 100) (hz : size ≤ 60) (hn1 : 1 ≤ nm.size) (hnm : nm.size ≤ 12) (hk : key < 18446744073709551616) (hl : Cof.ngroups mode t l size ≤ 60) (hT : Tab w) (hE : ErrType w)
    (hnd : (s :: ss).Nodup) (hlt : ∀ x ∈ s :: ss, x < n) (hN : (s :: ss).length = Cof.gsize mode t l + Cof.tsize mode t) (hoff : ∀ i, i < n → (down i || bad i) = (!decide (i ∈ s :: ss) || decide (i = s))) :
    Calls Tryz.prog 24 #[.pointer (some ⟨C, 0, none⟩), .string nm] w fun e w' => e = .returned (.tuple #[.string ByteArray.empty, .int .i64 10]) ∧ Below w.heap.size w w' :=
  cget_no C V 3 10 nm w hc (by omega) hE (vget_few base V key n B bc sp down bad mode t l size epoch nm X P vs xs w h hp he hz hn1 hnm hk hl hj hT (by rw [upTo_one_less _ n s ss hnd hlt hoff]; rw [List.length_cons] at hN; omega))
end Go.Proofs.YtcegdgmbponapaaGreatDoor

namespace Go.Proofs.YtcegdgmbponapaaGreatDoor
open Go.RowKit
attribute [local go_sem ↓] Go.wp_at_zero Go.wp_at_succ

set_option maxRecDepth 100000 in
set_option maxHeartbeats 2000000 in
theorem fresh_ok (n key mode t l : Nat) (vl tape : ByteArray) (w : World) (hp : IsPlan mode t l n) (hz : vl.size ≤ 60) (hng : Cof.ngroups mode t l vl.size ≤ 60) (htp : Cof.tsize mode t * Cof.ngroups mode t l vl.size ≤ tape.size) (hk : key < 18446744073709551616) :
    Calls Tryz.prog 15 #[.int .i64 n, .int .u64 key, .agg #[.int .i64 mode, .int .i64 t, .int .i64 l], .string vl, .string tape] w fun e w' =>
      ∃ C V B bc sp vs xs, e = .returned (.pointer (some ⟨C, 0, none⟩)) ∧ Cf w' C V ∧ w.heap.size ≤ C ∧ One w' w.heap.size V key n B bc sp (fun _ => false) mode t l vl.size 0 ⟨#[107]⟩ (fun i => (Cof.split vl.data.toList mode t l n tape.data.toList).getD i []) vs xs ∧ Below w.heap.size w w' := by
  have hn1 := hp.n1
  have hn8 := hp.n8
  have hba := (Below.refl w.heap.size w).alloc (Nat.le_refl _) (.cells #[.int .i64 mode, .int .i64 t, .int .i64 l] 29)
  obtain ⟨w1, hw1⟩ : ∃ w1, w1 = w.alloc (.cells #[.int .i64 mode, .int .i64 t, .int .i64 l] 29) := ⟨_, rfl⟩
  have HPB := hid (show w1.heap[w.heap.size]? = some (.cells #[.int .i64 mode, .int .i64 t, .int .i64 l] 29) by rw [hw1]; exact alloc_at _ _)
  rw [← hw1] at hba
  have HOP := hid (copen_any n key w1 hn1 hn8)
  have HP := hid hp
  have HTP := hid htp
  have HW1 := hid hw1
  have hl1 : w.heap.size < w1.heap.size := cells_lt HPB.out
  clear hp htp hw1
  go_enter Tryz.func15, Tryz.ntmps15
  go_wp2_with fail
  rw [← HW1.out]
  refine HOP.out.mono ?_
  rintro e w3 ⟨C, w2, ps, v, rfl, hop, rfl, hw3⟩
  obtain ⟨B, bc, hvt, hst, hsi, hbB, hbs⟩ := hop.parts hn1
  have hb12 := hop.bl
  have hb23 : Below w2.heap.size w2 w3 := by rw [hw3]; exact (Below.refl _ _).alloc (Nat.le_refl _) _
  have hCf : Cf w3 w2.heap.size w1.heap.size := by unfold Cf; rw [hw3]; exact alloc_at _ _
  have hb13 := hb12.trans (hb23.mono hb12.size)
  have hs23 : Spared (fun _ => False) w2 w3 := Spared.ofBelow hb23 (Nat.le_refl _)
  have hlC := cells_lt hCf
  have hlV := cells_lt hvt.hp
  have hsl : ∀ i, i < n → ps[i]! < w2.heap.size := fun i hi => cells_lt (hst i hi).hp
  have p0 : w3.cell? ⟨w.heap.size, 0, none⟩ = some (.int .i64 mode) := by rw [hb13.cell (by exact hl1), cells_at HPB.out]; rfl
  have p1 : w3.cell? ⟨w.heap.size, 1, none⟩ = some (.int .i64 t) := by rw [hb13.cell (by exact hl1), cells_at HPB.out]; rfl
  have p2 : w3.cell? ⟨w.heap.size, 2, none⟩ = some (.int .i64 l) := by rw [hb13.cell (by exact hl1), cells_at HPB.out]; rfl
  have HPUT := hid (cput_nil w2.heap.size w1.heap.size mode t l ⟨#[107]⟩ vl tape w3 (fun b => b = w1.heap.size ∨ ∃ i, i < n ∧ b = ps[i]!)
    (fun w' => ∃ vs xs, One w' w.heap.size w1.heap.size key n B bc (fun i => ps[i]!) (fun _ => false) mode t l vl.size 0 ⟨#[107]⟩ (fun i => (Cof.split vl.data.toList mode t l n tape.data.toList).getD i []) vs xs)
    hCf (fun h => by rcases h with h | ⟨i, hi, h⟩; (· omega); (· have := hsl i hi; omega)) (fun b h => by rcases h with rfl | ⟨i, hi, rfl⟩; (· omega); (· have := hsl i hi; omega))
    (fun w4 hb4 => by
      have hs24 : Spared (fun _ => False) w2 w4 := hs23.trans (Spared.ofBelow hb4 (Nat.le_refl _))
      refine (vput_ok w1.heap.size key n B bc (fun i => ps[i]!) 0 0 mode t l vl.size ⟨#[107]⟩ vl tape w4 (hvt.keeps hs24 (fun h => h) (fun h => h)) (fun i hi => (hst i hi).keeps hs24 (fun h => h) (fun _ _ h => h)) hsi HP.out hz rfl (by decide) (by decide) hng HTP.out hk w.heap.size (by omega) (by omega) (fun i hi => by have := hbs i hi; omega)).mono ?_
      rintro e w5 ⟨rfl, ⟨vs, xs, hone, _⟩, hsp⟩
      exact ⟨rfl, ⟨vs, xs, hone⟩, hsp⟩))
  have HCF := hid hCf
  have HB13 := hid hb13
  have HSL := hid hsl
  have HBS := hid hbs
  clear hop hvt hst hsi hbB hbs hCf hs23 hb13 hsl hb12 hb23 hw3
  go_wp2_with fail
  refine HPUT.out.mono ?_
  rintro e w5 ⟨rfl, ⟨vs, xs, hone⟩, hsp⟩
  have HONE := hid hone
  have HSP := hid hsp
  clear hone hsp
  go_wp2_with fail
  go_ret
  have hb13 := HB13.out
  refine ⟨_, w1.heap.size, B, bc, fun i => ps[i]!, vs, xs, rfl, HCF.out.keeps HSP.out (fun h => by rcases h with h | ⟨i, hi, h⟩; (· omega); (· have := HSL.out i hi; omega)), by have := HONE.out.bV; omega, HONE.out, ?_⟩
  have hb03 := hba.trans (hb13.mono (by omega))
  exact hb03.trans (HSP.out.below w.heap.size (by have := hb03.size; omega) (fun q hq => by rcases hq with rfl | ⟨i, hi, rfl⟩; (· omega); (· have := HBS.out i hi; omega)))
end Go.Proofs.YtcegdgmbponapaaGreatDoor
