/-
  The head of a shard.
  A shard is made.
  bytes.Equal, bytes.HasPrefix, slices.Clone of bytes.
-/
import Derived.Test.YtcegdgmbponapabGreatDoorPart13
import Derived.Test.YtcegdgmbponapabGreatDoorPart04
import Derived.Test.YtcegdgmbponapabGreatDoorPart08
import Derived.Deep.Onto
import Derived.BigQuiet
import Derived.Test.YtcegdgmbponapabGreatDoorPart02
import Derived.Lib.SliceRun
namespace Go.Proofs.YtcegdgmbponapabGreatDoor
open Go.RowKit
attribute [local go_sem ↓] Go.wp_at_zero Go.wp_at_succ

/-- What stands ahead of the piece. -/
def Cof.head (mode t l n s epoch size : Nat) (name : List UInt8) : List UInt8 :=
  [UInt8.ofNat mode, UInt8.ofNat t, UInt8.ofNat l, UInt8.ofNat n, UInt8.ofNat s] ++ (Cof.high epoch 2 ++ (Cof.high size 2 ++ ([UInt8.ofNat name.length] ++ name)))

theorem Cof.length_head (mode t l n s epoch size : Nat) (name : List UInt8) : (Cof.head mode t l n s epoch size name).length = 10 + name.length := by
  simp [Cof.head, Cof.length_high]; omega

/-- A label as a value. -/
def lab (mode t l n s epoch size : Nat) (name : ByteArray) : Value :=
  .agg #[.string name, .int .i64 mode, .int .i64 t, .int .i64 l, .int .i64 size, .int .i64 epoch, .int .i64 n, .int .i64 s]

/-- What the parts of a head are. -/
def headX (mode t l n s epoch size : Nat) (name : ByteArray) : Nat → List UInt8
  | 0 => [UInt8.ofNat mode, UInt8.ofNat t, UInt8.ofNat l, UInt8.ofNat n, UInt8.ofNat s]
  | 1 => Cof.high epoch 2
  | 2 => Cof.high size 2
  | 3 => [UInt8.ofNat name.size]
  | _ => name.data.toList

/-- A row of bytes, as it can be read. -/
def RowV (X : List UInt8) (v : Value) (w : World) : Prop := ∃ a c, v = .slice a X.length c ∧ Rd w a (bs X) ∧ (a = none → c = 0)
theorem RowV.keeps {X : List UInt8} {v : Value} {w w' : World} (h : RowV X v w) (hb : Below w.heap.size w w') : RowV X v w' := by
  obtain ⟨a, c, h1, h2, h3⟩ := h
  exact ⟨a, c, h1, h2.below hb (Nat.le_refl _), h3⟩
/-- A list of rows. -/
def RowsV (X : Nat → List UInt8) (M : Nat) (v : Value) (w : World) : Prop := ∃ g, v = .slice (some ⟨g, 0, none⟩) M M ∧ g < w.heap.size ∧ ∀ k, k < M → ∃ u, w.cell? ⟨g, k, none⟩ = some u ∧ RowV (X k) u w
theorem RowsV.keeps {X : Nat → List UInt8} {M : Nat} {v : Value} {w w' : World} (h : RowsV X M v w) (hb : Below w.heap.size w w') : RowsV X M v w' := by
  obtain ⟨g, h1, h2, h3⟩ := h
  refine ⟨g, h1, Nat.lt_of_lt_of_le h2 hb.size, fun k hk => ?_⟩
  obtain ⟨u, h4, h5⟩ := h3 k hk
  exact ⟨u, by rw [hb.cell (by exact h2)]; exact h4, h5.keeps hb⟩

/-- What each operation of the head's region leaves. -/
def headR (B mode t l n s epoch size : Nat) (name : ByteArray) : Nat → Value → World → Prop
  | 0, v, _ => v = .pointer (some ⟨B + 1, 0, none⟩)
  | 1, v, _ => v = .int .i64 mode
  | 2, v, _ => v = .int .u8 mode
  | 3, v, _ => v = .pointer (some ⟨B + 1, 1, none⟩)
  | 4, v, _ => v = .int .i64 t
  | 5, v, _ => v = .int .u8 t
  | 6, v, _ => v = .pointer (some ⟨B + 1, 2, none⟩)
  | 7, v, _ => v = .int .i64 l
  | 8, v, _ => v = .int .u8 l
  | 9, v, _ => v = .pointer (some ⟨B, 6, none⟩)
  | 10, v, _ => v = .int .i64 n
  | 11, v, _ => v = .int .u8 n
  | 12, v, _ => v = .pointer (some ⟨B, 7, none⟩)
  | 13, v, _ => v = .int .i64 s
  | 14, v, _ => v = .int .u8 s
  | 15, v, w => RowV (headX mode t l n s epoch size name 0) v w
  | 16, v, _ => v = .pointer (some ⟨B, 0, none⟩)
  | 17, v, _ => v = .pointer (some ⟨B, 5, none⟩)
  | 18, v, _ => v = .int .i64 epoch
  | 19, v, _ => v = .int .u64 epoch
  | 20, v, w => RowV (headX mode t l n s epoch size name 1) v w
  | 21, v, _ => v = .pointer (some ⟨B, 0, none⟩)
  | 22, v, _ => v = .pointer (some ⟨B, 4, none⟩)
  | 23, v, _ => v = .int .i64 size
  | 24, v, _ => v = .int .u64 size
  | 25, v, w => RowV (headX mode t l n s epoch size name 2) v w
  | 26, v, _ => v = .string name
  | 27, v, _ => v = .int .i64 name.size
  | 28, v, _ => v = .int .u8 name.size
  | 29, v, w => RowV (headX mode t l n s epoch size name 3) v w
  | 30, v, _ => v = .string name
  | 31, v, w => RowV (headX mode t l n s epoch size name 4) v w
  | 32, v, w => RowsV (headX mode t l n s epoch size name) 5 v w
  | 33, v, w => w.ownsRow B 5 1 v (10 + name.size) (bs (Cof.head mode t l n s epoch size name.data.toList))
  | 34, v, w => w.ownsRow B 5 1 v (10 + name.size) (bs (Cof.head mode t l n s epoch size name.data.toList))
  | _, _, _ => False

theorem headR_keeps (B mode t l n s epoch size : Nat) (name : ByteArray) (j : Nat) (v : Value) (w w' : World) (h : headR B mode t l n s epoch size name j v w) (hb : Below w.heap.size w w') : headR B mode t l n s epoch size name j v w' := by
  unfold headR at h ⊢
  split at h <;> first | exact h | exact RowV.keeps h hb | exact RowsV.keeps h hb | exact owns_below h hb (Nat.le_refl _) | exact False.elim h

theorem alloc_rd (w : World) (e : TypeId) (L : List Value) (h : L.length ≤ 100) : Rd (w.alloc (.cells L.toArray e)) (some ⟨w.heap.size, 0, none⟩) L :=
  owns_rd (owns_of_block (base := 0) (e := e) (by show (w.heap.push _)[w.heap.size]? = _; simp) (Nat.zero_le _) rfl (by unfold maxLen; omega))

theorem concatV (X : Nat → List UInt8) (M : Nat) (v : Value) (w : World) (hM : M ≤ 10) (h : RowsV X M v w) (hX : ∀ k, k < M → (X k).length ≤ 70) :
    Calls Tryz.prog 74 #[v] w fun e w' => ∃ v, e = .returned v ∧ w'.ownsRow w.heap.size 5 1 v (flat X M).length (bs (flat X M)) ∧ Below w.heap.size w w' := by
  obtain ⟨g, rfl, hg, h⟩ := h
  have h' : ∀ k, ∃ p : Option Addr × Nat, k < M → w.cell? ⟨g, k, none⟩ = some (.slice p.1 (X k).length p.2) ∧ Rd w p.1 (bs (X k)) ∧ (p.1 = none → p.2 = 0) := by
    intro k
    by_cases hk : k < M
    · obtain ⟨u, h1, a, c, rfl, h2, h3⟩ := h k hk
      exact ⟨(a, c), fun _ => ⟨h1, h2, h3⟩⟩
    · exact ⟨(none, 0), fun h => absurd h hk⟩
  obtain ⟨f, hf⟩ := Classical.skolem.1 h'
  exact concatB g M M (fun k => (f k).1) (fun k => (X k).length) (fun k => (f k).2) X w hg hM fun k hk => ⟨(hf k hk).1, (hf k hk).2.1, rfl, hX k hk, (hf k hk).2.2⟩

theorem wrap8 {n : Nat} (h : n < 256) : IntKind.u8.wrap (n : Int) = n := by
  rw [IntKind.wrap_u8]
  omega

set_option maxRecDepth 100000 in
set_option maxHeartbeats 1000000 in
theorem head_any (mode t l n s epoch size : Nat) (name : ByteArray) (w : World) (hp : IsPlan mode t l n) (hs : s < n) (he : epoch ≤ 100) (hz : size ≤ 60) (hnm : name.size ≤ 12) :
    Calls Tryz.prog 73 #[.agg #[.string name, .int .i64 mode, .int .i64 t, .int .i64 l, .int .i64 size, .int .i64 epoch, .int .i64 n, .int .i64 s]] w fun e w' => ∃ v, e = .returned v ∧ w'.ownsRow w.heap.size 5 1 v (10 + name.size) (bs (Cof.head mode t l n s epoch size name.data.toList)) ∧ Below w.heap.size w w' := by
  go_enter Tryz.func73, Tryz.ntmps73
  go_wp2_with fail
  go_region
  obtain ⟨w1, hw1⟩ : ∃ w1, w1 = ((w.alloc (.cells #[.string name, .int .i64 mode, .int .i64 t, .int .i64 l, .int .i64 size, .int .i64 epoch, .int .i64 n, .int .i64 s] 134)).alloc (.cells #[.int .i64 mode, .int .i64 t, .int .i64 l] 29)).drew := ⟨_, rfl⟩
  have hb01 : Below w.heap.size w w1 := by rw [hw1]; exact (((Below.refl w.heap.size w).alloc (Nat.le_refl _) _).alloc (by simp) _).drew
  have hz1 : w1.heap.size = w.heap.size + 2 := by rw [hw1]; simp
  have k4 : w1.cell? ⟨w.heap.size, 4, none⟩ = some (.int .i64 size) := by rw [hw1]; simp
  have k5 : w1.cell? ⟨w.heap.size, 5, none⟩ = some (.int .i64 epoch) := by rw [hw1]; simp
  have k6 : w1.cell? ⟨w.heap.size, 6, none⟩ = some (.int .i64 n) := by rw [hw1]; simp
  have k7 : w1.cell? ⟨w.heap.size, 7, none⟩ = some (.int .i64 s) := by rw [hw1]; simp
  have p0 : w1.cell? ⟨w.heap.size + 1, 0, none⟩ = some (.int .i64 mode) := by rw [hw1]; simp
  have p1 : w1.cell? ⟨w.heap.size + 1, 1, none⟩ = some (.int .i64 t) := by rw [hw1]; simp
  have p2 : w1.cell? ⟨w.heap.size + 1, 2, none⟩ = some (.int .i64 l) := by rw [hw1]; simp
  rw [← hw1]
  clear hw1
  go_wp2_with fail
  have HF : ∀ a : Act, (∀ p ∈ [((1 : Nat), Value.pointer (some ⟨w.heap.size, 0, none⟩)), (3, .string name), (4, .pointer (some ⟨w.heap.size + 1, 0, none⟩))], a.tmps.getD p.1 undef = p.2) → a.tmps[1]?.getD undef = .pointer (some ⟨w.heap.size, 0, none⟩) ∧ a.tmps[3]?.getD undef = .string name ∧ a.tmps[4]?.getD undef = .pointer (some ⟨w.heap.size + 1, 0, none⟩) := by
    intro a h
    simpa using h
  have HCELL : ∀ w' : World, Below w1.heap.size { w1 with drawn := w1.drawn + 1 } w' → w'.cell? ⟨w.heap.size, 4, none⟩ = some (.int .i64 size) ∧ w'.cell? ⟨w.heap.size, 5, none⟩ = some (.int .i64 epoch) ∧ w'.cell? ⟨w.heap.size, 6, none⟩ = some (.int .i64 n) ∧ w'.cell? ⟨w.heap.size, 7, none⟩ = some (.int .i64 s) ∧ w'.cell? ⟨w.heap.size + 1, 0, none⟩ = some (.int .i64 mode) ∧ w'.cell? ⟨w.heap.size + 1, 1, none⟩ = some (.int .i64 t) ∧ w'.cell? ⟨w.heap.size + 1, 2, none⟩ = some (.int .i64 l) := by
    intro w' hb
    exact ⟨(hb.cell (by show w.heap.size < w1.heap.size; omega)).trans k4, (hb.cell (by show w.heap.size < w1.heap.size; omega)).trans k5, (hb.cell (by show w.heap.size < w1.heap.size; omega)).trans k6, (hb.cell (by show w.heap.size < w1.heap.size; omega)).trans k7, (hb.cell (by show w.heap.size + 1 < w1.heap.size; omega)).trans p0, (hb.cell (by show w.heap.size + 1 < w1.heap.size; omega)).trans p1, (hb.cell (by show w.heap.size + 1 < w1.heap.size; omega)).trans p2⟩
  have hp' := hp
  obtain ⟨hn1, hn8, ht1, htn, hl1, hmd⟩ := hp'
  have e0 : IntKind.u8.wrap (mode : Int) = mode := wrap8 (by omega)
  have e1 : IntKind.u8.wrap (t : Int) = t := wrap8 (by omega)
  have e2 : IntKind.u8.wrap (l : Int) = l := wrap8 (by omega)
  have e3 : IntKind.u8.wrap (n : Int) = n := wrap8 (by omega)
  have e4 : IntKind.u8.wrap (s : Int) = s := wrap8 (by omega)
  have e5 : IntKind.u8.wrap (name.size : Int) = name.size := wrap8 (by omega)
  have e6 : IntKind.u64.wrap (epoch : Int) = epoch := by rw [IntKind.wrap_u64]; omega
  have e7 : IntKind.u64.wrap (size : Int) = size := by rw [IntKind.wrap_u64]; omega
  have HX0 : bs (headX mode t l n s epoch size name 0) = [.int .u8 mode, .int .u8 t, .int .u8 l, .int .u8 n, .int .u8 s] := by
    simp [headX, bs]
    omega
  have HX3 : bs (headX mode t l n s epoch size name 3) = [.int .u8 name.size] := by
    simp [headX, bs]
    omega
  have HL1 : (headX mode t l n s epoch size name 1).length = 2 := Cof.length_high _ _
  have HL2 : (headX mode t l n s epoch size name 2).length = 2 := Cof.length_high _ _
  have HL4 : (headX mode t l n s epoch size name 4).length = name.size := by simp [headX]
  have HXL : ∀ k, k < 5 → (headX mode t l n s epoch size name k).length ≤ 70 := by
    intro k hk
    rcases show k = 0 ∨ k = 1 ∨ k = 2 ∨ k = 3 ∨ k = 4 by omega with rfl | rfl | rfl | rfl | rfl <;> first | omega | (simp [headX]; done) | (rw [HL4]; omega)
  have HFL : flat (headX mode t l n s epoch size name) 5 = Cof.head mode t l n s epoch size name.data.toList := by
    simp [flat, headX, Cof.head, List.range_succ]
  have HLN : (Cof.head mode t l n s epoch size name.data.toList).length = 10 + name.size := by rw [Cof.length_head]; simp
  clear k4 k5 k6 k7 p0 p1 p2
  refine wp_region_each (by kernel_rfl) (fun i => if i = 34 then 2 else i + 11) (headR w.heap.size mode t l n s epoch size name) [(1, .pointer (some ⟨w.heap.size, 0, none⟩)), (3, .string name), (4, .pointer (some ⟨w.heap.size + 1, 0, none⟩))] 45 [1, 3, 4] (by kernel_rfl) rfl rfl rfl ?_ (headR_keeps w.heap.size mode t l n s epoch size name) ?_ ?_
  · simp
  · refine ⟨?_, ?_, ?_, ?_, ?_, ?_, ?_, ?_, ?_, ?_, ?_, ?_, ?_, ?_, ?_, ?_, ?_, ?_, ?_, ?_, ?_, ?_, ?_, ?_, ?_, ?_, ?_, ?_, ?_, ?_, ?_, ?_, ?_, ?_, ?_, trivial⟩
    · intro a w' hb hf hd
      obtain ⟨f1, f3, f4⟩ := HF a hf
      obtain ⟨c4, c5, c6, c7, q0, q1, q2⟩ := HCELL w' hb
      simp [headR] at hd
      exact .inl ⟨.pointer (some ⟨w.heap.size + 1, 0, none⟩), w', by go_simp, Below.refl _ _, rfl⟩
    · intro a w' hb hf hd
      obtain ⟨f1, f3, f4⟩ := HF a hf
      obtain ⟨c4, c5, c6, c7, q0, q1, q2⟩ := HCELL w' hb
      simp [headR] at hd
      exact .inl ⟨.int .i64 mode, w', by go_simp, Below.refl _ _, rfl⟩
    · intro a w' hb hf hd
      obtain ⟨f1, f3, f4⟩ := HF a hf
      obtain ⟨c4, c5, c6, c7, q0, q1, q2⟩ := HCELL w' hb
      simp [headR] at hd
      exact .inl ⟨.int .u8 mode, w', by go_simp, Below.refl _ _, rfl⟩
    · intro a w' hb hf hd
      obtain ⟨f1, f3, f4⟩ := HF a hf
      obtain ⟨c4, c5, c6, c7, q0, q1, q2⟩ := HCELL w' hb
      simp [headR] at hd
      exact .inl ⟨.pointer (some ⟨w.heap.size + 1, 1, none⟩), w', by go_simp, Below.refl _ _, rfl⟩
    · intro a w' hb hf hd
      obtain ⟨f1, f3, f4⟩ := HF a hf
      obtain ⟨c4, c5, c6, c7, q0, q1, q2⟩ := HCELL w' hb
      simp [headR] at hd
      exact .inl ⟨.int .i64 t, w', by go_simp, Below.refl _ _, rfl⟩
    · intro a w' hb hf hd
      obtain ⟨f1, f3, f4⟩ := HF a hf
      obtain ⟨c4, c5, c6, c7, q0, q1, q2⟩ := HCELL w' hb
      simp [headR] at hd
      exact .inl ⟨.int .u8 t, w', by go_simp, Below.refl _ _, rfl⟩
    · intro a w' hb hf hd
      obtain ⟨f1, f3, f4⟩ := HF a hf
      obtain ⟨c4, c5, c6, c7, q0, q1, q2⟩ := HCELL w' hb
      simp [headR] at hd
      exact .inl ⟨.pointer (some ⟨w.heap.size + 1, 2, none⟩), w', by go_simp, Below.refl _ _, rfl⟩
    · intro a w' hb hf hd
      obtain ⟨f1, f3, f4⟩ := HF a hf
      obtain ⟨c4, c5, c6, c7, q0, q1, q2⟩ := HCELL w' hb
      simp [headR] at hd
      exact .inl ⟨.int .i64 l, w', by go_simp, Below.refl _ _, rfl⟩
    · intro a w' hb hf hd
      obtain ⟨f1, f3, f4⟩ := HF a hf
      obtain ⟨c4, c5, c6, c7, q0, q1, q2⟩ := HCELL w' hb
      simp [headR] at hd
      exact .inl ⟨.int .u8 l, w', by go_simp, Below.refl _ _, rfl⟩
    · intro a w' hb hf hd
      obtain ⟨f1, f3, f4⟩ := HF a hf
      obtain ⟨c4, c5, c6, c7, q0, q1, q2⟩ := HCELL w' hb
      simp [headR] at hd
      exact .inl ⟨.pointer (some ⟨w.heap.size, 6, none⟩), w', by go_simp, Below.refl _ _, rfl⟩
    · intro a w' hb hf hd
      obtain ⟨f1, f3, f4⟩ := HF a hf
      obtain ⟨c4, c5, c6, c7, q0, q1, q2⟩ := HCELL w' hb
      simp [headR] at hd
      exact .inl ⟨.int .i64 n, w', by go_simp, Below.refl _ _, rfl⟩
    · intro a w' hb hf hd
      obtain ⟨f1, f3, f4⟩ := HF a hf
      obtain ⟨c4, c5, c6, c7, q0, q1, q2⟩ := HCELL w' hb
      simp [headR] at hd
      exact .inl ⟨.int .u8 n, w', by go_simp, Below.refl _ _, rfl⟩
    · intro a w' hb hf hd
      obtain ⟨f1, f3, f4⟩ := HF a hf
      obtain ⟨c4, c5, c6, c7, q0, q1, q2⟩ := HCELL w' hb
      simp [headR] at hd
      exact .inl ⟨.pointer (some ⟨w.heap.size, 7, none⟩), w', by go_simp, Below.refl _ _, rfl⟩
    · intro a w' hb hf hd
      obtain ⟨f1, f3, f4⟩ := HF a hf
      obtain ⟨c4, c5, c6, c7, q0, q1, q2⟩ := HCELL w' hb
      simp [headR] at hd
      exact .inl ⟨.int .i64 s, w', by go_simp, Below.refl _ _, rfl⟩
    · intro a w' hb hf hd
      obtain ⟨f1, f3, f4⟩ := HF a hf
      obtain ⟨c4, c5, c6, c7, q0, q1, q2⟩ := HCELL w' hb
      simp [headR] at hd
      exact .inl ⟨.int .u8 s, w', by go_simp, Below.refl _ _, rfl⟩
    · intro a w' hb hf hd
      obtain ⟨f1, f3, f4⟩ := HF a hf
      obtain ⟨c4, c5, c6, c7, q0, q1, q2⟩ := HCELL w' hb
      simp [headR] at hd
      refine .inl ⟨.slice (some ⟨w'.heap.size, 0, none⟩) 5 5, w'.alloc (.cells #[.int .u8 mode, .int .u8 t, .int .u8 l, .int .u8 n, .int .u8 s] 5), ?_, ?_, ?_⟩
      · go_simp
      · exact (Below.refl _ _).alloc (Nat.le_refl _) _
      · exact ⟨_, _, rfl, by rw [HX0]; exact alloc_rd _ _ [_, _, _, _, _] (by simp), nofun⟩
    · intro a w' hb hf hd
      obtain ⟨f1, f3, f4⟩ := HF a hf
      obtain ⟨c4, c5, c6, c7, q0, q1, q2⟩ := HCELL w' hb
      simp [headR] at hd
      exact .inl ⟨.pointer (some ⟨w.heap.size, 0, none⟩), w', by go_simp, Below.refl _ _, rfl⟩
    · intro a w' hb hf hd
      obtain ⟨f1, f3, f4⟩ := HF a hf
      obtain ⟨c4, c5, c6, c7, q0, q1, q2⟩ := HCELL w' hb
      simp [headR] at hd
      exact .inl ⟨.pointer (some ⟨w.heap.size, 5, none⟩), w', by go_simp, Below.refl _ _, rfl⟩
    · intro a w' hb hf hd
      obtain ⟨f1, f3, f4⟩ := HF a hf
      obtain ⟨c4, c5, c6, c7, q0, q1, q2⟩ := HCELL w' hb
      simp [headR] at hd
      exact .inl ⟨.int .i64 epoch, w', by go_simp, Below.refl _ _, rfl⟩
    · intro a w' hb hf hd
      obtain ⟨f1, f3, f4⟩ := HF a hf
      obtain ⟨c4, c5, c6, c7, q0, q1, q2⟩ := HCELL w' hb
      simp [headR] at hd
      exact .inl ⟨.int .u64 epoch, w', by go_simp, Below.refl _ _, rfl⟩
    · intro a w' hb hf hd
      obtain ⟨f1, f3, f4⟩ := HF a hf
      obtain ⟨c4, c5, c6, c7, q0, q1, q2⟩ := HCELL w' hb
      simp [headR] at hd
      refine .inr ⟨104, #[.int .u64 epoch, .int .i64 2], by go_simp, (highFirst_any epoch 2 w' (by decide)).mono ?_⟩
      rintro e w'' ⟨g, rfl, hown, hb2⟩
      exact ⟨_, rfl, hb2, _, _, by rw [HL1], owns_rd hown, nofun⟩
    · intro a w' hb hf hd
      obtain ⟨f1, f3, f4⟩ := HF a hf
      obtain ⟨c4, c5, c6, c7, q0, q1, q2⟩ := HCELL w' hb
      simp [headR] at hd
      exact .inl ⟨.pointer (some ⟨w.heap.size, 0, none⟩), w', by go_simp, Below.refl _ _, rfl⟩
    · intro a w' hb hf hd
      obtain ⟨f1, f3, f4⟩ := HF a hf
      obtain ⟨c4, c5, c6, c7, q0, q1, q2⟩ := HCELL w' hb
      simp [headR] at hd
      exact .inl ⟨.pointer (some ⟨w.heap.size, 4, none⟩), w', by go_simp, Below.refl _ _, rfl⟩
    · intro a w' hb hf hd
      obtain ⟨f1, f3, f4⟩ := HF a hf
      obtain ⟨c4, c5, c6, c7, q0, q1, q2⟩ := HCELL w' hb
      simp [headR] at hd
      exact .inl ⟨.int .i64 size, w', by go_simp, Below.refl _ _, rfl⟩
    · intro a w' hb hf hd
      obtain ⟨f1, f3, f4⟩ := HF a hf
      obtain ⟨c4, c5, c6, c7, q0, q1, q2⟩ := HCELL w' hb
      simp [headR] at hd
      exact .inl ⟨.int .u64 size, w', by go_simp, Below.refl _ _, rfl⟩
    · intro a w' hb hf hd
      obtain ⟨f1, f3, f4⟩ := HF a hf
      obtain ⟨c4, c5, c6, c7, q0, q1, q2⟩ := HCELL w' hb
      simp [headR] at hd
      refine .inr ⟨104, #[.int .u64 size, .int .i64 2], by go_simp, (highFirst_any size 2 w' (by decide)).mono ?_⟩
      rintro e w'' ⟨g, rfl, hown, hb2⟩
      exact ⟨_, rfl, hb2, _, _, by rw [HL2], owns_rd hown, nofun⟩
    · intro a w' hb hf hd
      obtain ⟨f1, f3, f4⟩ := HF a hf
      obtain ⟨c4, c5, c6, c7, q0, q1, q2⟩ := HCELL w' hb
      simp [headR] at hd
      exact .inl ⟨.string name, w', by go_simp, Below.refl _ _, rfl⟩
    · intro a w' hb hf hd
      obtain ⟨f1, f3, f4⟩ := HF a hf
      obtain ⟨c4, c5, c6, c7, q0, q1, q2⟩ := HCELL w' hb
      simp [headR] at hd
      exact .inl ⟨.int .i64 name.size, w', by go_simp, Below.refl _ _, rfl⟩
    · intro a w' hb hf hd
      obtain ⟨f1, f3, f4⟩ := HF a hf
      obtain ⟨c4, c5, c6, c7, q0, q1, q2⟩ := HCELL w' hb
      simp [headR] at hd
      exact .inl ⟨.int .u8 name.size, w', by go_simp, Below.refl _ _, rfl⟩
    · intro a w' hb hf hd
      obtain ⟨f1, f3, f4⟩ := HF a hf
      obtain ⟨c4, c5, c6, c7, q0, q1, q2⟩ := HCELL w' hb
      simp [headR] at hd
      refine .inl ⟨.slice (some ⟨w'.heap.size, 0, none⟩) 1 1, w'.alloc (.cells #[.int .u8 name.size] 5), ?_, ?_, ?_⟩
      · go_simp
      · exact (Below.refl _ _).alloc (Nat.le_refl _) _
      · exact ⟨_, _, rfl, by rw [HX3]; exact alloc_rd _ _ [_] (by simp), nofun⟩
    · intro a w' hb hf hd
      obtain ⟨f1, f3, f4⟩ := HF a hf
      obtain ⟨c4, c5, c6, c7, q0, q1, q2⟩ := HCELL w' hb
      simp [headR] at hd
      exact .inl ⟨.string name, w', by go_simp, Below.refl _ _, rfl⟩
    · intro a w' hb hf hd
      obtain ⟨f1, f3, f4⟩ := HF a hf
      obtain ⟨c4, c5, c6, c7, q0, q1, q2⟩ := HCELL w' hb
      simp [headR] at hd
      obtain ⟨cap, w2, hrun, hfb, hb2, hz2⟩ := conv_own w' name
      refine .inl ⟨.slice (some ⟨w'.heap.size, 0, none⟩) name.size cap, w2, ?_, hb2, ?_⟩
      · go_simp
      · exact ⟨_, _, by rw [HL4], hfb.rd (by omega), nofun⟩
    · intro a w' hb hf hd
      obtain ⟨f1, f3, f4⟩ := HF a hf
      obtain ⟨c4, c5, c6, c7, q0, q1, q2⟩ := HCELL w' hb
      simp [headR] at hd
      obtain ⟨⟨a0, k0, g0, r0, z0⟩, ⟨a1, k1, g1, r1, z1⟩, ⟨a2, k2, g2, r2, z2⟩, ⟨a3, k3, g3, r3, z3⟩, ⟨a4, k4, g4, r4, z4⟩⟩ := hd
      have hba := (Below.refl w'.heap.size w').alloc (Nat.le_refl _) (.cells #[.slice a0 (headX mode t l n s epoch size name 0).length k0, .slice a1 (headX mode t l n s epoch size name 1).length k1, .slice a2 (headX mode t l n s epoch size name 2).length k2, .slice a3 (headX mode t l n s epoch size name 3).length k3, .slice a4 (headX mode t l n s epoch size name 4).length k4] 44)
      refine .inl ⟨.slice (some ⟨w'.heap.size, 0, none⟩) 5 5, _, ?_, hba, ?_⟩
      · go_simp
      · refine ⟨w'.heap.size, rfl, by simp, fun k hk => ?_⟩
        rcases show k = 0 ∨ k = 1 ∨ k = 2 ∨ k = 3 ∨ k = 4 by omega with rfl | rfl | rfl | rfl | rfl
        · exact ⟨_, by simp, a0, k0, rfl, r0.below hba (Nat.le_refl _), z0⟩
        · exact ⟨_, by simp, a1, k1, rfl, r1.below hba (Nat.le_refl _), z1⟩
        · exact ⟨_, by simp, a2, k2, rfl, r2.below hba (Nat.le_refl _), z2⟩
        · exact ⟨_, by simp, a3, k3, rfl, r3.below hba (Nat.le_refl _), z3⟩
        · exact ⟨_, by simp, a4, k4, rfl, r4.below hba (Nat.le_refl _), z4⟩
    · intro a w' hb hf hd
      obtain ⟨f1, f3, f4⟩ := HF a hf
      obtain ⟨c4, c5, c6, c7, q0, q1, q2⟩ := HCELL w' hb
      simp [headR] at hd
      refine .inr ⟨74, #[a.tmps[43]?.getD undef], by go_simp, (concatV (headX mode t l n s epoch size name) 5 _ w' (by decide) hd.1 HXL).mono ?_⟩
      rintro e w'' ⟨v, rfl, hown, hb2⟩
      rw [HFL] at hown
      refine ⟨_, rfl, hb2, ?_⟩
      have := hown.mono (show w.heap.size ≤ w'.heap.size by have := hb.size; simp at this; omega)
      rw [HLN] at this
      exact this
    · intro a w' hb hf hd
      obtain ⟨f1, f3, f4⟩ := HF a hf
      obtain ⟨c4, c5, c6, c7, q0, q1, q2⟩ := HCELL w' hb
      simp [headR] at hd
      exact .inl ⟨a.tmps[44]?.getD undef, w', by go_simp, Below.refl _ _, hd.1⟩
  · intro a w' hdf hsz hb hf hr
    have h34 := hr 34 (by decide)
    simp [headR] at h34
    go_wp2
    refine bodyPost_ret (v := a.tmps[2]?.getD undef) ?_ hdf ⟨_, rfl, h34, hb01.drew.trans (hb.mono (show w.heap.size ≤ w1.heap.size by omega))⟩
    simp [results, Tryz.results73, go_sem, hsz]
end Go.Proofs.YtcegdgmbponapabGreatDoor

namespace Go.Proofs.YtcegdgmbponapabGreatDoor
open Go.RowKit
attribute [local go_sem ↓] Go.wp_at_zero Go.wp_at_succ

/-- What is ahead of the tag, and the tag. -/
def Cof.sealed (key : Nat) (xs : List UInt8) : List UInt8 := xs ++ Cof.high (Cof.tag key xs) 8

theorem Cof.length_sealed (key : Nat) (xs : List UInt8) : (Cof.sealed key xs).length = xs.length + 8 := by simp [Cof.sealed, Cof.length_high]

theorem bs_append (xs ys : List UInt8) : bs (xs ++ ys) = bs xs ++ bs ys := by simp [bs]

theorem append_src2 {P : Program} (w : World) {ops : Array Oper} {rest : List Oper} {o : Oper} {a : Act} {Q : Exit → Act → World → Prop} (hgd : o.guard = none) (s x : Operand) (t : TypeId)
    (ho : o.op = .call { callee := .builtin .append, args := #[s, x], argTypes := #[t, t] })
    (base : Nat) (e : TypeId) (i : TypeInfo) (z : Value) (bytes : Nat) (ht : P.underlying t = some (.slice e)) (hi : P.info? e = some i) (hz : i.zero = some z) (hsize : i.size = 1) (hby : i.bytes = bytes) (hzs : z.cells.size = 1)
    (v : Value) (n : Nat) (xs : List Value) (hs : a.eval s = v) (hown : w.ownsRow base e 1 v n xs) (ao : Option Addr) (m c : Nat) (news : List Value) (hx : a.eval x = .slice ao m c) (hl : news.length = m) (hr : Rd w ao news)
    (h1 : ∀ u ∈ news, u.oneCell' = true) (hm : n + m ≤ 1000000) (hb : bytes ≤ 1000) (hbase : base ≤ w.heap.size)
    (h : ∀ v' w', w'.ownsRow base e 1 v' (n + m) (xs ++ news) → w.grownBy w' v.ownBlock → wpList P ops Q rest (a.put o.dst v') w') : wpList P ops Q (o :: rest) a w := by
  have hbb : (n + m) * bytes ≤ 140737488355328 := by
    have := Nat.mul_le_mul hm hb
    omega
  cases ao with
  | none =>
    have hm0 : news = [] := by
      cases news with
      | nil => rfl
      | cons v0 r => obtain ⟨b, o', h1, _⟩ := hr 0 v0 rfl; cases h1
    subst hm0
    simp at hl; subst hl
    refine wpList_plain hgd fun K hK => ?_
    have hrun : (Builtin.append_ #[t, t] o.type #[v, .slice none 0 c]).run P w = .ok v w := by
      rcases hown.2 with ⟨rfl, rfl⟩ | ⟨g, cap, cur, rfl, _, _, hnc, _⟩
      · simp [Builtin.append_, run_underlying ht, sizeOf, typeInfo, hi, Builtin.lenOf, Builtin.firstCells]
      · simp [Builtin.append_, run_underlying ht, sizeOf, typeInfo, hi, Builtin.lenOf, Builtin.firstCells, hnc, storeCells]
    unfold Oper.wp
    simp [execOp, ho, resolve, invoke, builtin, hs, hx, hrun, Result.andThen]
    exact hK _ _ (h v w (by simpa using hown) (World.grownBy.refl _ _))
  | some ad =>
    refine wpList_append_own w hgd s x t ho base e i z 1 bytes ht hi hz hsize hby hzs (by decide) v n xs hs hown ad m c news hx (by omega) ?_ h1 (by unfold maxLen; omega) hbb hbase ?_
    · intro j u hj
      obtain ⟨b, o', e1, e2, e3⟩ := hr j u hj
      cases e1
      rw [add_at]; exact e3
    · intro v' w' h1 h2 _
      exact h v' w' h1 h2

set_option maxRecDepth 100000 in
set_option maxHeartbeats 1000000 in
theorem made_any (mode t l n s epoch size key : Nat) (name : ByteArray) (aP : Option Addr) (m c : Nat) (P : List UInt8) (w : World) (hp : IsPlan mode t l n) (hs : s < n) (he : epoch ≤ 100) (hz : size ≤ 60) (hnm : name.size ≤ 12)
    (hk : key < 18446744073709551616) (em : m = P.length) (hr : Rd w aP (bs P)) (hm : m ≤ 60) :
    Calls Tryz.prog 92 #[.agg #[.string name, .int .i64 mode, .int .i64 t, .int .i64 l, .int .i64 size, .int .i64 epoch, .int .i64 n, .int .i64 s], .slice aP m c, .int .u64 key] w fun e w' =>
      ∃ v, e = .returned v ∧ w'.ownsRow w.heap.size 5 1 v (10 + name.size + m + 8) (bs (Cof.sealed key (Cof.head mode t l n s epoch size name.data.toList ++ P))) ∧ Below w.heap.size w w' := by
  obtain ⟨i0, hi, hz0, hz1, hz2⟩ := info_parts Tryz.info5
  have hba := (Below.refl w.heap.size w).alloc (Nat.le_refl _) (.cells #[.string name, .int .i64 mode, .int .i64 t, .int .i64 l, .int .i64 size, .int .i64 epoch, .int .i64 n, .int .i64 s] 134)
  have HH := hid (head_any mode t l n s epoch size name (w.alloc (.cells #[.string name, .int .i64 mode, .int .i64 t, .int .i64 l, .int .i64 size, .int .i64 epoch, .int .i64 n, .int .i64 s] 134)) hp hs he hz hnm)
  have hHL : (Cof.head mode t l n s epoch size name.data.toList).length = 10 + name.size := by rw [Cof.length_head]; simp
  have HR := hid hr
  have EM := hid (show (bs P).length = m by rw [bs_length, em])
  have EA := hid (show 10 + name.size + m = (Cof.head mode t l n s epoch size name.data.toList ++ P).length by rw [List.length_append, hHL, em])
  have HK := hid hk
  have HO1 := hid (fun u hu => bs_one P u hu)
  clear hr em hp hs he hz hk hHL
  generalize Cof.head mode t l n s epoch size name.data.toList = hd at *
  go_enter Tryz.func92, Tryz.ntmps92
  go_wp2_with fail
  refine HH.out.mono ?_
  rintro e w1 ⟨v1, rfl, hown1, hb1⟩
  have hb01 : Below w.heap.size w w1 := hba.trans (hb1.mono (by simp))
  have hz01 := hb01.size
  have HV1 := hid (hown1.mono (show w.heap.size ≤ _ by simp))
  clear hown1
  go_wp2_with (first | (at_builtin; refine append_src2 _ rfl (.tmp 9) (.tmp 10) 44 rfl w.heap.size 5 i0 (Value.int .u8 0) 1 Tryz.underlying44 hi hz0 hz1 hz2 rfl _ (10 + name.size) (bs hd) rfl HV1.out aP m c (bs P) rfl EM.out (HR.out.below hb01 (Nat.le_refl _)) HO1.out (by omega) (by omega) hz01 ?_; intro v2 w2 hown2 hgrow2; have hb02 : Below w.heap.size w w2 := hb01.grown hgrow2 hz01 (fun k hk => (HV1.out.lt k hk).1); obtain ⟨a2, c2, rfl, hrd2⟩ := owns_any_rd hown2; have HV2 := hid hown2; have HR2 := hid hrd2; clear hown2 hgrow2 hrd2) | fail)
  have HR3 := hid (show Rd w2 a2 (bs (hd ++ P)) by rw [bs_append]; exact HR2.out)
  refine (tagOf_any a2 (10 + name.size + m) c2 (hd ++ P) key _ EA.out HR3.out (by omega) HK.out).mono ?_
  rintro e w3 ⟨g3, rfl, hown3, hb3⟩
  have hb03 : Below w.heap.size w w3 := hb02.trans (hb3.mono hb02.size)
  have hz03 := hb03.size
  have HV3 := hid (owns_below HV2.out hb3 (Nat.le_refl _))
  have HT := hid (owns_rd hown3)
  clear hown3
  go_wp2_with (first | (at_builtin; refine append_src _ rfl (.tmp 12) (.tmp 15) 44 rfl w.heap.size 5 i0 (Value.int .u8 0) 1 Tryz.underlying44 hi hz0 hz1 hz2 rfl _ (10 + name.size + m) (bs hd ++ bs P) rfl HV3.out (some ⟨g3, 0, none⟩) 8 8 (bs (Cof.high (Cof.tag key (hd ++ P)) 8)) rfl (by rw [bs_length, Cof.length_high]) HT.out nofun (fun u hu => bs_one _ u hu) (by omega) (by omega) hz03 ?_; intro v4 w4 hown4 hgrow4; have hb04 : Below w.heap.size w w4 := hb03.grown hgrow4 hz03 (fun k hk => (HV3.out.lt k hk).1); have HV4 := hid hown4; clear hown4 hgrow4) | fail)
  go_ret
  refine ⟨_, rfl, ?_, hb04⟩
  unfold Cof.sealed
  rw [bs_append, bs_append]
  exact HV4.out
end Go.Proofs.YtcegdgmbponapabGreatDoor

namespace Go.Proofs.YtcegdgmbponapabGreatDoor
open Go.RowKit

set_option maxRecDepth 100000 in
theorem equal_any (a1 a2 : Option Addr) (n1 c1 n2 c2 : Nat) (xs ys : List UInt8) (w : World) (e1 : n1 = xs.length) (e2 : n2 = ys.length) (r1 : Rd w a1 (bs xs)) (r2 : Rd w a2 (bs ys)) :
    Calls Tryz.prog 167 #[.slice a1 n1 c1, .slice a2 n2 c2] w fun e w' => e = .returned (.bool (decide (xs = ys))) ∧ w' = w := by
  have h1 := conv_string w a1 c1 n1 xs e1 r1
  have h2 := conv_string w a2 c2 n2 ys e2 r2
  clear e1 e2 r1 r2
  go_enter Tryz.func167, Tryz.ntmps167
  go_wp2
  go_ret
  refine ⟨congrArg (fun b => Ending.returned (.bool b)) ?_, rfl⟩
  rw [Bool.eq_iff_iff]
  simp

set_option maxRecDepth 100000 in
theorem prefix_any (a1 a2 : Option Addr) (n1 c1 n2 c2 : Nat) (xs ys : List UInt8) (w : World) (e1 : n1 = xs.length) (e2 : n2 = ys.length) (hc : n1 ≤ c1) (r1 : Rd w a1 (bs xs)) (r2 : Rd w a2 (bs ys)) :
    Calls Tryz.prog 166 #[.slice a1 n1 c1, .slice a2 n2 c2] w fun e w' => e = .returned (.bool (decide (xs.take n2 = ys))) ∧ w' = w := by
  by_cases h : n2 ≤ n1
  · have h' : (n2 : Int) ≤ (n1 : Int) := by omega
    have h2 : (n2 : Int) ≤ (c1 : Int) := by omega
    have HE := hid (fun c => equal_any a1 a2 n2 c n2 c2 (xs.take n2) ys w (by rw [List.length_take]; omega) e2 (by intro k v hk; exact r1 k v (by simp only [bs, List.map_take] at hk ⊢; rw [List.getElem?_take] at hk; split at hk; exact hk; cases hk)) r2)
    clear e1 e2 r1 r2
    go_enter Tryz.func166, Tryz.ntmps166
    go_wp2_with (go_at_call 167; refine (HE.out _).mono ?_; rintro e w1 ⟨rfl, rfl⟩)
    go_ret
    exact ⟨rfl, rfl⟩
  · have h' : ¬ (n2 : Int) ≤ (n1 : Int) := by omega
    have HD := hid (show decide (xs.take n2 = ys) = false by
      apply decide_eq_false
      intro e
      have := congrArg List.length e
      rw [List.length_take] at this
      omega)
    clear e1 e2 r1 r2
    go_enter Tryz.func166, Tryz.ntmps166
    go_wp2
    go_ret
    rw [HD.out]
    exact ⟨rfl, rfl⟩

set_option maxRecDepth 100000 in
theorem cloneB (a : Option Addr) (n c : Nat) (xs : List UInt8) (w : World) (en : n = xs.length) (hr : Rd w a (bs xs)) (hn : n ≤ 1000) (hsome : a ≠ none) :
    Calls Tryz.prog 168 #[.slice a n c] w fun e w' => ∃ v, e = .returned v ∧ w'.ownsRow w.heap.size 5 1 v n (bs xs) ∧ Below w.heap.size w w' := by
  obtain ⟨i0, hi, hz0, hz1, hz2⟩ := info_parts Tryz.info5
  obtain ⟨b, rfl⟩ : ∃ b, a = some b := by cases a with | none => exact absurd rfl hsome | some b => exact ⟨b, rfl⟩
  have HL := hid (show (bs xs).length = n by rw [bs_length, en])
  have HR := hid hr
  have hba := (Below.refl w.heap.size w).alloc (Nat.le_refl _) (.cells #[] 5)
  have hq := Lib.run_eql_slice_nil (P := Tryz.prog) w 44 5 (some b) n c 0 0 Tryz.underlying44
  have HE := hid (show (w.alloc (.cells #[] 5)).ownsRow w.heap.size 5 1 (.slice (some ⟨w.heap.size, 0, none⟩) 0 0) 0 [] from owns_of_block (L := []) (by show (w.heap.push _)[w.heap.size]? = _; simp) (Nat.le_refl _) rfl (by unfold maxLen; omega))
  clear en hr hsome
  go_enter Tryz.func168, Tryz.ntmps168
  go_wp2_with (first | (at_builtin; refine append_src _ rfl (.tmp 5) (.tmp 6) 44 rfl w.heap.size 5 i0 (Value.int .u8 0) 1 Tryz.underlying44 hi hz0 hz1 hz2 rfl _ 0 [] rfl HE.out (some b) n c (bs xs) rfl HL.out (HR.out.below hba (Nat.le_refl _)) nofun (fun u hu => bs_one _ u hu) (by omega) (by omega) (by simp) ?_; intro v2 w2 hown2 hgrow2; rw [Nat.zero_add, List.nil_append] at hown2; have hb2 : Below w.heap.size w w2 := hba.grown hgrow2 (by simp) (fun k hk => (HE.out.lt k hk).1); have HO2 := hid hown2; clear hown2 hgrow2) | fail)
  go_ret
  exact ⟨_, rfl, HO2.out, hb2⟩
end Go.Proofs.YtcegdgmbponapabGreatDoor
