import Derived.Shelf.Sort.Plain
import Derived.Test.YtcegdgmbponapaaGreatDoorProg
namespace Go.Proofs
open Go.Shelf
def Tryz.lays190_ren : Go.Shelf.Ren := ⟨fun | 190 => 229 | 125 => 249 | 258 => 248 | 128 => 268 | 129 => 269 | 302 => 259 | 303 => 260 | 304 => 261 | 305 => 262 | 306 => 263 | 307 => 264 | 308 => 265 | 309 => 266 | 310 => 267 | 333 => 275 | 329 => 276 | 330 => 277 | 334 => 278 | 335 => 279 | 336 => 280 | 344 => 283 | n => n, fun | 31 => 30 | 9 => 9 | 3 => 3 | 46 => 281 | 0 => 0 | 51 => 315 | 53 => 22 | 4 => 4 | 183 => 358 | 182 => 357 | 131 => 227 | 5 => 5 | 218 => 370 | 222 => 374 | 228 => 377 | 229 => 378 | n => n, fun | n => n⟩
theorem Tryz.lays190 : Go.Proofs.Lays.n190 Tryz.prog Tryz.lays190_ren := {
  mixed := by kernel_rfl
  f125 := Tryz.func249.trans (congrArg some (by kernel_rfl))
  f128 := Tryz.func268.trans (congrArg some (by kernel_rfl))
  f129 := Tryz.func269.trans (congrArg some (by kernel_rfl))
  f190 := Tryz.func229.trans (congrArg some (by kernel_rfl))
  f258 := Tryz.func248.trans (congrArg some (by kernel_rfl))
  f302 := Tryz.func259.trans (congrArg some (by kernel_rfl))
  f303 := Tryz.func260.trans (congrArg some (by kernel_rfl))
  f304 := Tryz.func261.trans (congrArg some (by kernel_rfl))
  f305 := Tryz.func262.trans (congrArg some (by kernel_rfl))
  f306 := Tryz.func263.trans (congrArg some (by kernel_rfl))
  f307 := Tryz.func264.trans (congrArg some (by kernel_rfl))
  f308 := Tryz.func265.trans (congrArg some (by kernel_rfl))
  f309 := Tryz.func266.trans (congrArg some (by kernel_rfl))
  f310 := Tryz.func267.trans (congrArg some (by kernel_rfl))
  f329 := Tryz.func276.trans (congrArg some (by kernel_rfl))
  f330 := Tryz.func277.trans (congrArg some (by kernel_rfl))
  f333 := Tryz.func275.trans (congrArg some (by kernel_rfl))
  f334 := Tryz.func278.trans (congrArg some (by kernel_rfl))
  f335 := Tryz.func279.trans (congrArg some (by kernel_rfl))
  f336 := Tryz.func280.trans (congrArg some (by kernel_rfl))
  f344 := Tryz.func283.trans (congrArg some (by kernel_rfl))
  t0 := Tryz.underlying0
  a0 := Tryz.isAgg0
  z0 := Tryz.sizeOf0
  v0 := Tryz.zeroValue0
  t3 := Tryz.underlying3
  a3 := Tryz.isAgg3
  z3 := Tryz.sizeOf3
  v3 := Tryz.zeroValue3
  t4 := Tryz.underlying4
  a4 := Tryz.isAgg4
  z4 := Tryz.sizeOf4
  v4 := Tryz.zeroValue4
  t5 := Tryz.underlying5
  a5 := Tryz.isAgg5
  z5 := Tryz.sizeOf5
  v5 := Tryz.zeroValue5
  t9 := Tryz.underlying9
  a9 := Tryz.isAgg9
  z9 := Tryz.sizeOf9
  v9 := Tryz.zeroValue9
  t31 := Tryz.underlying30
  a31 := Tryz.isAgg30
  z31 := Tryz.sizeOf30
  v31 := Tryz.zeroValue30
  t46 := Tryz.underlying281
  a46 := Tryz.isAgg281
  z46 := Tryz.sizeOf281
  v46 := Tryz.zeroValue281
  t51 := Tryz.underlying315
  a51 := Tryz.isAgg315
  z51 := Tryz.sizeOf315
  v51 := Tryz.zeroValue315
  t53 := Tryz.underlying22
  a53 := Tryz.isAgg22
  z53 := Tryz.sizeOf22
  v53 := Tryz.zeroValue22
  t131 := Tryz.underlying227
  a131 := Tryz.isAgg227
  z131 := Tryz.sizeOf227
  v131 := Tryz.zeroValue227
  t182 := Tryz.underlying357
  a182 := Tryz.isAgg357
  z182 := Tryz.sizeOf357
  v182 := Tryz.zeroValue357
  t183 := Tryz.underlying358
  a183 := Tryz.isAgg358
  z183 := Tryz.sizeOf358
  v183 := Tryz.zeroValue358
  t218 := Tryz.underlying370
  a218 := Tryz.isAgg370
  z218 := Tryz.sizeOf370
  v218 := Tryz.zeroValue370
  t222 := Tryz.underlying374
  a222 := Tryz.isAgg374
  z222 := Tryz.sizeOf374
  v222 := Tryz.zeroValue374
  t228 := Tryz.underlying377
  a228 := Tryz.isAgg377
  z228 := Tryz.sizeOf377
  v228 := Tryz.zeroValue377
  t229 := Tryz.underlying378
  a229 := Tryz.isAgg378
  z229 := Tryz.sizeOf378
  v229 := Tryz.zeroValue378 }
open Go.Sort Go.RowKit in
theorem Tryz.slices_Sort_string (blk off cap : Nat) (ss : List (List UInt8)) (w : World) (hH : Holds encStr w blk off ss.toArray) (hblk : blk < w.heap.size) (hsz : ss.length < 4611686018427387904) :
    Calls Tryz.prog 229 #[.slice (some ⟨blk, off, none⟩) ss.length cap] w fun e w' =>
      e = .returned (.tuple #[]) ∧ ∃ n os, w' = grow (putRow encStr (Sort.ahead w n) blk off (ss.mergeSort fun x y => decide (x ≤ y)).toArray) os := Any.slices_Sort_string Tryz.lays190 blk off cap ss w hH hblk hsz
end Go.Proofs
