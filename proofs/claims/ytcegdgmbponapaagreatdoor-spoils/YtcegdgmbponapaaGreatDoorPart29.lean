import Derived.Test.YtcegdgmbponapaaGreatDoorPart28
set_option maxRecDepth 100000
set_option maxHeartbeats 4000000
namespace Go.Proofs.YtcegdgmbponapaaGreatDoor
open Go.RowKit
attribute [local go_sem ↓] Go.wp_at_zero Go.wp_at_succ
structure StepV where
 kind:Int
 a:Int
 b:Int
 c:Int
 d:Int
 v:ByteArray
 tp:ByteArray
 m:Int
 t:Int
 l:Int
theorem Bank.mine_ge {w:World} {L:Seat} {s:Sta} (h:Bank w L s) {b:Nat} (hb:Mine L s b):L.base≤b:=by
 rcases hb with e | ⟨i,hi,e | e⟩|⟨i,hi,r,hr,hb⟩
 ·rw [e];exact h.bV
 ·rw [e];exact h.bsp i hi
 ·exact h.bv i hi b e
 ·exact ((h.ok i hi r hr).at hb).1
section
variable {w:World} {L:Seat} {s:Sta}
end
section
variable {key n:Nat} {rss rss':Nat→List RecV} {X X':Nat→List UInt8} {V:ByteArray→Option ByteArray}
end
theorem qek {key len:Nat} {hd X P Q:List UInt8} (h:Cof.Good key hd len X P) (g:Cof.Good key hd len X Q):P=Q:=by
 obtain ⟨_,_,h3⟩:=qbH rfl h
 obtain ⟨_,_,g3⟩:=qbH rfl g
 rw [h3,g3]
section
variable {w:World} {L:Seat} {s:Sta} {V:ByteArray→Option ByteArray}
theorem Bank.hasAll (h:Bank w L s) (hc:Calm L s) (x:ByteArray) (hx:hasName (s.rss 0) x=true) (i:Nat) (hi:i<L.n):hasName (s.rss i) x=true:=by
 rw [hc.2.hasName h.n1 h.so x i hi];exact hx
end
end Go.Proofs.YtcegdgmbponapaaGreatDoor