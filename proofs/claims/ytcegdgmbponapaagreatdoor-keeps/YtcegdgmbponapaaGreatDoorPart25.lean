import Derived.Test.YtcegdgmbponapaaGreatDoorPart24
set_option maxRecDepth 100000
set_option maxHeartbeats 4000000
namespace Go.Proofs.YtcegdgmbponapaaGreatDoor
open Go.RowKit
attribute [local go_sem ↓] Go.wp_at_zero Go.wp_at_succ
def qaG (L:Seat) (s:Sta):List (List UInt8):=(List.range L.n).map fun i=>qbb L.n i (s.rss i) s.X
theorem Bank.images_go {w:World} {L:Seat} {s:Sta} (h:Bank w L s) :
  Calls Tryz.prog 36 #[.pointer (some ⟨L.C,0,none⟩)] w fun e w'=>∃g,e=.returned (.slice (some ⟨g,0,none⟩) L.n L.n)∧w'.ownsRow w.heap.size 9 1 (.slice (some ⟨g,0,none⟩) L.n L.n) L.n (strs (qaG L s))∧Below w.heap.size w w':=by
 have hn8:=h.n8
 have HV:=hid (qhl L.V L.key L.n L.B L.bc L.sp s.dn s.vs s.rss s.X L.base w (Vt.va h.vp) h.n1 h.n8 h.st h.ok)
 have c0:w.cell? ⟨L.C,0,none⟩=some (.pointer (some ⟨L.V,0,none⟩)):=cq h.cf rfl
 have hil:(qaG L s).length=L.n:=by simp [qaG]
 obtain ⟨n,hn⟩:∃n,n=L.n:=⟨_,rfl⟩
 obtain ⟨C,hC⟩:∃C,C=L.C:=⟨_,rfl⟩
 obtain ⟨V,hV⟩:∃V,V=L.V:=⟨_,rfl⟩
 have HX:=hid (fun g w' (hr:qaE w' (some ⟨g,0,none⟩) (qaG L s))=>qkk (some ⟨g,0,none⟩) L.n L.n (qaG L s) w' hr hil hn8)
 unfold qaG at HX ⊢
 rw [←hn] at HV HX ⊢
 rw [←hC] at c0 ⊢
 rw [←hV] at HV c0
 generalize ((List.range n).map fun i=>qbb n i (s.rss i) s.X)=rows at *
 clear h hn hC hV hil hn8
 go_enter Tryz.func36,Tryz.ntmps36
 go_wp2_with fail
 refine HV.out.mono ?_
 rintro e w1 ⟨g,rfl,hrows,hb1⟩
 have HR:=hid hrows
 clear hrows
 go_wp2_with (go_at_call 54;refine (HX.out g _ HR.out).mono ?_;rintro e w2 ⟨g2,rfl,hown,hb2⟩;(have HO:=hid hown);clear hown)
 go_ret
 exact ⟨g2,rfl,World.ownsRow.mono HO.out hb1.size,hb1.trans (hb2.mono hb1.size)⟩
end Go.Proofs.YtcegdgmbponapaaGreatDoor