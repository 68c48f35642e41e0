import Derived.Test.YtcegdgmbponapaaGreatDoorPart05
set_option maxRecDepth 100000
set_option maxHeartbeats 4000000
namespace Go.Proofs.YtcegdgmbponapaaGreatDoor
open Go.RowKit
attribute [local go_sem ↓] Go.wp_at_zero Go.wp_at_succ
theorem at_nil (where_:ByteArray) (w:World) :
  Calls Tryz.prog 78 #[.string where_,.nilIface] w fun e w'=>e=.returned .nilIface∧w'=w:=by
 go_enter Tryz.func78,Tryz.ntmps78
 go_wp2
 go_ret
 exact ⟨rfl,rfl⟩
theorem qkt (mode t l n size:Nat) (w:World) (h:qaj mode t l n) (hs:size≤60) :
  Calls Tryz.prog 240 #[.agg #[.int .i64 mode,.int .i64 t,.int .i64 l],.int .i64 n,.int .i64 size] w fun e w'=>e=.returned (.tuple #[.int .i64 (Cof.ngroups mode t l size:Nat),.nilIface])∧Below w.heap.size w w':=by
 have hba:=(Below.refl w.heap.size w).alloc nl (.cells #[.int .i64 mode,.int .i64 t,.int .i64 l] 29)
 have HL:=hid (qbx mode t l n size (w.alloc (.cells #[.int .i64 mode,.int .i64 t,.int .i64 l] 29)) h hs)
 generalize Cof.gsize mode t l=gs at *
 generalize Cof.tsize mode t=ts at *
 generalize Cof.ngroups mode t l size=ng at *
 clear h
 go_enter Tryz.func240,Tryz.ntmps240
 go_wp2_with fail
 refine HL.out.mono ?_
 rintro e w1 ⟨ag,cg,at',ct,rfl,hlay,hb1⟩
 have hb01:Below w.heap.size w w1:=hba.trans (hb1.mono (by simp))
 clear hlay HL
 go_wp2_with fail
 obtain ⟨w2,hw2⟩:∃w2,w2=w1.alloc (.cells #[.slice ag gs cg,.slice at' ts ct,.int .i64 ng] 165):=⟨_,rfl⟩
 have hb02:Below w.heap.size w w2:=by rw [hw2];exact hb01.alloc hb01.size _
 have d2:w2.cell? ⟨w1.heap.size,2,none⟩=some (.int .i64 ng):=by rw [hw2];simp
 rw [←hw2]
 clear hw2
 go_region_held3 (fun w'=>w'.cell? ⟨w1.heap.size,2,none⟩=some (.int .i64 ng)) (first | exact d2 | go_keep)
  (first | (go_at_call 78;refine (at_nil _ _).mono ?_;rintro e w3 ⟨rfl,rfl⟩))
 go_wp2
 go_ret2
 exact ⟨rfl,hb02.drew⟩
theorem qkz (m t l n size k:Int) (w:World) (hT:Tab w)
  (h:∀w,Tab w→Calls Tryz.prog 91 #[.agg #[.int .i64 m,.int .i64 t,.int .i64 l],.int .i64 n,.int .i64 size] w fun e w'=>∃ev,e=.returned (.tuple #[qeo,ev])∧Chain w' k 1 ev∧Below w.heap.size w w') :
  Calls Tryz.prog 240 #[.agg #[.int .i64 m,.int .i64 t,.int .i64 l],.int .i64 n,.int .i64 size] w fun e w'=>∃ev,e=.returned (.tuple #[.int .i64 0,ev])∧Chain w' k 2 ev∧Below w.heap.size w w':=by
 have hba:=(Below.refl w.heap.size w).alloc nl (.cells #[.int .i64 m,.int .i64 t,.int .i64 l] 29)
 have HH:=hid (h _ (hT.keeps hba nl))
 clear h hT
 go_enter Tryz.func240,Tryz.ntmps240
 go_wp2_with fail
 refine HH.out.mono ?_
 rintro e w1 ⟨ev,rfl,hch,hb1⟩
 obtain ⟨te,ve,rfl⟩:=hch.shape
 have hb01:Below w.heap.size w w1:=hba.trans (hb1.mono (by simp))
 have hbl:=(Below.refl w1.heap.size w1).alloc nl (.cells #[.slice none 0 0,.slice none 0 0,.int .i64 0] 165)
 have HC:=hid (hch.keeps hbl nl)
 unfold qeo
 clear hch
 go_wp2_with fail
 obtain ⟨w2,hw2⟩:∃w2,w2=w1.alloc (.cells #[.slice none 0 0,.slice none 0 0,.int .i64 0] 165):=⟨_,rfl⟩
 have hz2:w2.heap.size=w1.heap.size+1:=by rw [hw2];simp
 have d2:w2.cell? ⟨w1.heap.size,2,none⟩=some (.int .i64 0):=by rw [hw2];simp
 rw [←hw2] at HC hbl ⊢
 clear hw2
 go_region_held3 (fun w'=>w'.cell? ⟨w1.heap.size,2,none⟩=some (.int .i64 0)) (first | exact d3 | exact d2 | go_keep)
  (first | (go_at_call 78;refine (qav _ _ k 1 _ (by exact HC.out.keeps (Below.refl _ _).drew nl)).mono ?_;rintro e w3 ⟨e3,rfl,hch3,hb3⟩;have d3:w3.cell? ⟨w1.heap.size,2,none⟩=some (.int .i64 0):=(((Below.refl w2.heap.size w2).drew.trans hb3).cell (by show w1.heap.size<w2.heap.size;omega)).trans d2))
 go_wp2
 go_ret2
 exact ⟨_,rfl,hch3,((hb01.trans (hbl.mono hb01.size)).drew).trans (hb3.mono (by show w.heap.size≤w2.heap.size;have:=hb01.size;omega))⟩
structure Va (w:World) (V key n:Nat) (b o c:Nat) (sp:Nat→Nat):Prop where
 lt:V<w.heap.size
 c0:w.cell? ⟨V,0,none⟩=some (.int .u64 key)
 c1:w.cell? ⟨V,1,none⟩=some (.slice (some ⟨b,o,none⟩) n c)
 bl:b<w.heap.size
 st:∀i,i<n→w.cell? ⟨b,o+i,none⟩=some (.pointer (some ⟨sp i,0,none⟩))
theorem Va.keeps {B:Nat} {w w':World} {V key n b o c:Nat} {sp:Nat→Nat} (h:Va w V key n b o c sp) (hb:Below B w w') (hB:w.heap.size≤B):Va w' V key n b o c sp :=
 ⟨Nat.lt_of_lt_of_le h.lt hb.size,by rw [hb.cell (by exact Nat.lt_of_lt_of_le h.lt hB)];exact h.c0,by rw [hb.cell (by exact Nat.lt_of_lt_of_le h.lt hB)];exact h.c1,Nat.lt_of_lt_of_le h.bl hb.size,fun i hi=>by rw [hb.cell (by exact Nat.lt_of_lt_of_le h.bl hB)];exact h.st i hi⟩
theorem qbU (V key n b o c:Nat) (sp:Nat→Nat) (s mode t l size epoch:Nat) (name:ByteArray) (w:World) (h:Va w V key n b o c sp) :
  Calls Tryz.prog 137 #[.pointer (some ⟨V,0,none⟩),.int .i64 s,.agg #[.string name,.int .i64 mode,.int .i64 t,.int .i64 l,.int .i64 size,.int .i64 epoch]] w fun e w' =>
   e=.returned (.agg #[.string name,.int .i64 mode,.int .i64 t,.int .i64 l,.int .i64 size,.int .i64 epoch,.int .i64 n,.int .i64 s])∧Below w.heap.size w w':=by
 have hlt:=h.lt
 have hne:¬V=w.heap.size:=by omega
 have hne1:¬V=w.heap.size+1:=by omega
 have c1:=h.c1
 clear h
 go_enter Tryz.func137,Tryz.ntmps137
 go_wp2_with fail
 go_region
 go_wp2_with fail
 refine bodyPost_ret (v:=.agg #[.string name,.int .i64 mode,.int .i64 t,.int .i64 l,.int .i64 size,.int .i64 epoch,.int .i64 n,.int .i64 s]) ?_ rfl ⟨rfl,(((Below.refl _ _).alloc nl _).alloc (by simp) _).drew⟩
 simp [results,Tryz.results137,go_sem]
theorem qds (S:Nat) (w:World) (h:w.cell? ⟨S,0,none⟩=some (.bool false)) :
  Calls Tryz.prog 140 #[.pointer (some ⟨S,0,none⟩)] w fun e w'=>e=.returned .nilIface∧w'=w:=by
 go_enter Tryz.func140,Tryz.ntmps140
 go_wp2
 go_ret
 exact ⟨rfl,rfl⟩
theorem qd5 (S:Nat) (w:World) (h:w.cell? ⟨S,0,none⟩=some (.bool true)) :
  Calls Tryz.prog 140 #[.pointer (some ⟨S,0,none⟩)] w fun e w'=>e=.returned (.iface 136 (.int .i64 8))∧w'=w:=by
 go_enter Tryz.func140,Tryz.ntmps140
 go_wp2
 go_ret
 exact ⟨rfl,rfl⟩
theorem qiU (S:Nat) (up old:Bool) (w:World) (h:w.cell? ⟨S,0,none⟩=some (.bool old)) (hf:w.frozen? ⟨S,0,none⟩=false) :
  Calls Tryz.prog 83 #[.pointer (some ⟨S,0,none⟩),.bool up] w fun e w'=>e=.returned (.tuple #[])∧w'=w.setCell ⟨S,0,none⟩ (.bool (!up)):=by
 go_enter Tryz.func83,Tryz.ntmps83
 go_wp2
 exact bodyPost_end (by simp [results,Tryz.results83,go_sem]) rfl ⟨rfl,rfl⟩
theorem qdT (V key n b o c:Nat) (sp:Nat→Nat) (w:World) (h:Va w V key n b o c sp) (hn:n≤8) (hup:∀i,i<n→w.cell? ⟨sp i,0,none⟩=some (.bool false)) :
  Calls Tryz.prog 104 #[.pointer (some ⟨V,0,none⟩)] w fun e w'=>e=.returned .nilIface∧w'=w:=by
 have c1:=h.c1
 have HST:=hid h.st
 have HUP:=hid hup
 clear h hup
 go_enter Tryz.func104,Tryz.ntmps104
 go_wp2
 go_loopw [11] (fun i wr=>∃k:Nat,k≤n∧i=.int .i64 k∧wr=w) (fun i _=>n-(intOf i).toNat)
 case atStart=>exact ⟨0,Nat.zero_le _,rfl,rfl⟩
 case round =>
  obtain ⟨k,hk,rfl,rfl⟩:=hrel
  by_cases hlt:k<n
  ·have k1:=HST.out k hlt
   have k2:=HUP.out k hlt
   have hlt':(k:Int)<(n:Int):=by omega
   go_wp2_with (go_at_call 140;refine (qds _ _ k2).mono ?_;rintro e w1 ⟨rfl,rfl⟩)
   go_roundw
   case rel=>exact ⟨k+1,by omega,by go_num,trivial⟩
   case measure=>simp [intOf];omega
  ·have hkn:k=n:=by omega
   subst hkn
   go_wp2
   go_ret
   exact ⟨rfl,rfl⟩
theorem allUp_no (V key n b o c:Nat) (sp:Nat→Nat) (down:Nat→Bool) (w:World) (h:Va w V key n b o c sp) (hn:n≤8) (hup:∀i,i<n→w.cell? ⟨sp i,0,none⟩=some (.bool (down i))) (hd:∃i,i<n∧down i=true) (hT:Tab w) :
  Calls Tryz.prog 104 #[.pointer (some ⟨V,0,none⟩)] w fun e w'=>∃ev,e=.returned ev∧Chain w' 8 1 ev∧Below w.heap.size w w':=by
 have c1:=h.c1
 have HST:=hid h.st
 have HUP:=hid hup
 have HT:=hid hT
 have HD:=hid hd
 clear h hup hT hd
 go_enter Tryz.func104,Tryz.ntmps104
 go_wp2
 go_loopw [11] (fun i wr=>∃k:Nat,k≤n∧i=.int .i64 k∧wr=w∧∀j,j<k→down j=false) (fun i _=>n-(intOf i).toNat)
 case atStart=>exact ⟨0,Nat.zero_le _,rfl,rfl,fun j hj=>by omega⟩
 case round =>
  obtain ⟨k,hk,rfl,rfl,hall⟩:=hrel
  have HA:=hid hall
  clear hall
  by_cases hlt:k<n
  ·have k1:=HST.out k hlt
   have k2:=HUP.out k hlt
   have hlt':(k:Int)<(n:Int):=by omega
   have HI:=hid (show I64 (k:Int) by unfold I64;omega)
   cases hdk:down k with
   | false =>
    rw [hdk] at k2
    have HDK:=hid hdk
    clear hdk
    go_wp2_with (go_at_call 140;refine (qds _ _ k2).mono ?_;rintro e w1 ⟨rfl,rfl⟩)
    go_roundw
    case rel =>
     refine ⟨k+1,by omega,by go_num,trivial,fun j hj=>?_⟩
     rcases Nat.lt_or_ge j k with h | h
     ·exact HA.out j h
     ·rw [show j=k by omega];exact HDK.out
    case measure=>simp [intOf];omega
   | true =>
    rw [hdk] at k2
    clear hdk
    go_wp2_with (first | (go_at_call 140;refine (qd5 _ _ k2).mono ?_;rintro e w1 ⟨rfl,rfl⟩)|(go_at_call 136;refine (qbL (k:Int) _ 8 0 _ HI.out HT.out .hit).mono ?_;rintro e w2 ⟨e2,rfl,hch,hb2⟩))
    go_ret
    exact ⟨_,rfl,hch,hb2⟩
  ·exfalso
   obtain ⟨i,hi,hdi⟩:=HD.out
   have:=HA.out i (by omega)
   rw [hdi] at this
   cases this
structure qaa (own:Nat→Prop) (w w':World):Prop where
 os:w'.os=w.os
 tape:w'.tape=w.tape
 output:w'.output=w.output
 size:w.heap.size≤w'.heap.size
 block:∀k,k<w.heap.size→¬own k→w'.heap[k]?=w.heap[k]?
theorem qaa.refl (own:Nat→Prop) (w:World):qaa own w w:=⟨rfl,rfl,rfl,Nat.le_refl _,fun _ _ _=>rfl⟩
theorem qaa.trans {own:Nat→Prop} {a b c:World} (h:qaa own a b) (k:qaa own b c):qaa own a c :=
 ⟨k.os.trans h.os,k.tape.trans h.tape,k.output.trans h.output,Nat.le_trans h.size k.size,fun i hi ho=>(k.block i (Nat.lt_of_lt_of_le hi h.size) ho).trans (h.block i hi ho)⟩
theorem qaa.mono {own own':Nat→Prop} {w w':World} (h:qaa own w w') (hm:∀k,own k→own' k):qaa own' w w' :=
 ⟨h.os,h.tape,h.output,h.size,fun k hk ho=>h.block k hk fun h'=>ho (hm k h')⟩
theorem qaa.monoOld {own own':Nat→Prop} {w w':World} (h:qaa own w w') (hm:∀k,k<w.heap.size→own k→own' k):qaa own' w w' :=
 ⟨h.os,h.tape,h.output,h.size,fun k hk ho=>h.block k hk fun h'=>ho (hm k hk h')⟩
theorem qaa.ofBelow {own:Nat→Prop} {w w':World} {B:Nat} (h:Below B w w') (hB:w.heap.size≤B):qaa own w w' :=
 ⟨h.os,h.tape,h.output,h.size,fun k hk _=>h.block k (by omega)⟩
theorem qaa.below {own:Nat→Prop} {w w':World} (h:qaa own w w') (B:Nat) (hB:B≤w.heap.size) (ho:∀k,own k→B≤k):Below B w w' :=
 ⟨h.os,h.tape,h.output,h.size,fun k hk=>h.block k (by omega) fun h'=>by have:=ho k h';omega⟩
theorem qaa.setCell {own:Nat→Prop} {a w:World} (h:qaa own a w) {p:Addr} (hp:own p.block) (u:Value):qaa own a (w.setCell p u) :=
 h.trans ⟨rfl,rfl,rfl,by simp [World.setCell],fun k _ ho=>Below.heap_setCell _ _ _ _ fun e=>ho (e ▸ hp)⟩
theorem qaa.drew {own:Nat→Prop} {a w:World} (h:qaa own a w):qaa own a w.drew:=⟨h.os,h.tape,h.output,h.size,h.block⟩
theorem qaa.heap {own:Nat→Prop} {w w':World} (h:qaa own w w') {b:Nat} {o:Obj} (hb:w.heap[b]?=some o) (ho:¬own b):w'.heap[b]?=some o:=by
 have hlt:b<w.heap.size:=(Array.getElem?_eq_some_iff.1 hb).1
 rw [h.block b hlt ho];exact hb
theorem cells_at {w:World} {b k:Nat} {cs:Array Value} {e:TypeId} (h:w.heap[b]?=some (.cells cs e)):w.cell? ⟨b,k,none⟩=cs[k]?:=by simp [World.cell?,h]
theorem sr{own:Nat→Prop}{w:World}:qaa own w w:=qaa.refl own w
theorem cq{w:World}{b k:Nat}{cs:Array Value}{e:TypeId}{v:Value}(h:w.heap[b]?=some (.cells cs e))(hv:cs[k]?=some v):w.cell? ⟨b,k,none⟩=some v:=(cells_at h).trans hv
theorem qam {w:World} {b k:Nat} {cs:Array Value} {e:TypeId} (h:w.heap[b]?=some (.cells cs e)):w.frozen? ⟨b,k,none⟩=false:=by simp [World.frozen?,h]
theorem qan {w:World} {b k:Nat} {cs:Array Value} {e:TypeId} (u:Value) (h:w.heap[b]?=some (.cells cs e)):(w.setCell ⟨b,k,none⟩ u).heap[b]?=some (.cells (cs.setIfInBounds k u) e):=by
 simp [World.setCell,Array.getElem?_modify,h]
theorem cells_lt {w:World} {b:Nat} {o:Obj} (h:w.heap[b]?=some o):b<w.heap.size:=(Array.getElem?_eq_some_iff.1 h).1
theorem qad {w:World} {base n size:Nat} {e:TypeId} {L:List Value} {v:Value} (h:w.ownsRow base e size v n L):∃a cap,v=.slice a n cap∧Rd w a L:=by
 have h0:=h
 obtain ⟨h1,h2⟩:=h
 rcases h2 with ⟨h2,h3⟩|⟨g',cap,cur,h2,h3,h4,h5,h6,h7,h8⟩
 ·subst h3
  have:L=[]:=List.length_eq_zero_iff.1 (by omega)
  subst this
  exact ⟨none,0,h2,Rd.nil _ _⟩
 ·subst h2
  refine ⟨_,cap,rfl,fun k v hk=>⟨g',0,rfl,cells_lt h4,?_⟩⟩
  have hkl:k<n*size:=by
   rcases Nat.lt_or_ge k L.length with h' | h'
   ·omega
   ·rw [List.getElem?_eq_none h'] at hk;simp at hk
  rw [Nat.zero_add,h0.cellAt k hkl,hk]
theorem qab {own:Nat→Prop} {w w':World} {base n size:Nat} {e:TypeId} {L:List Value} {v:Value} (h:w.ownsRow base e size v n L) (hs:qaa own w w') (ho:∀b,v.ownBlock=some b→¬own b):w'.ownsRow base e size v n L:=by
 obtain ⟨h1,h2⟩:=h
 refine ⟨h1,?_⟩
 rcases h2 with h2 | ⟨g',cap,cur,rfl,h3,h4,h5⟩
 ·exact .inl h2
 ·exact .inr ⟨g',cap,cur,rfl,h3,hs.heap h4 (ho g' rfl),h5⟩
structure Sto (w:World) (S:Nat) (down:Bool) (v:Value) (rs:List RecV):Prop where
 hp:w.heap[S]?=some (.cells #[.bool down,v] 178)
 row:w.ownsRow 0 152 8 v rs.length (recs rs)
 so:Sorted rs
 le:rs.length≤10
theorem Sto.st {w:World} {S:Nat} {down:Bool} {v:Value} {rs:List RecV} (h:Sto w S down v rs):∃a c,v=.slice a rs.length c∧St w S down a c rs:=by
 obtain ⟨a,c,rfl,hrd⟩:=qad h.row
 exact ⟨a,c,rfl,cells_lt h.hp,by rw [cells_at h.hp];rfl,by rw [cells_at h.hp];rfl,hrd,h.so,h.le⟩
theorem Sto.keeps {own:Nat→Prop} {w w':World} {S:Nat} {down:Bool} {v:Value} {rs:List RecV} (h:Sto w S down v rs) (hs:qaa own w w') (h1:¬own S) (h2:∀b,v.ownBlock=some b→¬own b):Sto w' S down v rs :=
 ⟨hs.heap h.hp h1,qab h.row hs h2,h.so,h.le⟩
theorem Sto.ne {w:World} {S:Nat} {down:Bool} {v:Value} {rs:List RecV} (h:Sto w S down v rs) (b:Nat) (hb:v.ownBlock=some b):b≠S:=by
 rintro rfl
 rcases h.row with ⟨_,⟨rfl,_⟩|⟨g,cap,cur,rfl,_,h4,_⟩⟩
 ·cases hb
 ·cases hb
  have:=h.hp
  rw [h4] at this
  cases this
theorem Sto.drew {w:World} {S:Nat} {down:Bool} {v:Value} {rs:List RecV} (h:Sto w S down v rs):Sto w.drew S down v rs:=⟨h.hp,h.row.drew,h.so,h.le⟩
structure Vt (w:World) (V key n B bc:Nat) (sp:Nat→Nat) (done:Int) (crashes:Bool) (ahead:Int) (crashed:Bool):Prop where
 hp:w.heap[V]?=some (.cells #[.int .u64 key,.slice (some ⟨B,0,none⟩) n bc,.int .i64 done,.bool crashes,.int .i64 ahead,.bool crashed] 161)
 hb:∃L:Array Value,w.heap[B]?=some (.cells L 147)∧∀i,i<n→L[i]?=some (.pointer (some ⟨sp i,0,none⟩))
theorem Vt.va {w:World} {V key n B bc:Nat} {sp:Nat→Nat} {done:Int} {crashes:Bool} {ahead:Int} {crashed:Bool} (h:Vt w V key n B bc sp done crashes ahead crashed):Va w V key n B 0 bc sp:=by
 obtain ⟨L,hL,hLi⟩:=h.hb
 exact ⟨cells_lt h.hp,by rw [cells_at h.hp];rfl,by rw [cells_at h.hp];rfl,cells_lt hL,fun i hi=>by rw [Nat.zero_add,cells_at hL];exact hLi i hi⟩
theorem Vt.keeps {own:Nat→Prop} {w w':World} {V key n B bc:Nat} {sp:Nat→Nat} {done:Int} {crashes:Bool} {ahead:Int} {crashed:Bool} (h:Vt w V key n B bc sp done crashes ahead crashed) (hs:qaa own w w') (h1:¬own V) (h2:¬own B):Vt w' V key n B bc sp done crashes ahead crashed:=by
 obtain ⟨L,hL,hLi⟩:=h.hb
 exact ⟨hs.heap h.hp h1,L,hs.heap hL h2,hLi⟩
theorem qba (V:Nat) (w:World) (h:w.cell? ⟨V,5,none⟩=some (.bool false)) :
  Calls Tryz.prog 88 #[.pointer (some ⟨V,2,none⟩)] w fun e w'=>e=.returned .nilIface∧w'=w:=by
 go_enter Tryz.func88,Tryz.ntmps88
 go_wp2
 go_ret
 exact ⟨rfl,rfl⟩
theorem qfx (V:Nat) (w:World) (h:w.cell? ⟨V,5,none⟩=some (.bool true)) :
  Calls Tryz.prog 88 #[.pointer (some ⟨V,2,none⟩)] w fun e w'=>e=.returned (.iface 136 (.int .i64 1))∧w'=w:=by
 go_enter Tryz.func88,Tryz.ntmps88
 go_wp2
 go_ret
 exact ⟨rfl,rfl⟩
def qdi (w:World) (V:Nat) (done ahead:Int):World:=(w.setCell ⟨V,4,none⟩ (.int .i64 (wrap64 (ahead-1)))).setCell ⟨V,2,none⟩ (.int .i64 (wrap64 (done+1)))
theorem qju (V:Nat) (v0 v1:Value) (done ahead:Int) (crashed:Bool) (w:World) (h:w.heap[V]?=some (.cells #[v0,v1,.int .i64 done,.bool false,.int .i64 ahead,.bool crashed] 161)) :
  Calls Tryz.prog 135 #[.pointer (some ⟨V,2,none⟩)] w fun e w'=>e=.returned .nilIface∧w'=qdi w V done ahead:=by
 have c2:w.cell? ⟨V,2,none⟩=some (.int .i64 done):=by rw [cells_at h];rfl
 have c3:w.cell? ⟨V,3,none⟩=some (.bool false):=by rw [cells_at h];rfl
 have c4:w.cell? ⟨V,4,none⟩=some (.int .i64 ahead):=by rw [cells_at h];rfl
 have f2:w.frozen? ⟨V,2,none⟩=false:=qam h
 have f4:w.frozen? ⟨V,4,none⟩=false:=qam h
 go_enter Tryz.func135,Tryz.ntmps135
 go_wp2
 go_ret
 exact ⟨rfl,rfl⟩
theorem qgJ {w:World} {V:Nat} {v0 v1:Value} {done ahead:Int} {crashes crashed:Bool} (h:w.heap[V]?=some (.cells #[v0,v1,.int .i64 done,.bool crashes,.int .i64 ahead,.bool crashed] 161)) :
  (qdi w V done ahead).heap[V]?=some (.cells #[v0,v1,.int .i64 (wrap64 (done+1)),.bool crashes,.int .i64 (wrap64 (ahead-1)),.bool crashed] 161):=by
 unfold qdi
 rw [qan _ (qan _ h)]
 rfl
theorem qb7 (w:World) (V:Nat) (done ahead:Int):qaa (fun b=>b=V) w (qdi w V done ahead) :=
 ((qaa.refl (fun b=>b=V) w).setCell (p:=⟨V,4,none⟩) rfl _).setCell (p:=⟨V,2,none⟩) rfl _
def qbt:Nat→List Nat
 | 0=>[155]
 | 1=>[182]
 | 2=>[183,184]
 | 3=>[184]
 | 4=>[185]
 | _=>[]
def fnV (f:Nat):Value:=.func (.func f) #[] #[]
def Fns (w:World) (g:Nat) (fs:List Nat):Prop:=g<w.heap.size∧∀(i f:Nat),fs[i]?=some f→w.cell? ⟨g,i,none⟩=some (fnV f)
theorem Fns.keeps {own:Nat→Prop} {w w':World} {g:Nat} {fs:List Nat} (h:Fns w g fs) (hs:qaa own w w') (ho:¬own g):Fns w' g fs :=
 ⟨Nat.lt_of_lt_of_le h.1 hs.size,fun i f hi=>by rw [World.cell?_of_block (hs.block g h.1 ho)];exact h.2 i f hi⟩
theorem qjT (w:World):Calls Tryz.prog 134 #[.int .i64 0] w fun e w'=>∃g,e=.returned (.slice (some ⟨g,0,none⟩) 1 1)∧w.heap.size≤g∧Fns w' g (qbt 0)∧Below w.heap.size w w':=by
 go_enter Tryz.func134,Tryz.ntmps134
 go_wp2
 go_ret
 refine ⟨w.heap.size,rfl,by omega,⟨by simp<;>omega,fun i f hi=>?_⟩,?_⟩
 ·first
   | (cases i with
    | zero=>simp [qbt] at hi<;>(subst hi;unfold fnV;(iterate 6 (rw [World.cell?_alloc_lt _ _ _ (by simp<;>omega)]));rw [World.cell?_alloc_at _ _ _ _ (by simp)];rfl)
    | succ i=>cases i with
     | zero=>simp [qbt] at hi<;>(subst hi;unfold fnV;(iterate 6 (rw [World.cell?_alloc_lt _ _ _ (by simp<;>omega)]));rw [World.cell?_alloc_at _ _ _ _ (by simp)];rfl)
     | succ i=>simp [qbt] at hi)
 ·exact ((((((((Below.refl _ _).alloc nl _).alloc (by simp) _).alloc (by simp<;>omega) _).alloc (by simp<;>omega) _).alloc (by simp<;>omega) _).alloc (by simp<;>omega) _).alloc (by simp<;>omega) _)
theorem qjc (w:World):Calls Tryz.prog 134 #[.int .i64 1] w fun e w'=>∃g,e=.returned (.slice (some ⟨g,0,none⟩) 1 1)∧w.heap.size≤g∧Fns w' g (qbt 1)∧Below w.heap.size w w':=by
 go_enter Tryz.func134,Tryz.ntmps134
 go_wp2
 go_ret
 refine ⟨(w.heap.size+1),rfl,by omega,⟨by simp<;>omega,fun i f hi=>?_⟩,?_⟩
 ·first
   | (cases i with
    | zero=>simp [qbt] at hi<;>(subst hi;unfold fnV;(iterate 5 (rw [World.cell?_alloc_lt _ _ _ (by simp<;>omega)]));rw [World.cell?_alloc_at _ _ _ _ (by simp)];rfl)
    | succ i=>cases i with
     | zero=>simp [qbt] at hi<;>(subst hi;unfold fnV;(iterate 5 (rw [World.cell?_alloc_lt _ _ _ (by simp<;>omega)]));rw [World.cell?_alloc_at _ _ _ _ (by simp)];rfl)
     | succ i=>simp [qbt] at hi)
 ·exact ((((((((Below.refl _ _).alloc nl _).alloc (by simp) _).alloc (by simp<;>omega) _).alloc (by simp<;>omega) _).alloc (by simp<;>omega) _).alloc (by simp<;>omega) _).alloc (by simp<;>omega) _)
theorem qiO (w:World):Calls Tryz.prog 134 #[.int .i64 2] w fun e w'=>∃g,e=.returned (.slice (some ⟨g,0,none⟩) 2 2)∧w.heap.size≤g∧Fns w' g (qbt 2)∧Below w.heap.size w w':=by
 go_enter Tryz.func134,Tryz.ntmps134
 go_wp2
 go_ret
 refine ⟨(w.heap.size+1+1),rfl,by omega,⟨by simp<;>omega,fun i f hi=>?_⟩,?_⟩
 ·first
   | (cases i with
    | zero=>simp [qbt] at hi<;>(subst hi;unfold fnV;(iterate 4 (rw [World.cell?_alloc_lt _ _ _ (by simp<;>omega)]));rw [World.cell?_alloc_at _ _ _ _ (by simp)];rfl)
    | succ i=>cases i with
     | zero=>simp [qbt] at hi<;>(subst hi;unfold fnV;(iterate 4 (rw [World.cell?_alloc_lt _ _ _ (by simp<;>omega)]));rw [World.cell?_alloc_at _ _ _ _ (by simp)];rfl)
     | succ i=>simp [qbt] at hi)
 ·exact ((((((((Below.refl _ _).alloc nl _).alloc (by simp) _).alloc (by simp<;>omega) _).alloc (by simp<;>omega) _).alloc (by simp<;>omega) _).alloc (by simp<;>omega) _).alloc (by simp<;>omega) _)
theorem qhk (rs:List RecV) (p j:Nat) (u:Value) (r':RecV) (hp:p<rs.length) (hj:j<8) (hr:r'.cells=(rs[p]!).cells.set j u):(recs rs).set (p*8+j) u=recs (rs.set p r'):=by
 induction rs generalizing p with
 | nil=>simp at hp
 | cons r rs ih =>
  cases p with
  | zero =>
   simp only [recs,List.flatMap_cons,List.set_cons_zero,Nat.zero_mul,Nat.zero_add] at hr ⊢
   rw [List.set_append_left _ _ (by simp [RecV.cells];exact hj)]
   rw [hr]
   rfl
  | succ p =>
   have:=ih p (by simpa using hp) (by simpa using hr)
   simp only [recs,List.flatMap_cons,List.set_cons_succ] at this ⊢
   rw [List.set_append_right _ _ (by simp [RecV.cells];omega),show (p+1)*8+j-r.cells.length=p*8+j by simp [RecV.cells];omega,this]
theorem qf8 (rs:List RecV) (p:Nat) (r':RecV) (hp:p<rs.length) (hn:r'.name=(rs[p]!).name) (i:Nat) (hi:i<rs.length):((rs.set p r')[i]!).name=(rs[i]!).name:=by
 rw [getElem!_pos (rs.set p r') i (by simpa using hi),getElem!_pos rs i hi,List.getElem_set]
 split
 ·rename_i h;subst h;rw [hn,getElem!_pos rs p hp]
 ·rfl
theorem Sorted.set {rs:List RecV} (h:Sorted rs) (p:Nat) (r':RecV) (hp:p<rs.length) (hn:r'.name=(rs[p]!).name):Sorted (rs.set p r'):=by
 intro i j hij hj
 rw [List.length_set] at hj
 rw [qf8 rs p r' hp hn i (by omega),qf8 rs p r' hp hn j hj]
 exact h i j hij hj
theorem qga (rs:List RecV) (p:Nat) (r':RecV) (nm:ByteArray) (hp:p<rs.length) (hn:r'.name=(rs[p]!).name):qai (rs.set p r') nm=qai rs nm:=by
 unfold qai
 have e:∀l:List RecV,l.countP (fun r=>decide (cmpB r.name nm<0))=(l.map RecV.name).countP (fun x=>decide (cmpB x nm<0)):=fun l=>by rw [List.countP_map];rfl
 rw [e,e]
 congr 1
 rw [List.map_set,hn,getElem!_pos rs p hp]
 apply List.ext_getElem
 ·simp
 ·intro i h1 h2
  rw [List.getElem_set]
  split
  ·rename_i h;subst h;simp
  ·rfl
theorem qgI (rs:List RecV) (p:Nat) (r':RecV) (nm:ByteArray) (hp:p<rs.length) (hn:r'.name=(rs[p]!).name):hasName (rs.set p r') nm=hasName rs nm:=by
 unfold hasName
 rw [qga rs p r' nm hp hn,List.length_set]
 by_cases h:qai rs nm<rs.length
 ·rw [qf8 rs p r' hp hn _ h]
 ·rw [decide_eq_false h];simp
theorem qbz {rs:List RecV} {nm:ByteArray} (h:hasName rs nm=true):qai rs nm<rs.length:=by unfold hasName at h;simp at h;exact h.1
theorem qaS {rs:List RecV} {nm:ByteArray} (h:hasName rs nm=true):(rs[qai rs nm]!).name=nm:=by
 unfold hasName at h
 rw [Bool.and_eq_true] at h
 exact qaB.1 (of_decide_eq_true h.2)
def RecV.laid (r x:RecV):RecV:={ r with na:=x.sa,nn:=x.sn,nc:=x.sc }
def RecV.turned (r:RecV):RecV:={ r with epoch:=r.epoch+1,sa:=r.na,sn:=r.nn,sc:=r.nc,na:=none,nn:=0,nc:=0 }
end Go.Proofs.YtcegdgmbponapaaGreatDoor