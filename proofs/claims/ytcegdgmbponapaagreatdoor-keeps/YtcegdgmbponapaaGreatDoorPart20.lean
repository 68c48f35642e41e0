import Derived.Test.YtcegdgmbponapaaGreatDoorPart19
set_option maxRecDepth 100000
set_option maxHeartbeats 4000000
namespace Go.Proofs.YtcegdgmbponapaaGreatDoor
open Go.RowKit
structure Ask (w:World) (C V key n B bc:Nat) (sp:Nat→Nat) (dn:Nat→Bool) (vs:Nat→Value) (rss:Nat→List RecV):Prop where
 cf:Cf w C V
 rd:Rdy w V key n B bc sp
 st:∀i,i<n→Sto w (sp i) (dn i) (vs i) (rss i)
 tb:Tab w
 et:qaJ w
theorem Ask.keeps {w w':World} {C V key n B bc:Nat} {sp:Nat→Nat} {dn:Nat→Bool} {vs:Nat→Value} {rss:Nat→List RecV} (h:Ask w C V key n B bc sp dn vs rss) (hb:Below w.heap.size w w'):Ask w' C V key n B bc sp dn vs rss :=
 ⟨h.cf.keeps (qaa.ofBelow (own:=fun _=>False) hb nl) (fun h=>h),h.rd.keeps hb nl,fun i hi=>(h.st i hi).keeps (qaa.ofBelow (own:=fun _=>False) hb nl) (fun h=>h) (fun _ _ h=>h),h.tb.keeps hb nl,h.et.keeps hb nl⟩
section
variable {w:World} {C V key n B bc:Nat} {sp:Nat→Nat} {dn:Nat→Bool} {vs:Nat→Value} {rss:Nat→List RecV}
theorem Ask.put_of (h:Ask w C V key n B bc sp dn vs rss) (m t l k:Int) (d:Nat) (hd:d≤5) (nm vl tape:ByteArray)
  (hc:∀w',Ask w' C V key n B bc sp dn vs rss→Calls Tryz.prog 125 #[.pointer (some ⟨V,0,none⟩),.agg #[.string nm,.int .i64 m,.int .i64 t,.int .i64 l,.int .i64 vl.size,.int .i64 0],.string vl,.string tape] w' fun e w''=>∃a x c ev,e=.returned (.tuple #[.slice a x c,ev])∧Chain w'' k d ev∧Below w'.heap.size w' w'') :
  Calls Tryz.prog 43 #[.pointer (some ⟨C,0,none⟩),.string nm,.string vl,.agg #[.int .i64 m,.int .i64 t,.int .i64 l],.string tape] w fun e w'=>e=.returned (.int .i64 k)∧Below w.heap.size w w' :=
 ql8 C V m t l k (d+1) nm vl tape w h.cf (by omega) h.et fun w1 hb1=>qlE V m t l k d nm vl tape w1 fun w2 hb2=>hc w2 ((h.keeps hb1).keeps hb2)
theorem Ask.put_new (h:Ask w C V key n B bc sp dn vs rss) (m t l k:Int) (d:Nat) (hd:d≤5) (nm vl tape:ByteArray)
  (hc:∀w',Ask w' C V key n B bc sp dn vs rss→Calls Tryz.prog 170 #[.pointer (some ⟨V,0,none⟩),.agg #[.string nm,.int .i64 m,.int .i64 t,.int .i64 l,.int .i64 vl.size,.int .i64 0]] w' fun e w''=>∃ev,e=.returned ev∧Chain w'' k d ev∧Below w'.heap.size w' w'') :
  Calls Tryz.prog 43 #[.pointer (some ⟨C,0,none⟩),.string nm,.string vl,.agg #[.int .i64 m,.int .i64 t,.int .i64 l],.string tape] w fun e w'=>e=.returned (.int .i64 k)∧Below w.heap.size w w' :=
 h.put_of m t l k d hd nm vl tape fun w1 h1=>ql9 V m t l vl.size k d nm vl tape w1 fun w2 hb2=>hc w2 (h1.keeps hb2)
theorem Ask.put_name (h:Ask w C V key n B bc sp dn vs rss) (m t l:Int) (nm vl tape:ByteArray) (hno:nm.size<1∨12<nm.size) (hsz:nm.size≤maxLen) :
  Calls Tryz.prog 43 #[.pointer (some ⟨C,0,none⟩),.string nm,.string vl,.agg #[.int .i64 m,.int .i64 t,.int .i64 l],.string tape] w fun e w'=>e=.returned (.int .i64 2)∧Below w.heap.size w w' :=
 h.put_new m t l 2 1 (by decide) nm vl tape fun w1 h1=>qcz V key n B bc sp m t l vl.size 2 1 nm w1 h1.rd h1.tb fun w2 hT=>(qjW m t l n 0 0 vl.size nm w2 hno hsz hT).mono fun e w3 ⟨ev,he,h2⟩=>⟨0,ev,he,h2⟩
theorem Ask.put_plan (h:Ask w C V key n B bc sp dn vs rss) (m t l:Int) (nm vl tape:ByteArray) (h1:1≤nm.size) (h12:nm.size≤12) (hm:I64 m) (ht:I64 t) (hl:I64 l) (hno:¬Fits m t l n) :
  Calls Tryz.prog 43 #[.pointer (some ⟨C,0,none⟩),.string nm,.string vl,.agg #[.int .i64 m,.int .i64 t,.int .i64 l],.string tape] w fun e w'=>e=.returned (.int .i64 3)∧Below w.heap.size w w' :=
 h.put_new m t l 3 2 (by decide) nm vl tape fun w1 h2=>qcz V key n B bc sp m t l vl.size 3 2 nm w1 h2.rd h2.tb fun w2 hT=>qjU m t l n 0 0 vl.size 3 nm w2 h1 h12 hT fun w3 hT3=>qdG m t l n vl.size w3 hm ht hl (by have:=h.rd.n8;unfold I64;omega) (fun hf=>hno hf.2.2) hT3
theorem Ask.put_big (h:Ask w C V key n B bc sp dn vs rss) (mode t l:Nat) (nm vl tape:ByteArray) (h1:1≤nm.size) (h12:nm.size≤12) (hp:qaj mode t l n) (hbig:60<vl.size) (hvl:vl.size≤maxLen) :
  Calls Tryz.prog 43 #[.pointer (some ⟨C,0,none⟩),.string nm,.string vl,.agg #[.int .i64 mode,.int .i64 t,.int .i64 l],.string tape] w fun e w'=>e=.returned (.int .i64 4)∧Below w.heap.size w w' :=
 h.put_new mode t l 4 2 (by decide) nm vl tape fun w1 h2=>qcz V key n B bc sp mode t l vl.size 4 2 nm w1 h2.rd h2.tb fun w2 hT=>qjU mode t l n 0 0 vl.size 4 nm w2 h1 h12 hT fun w3 hT3=>qfn mode t l n vl.size w3 hp (by unfold maxLen at hvl;unfold I64;omega) (.inr (by omega)) hT3
theorem Ask.put_twice (h:Ask w C V key n B bc sp dn vs rss) (mode t l:Nat) (nm vl tape:ByteArray) (h1:1≤nm.size) (h12:nm.size≤12) (hp:qaj mode t l n) (hz:vl.size≤60) (hyes:hasName (rss 0) nm=true) :
  Calls Tryz.prog 43 #[.pointer (some ⟨C,0,none⟩),.string nm,.string vl,.agg #[.int .i64 mode,.int .i64 t,.int .i64 l],.string tape] w fun e w'=>e=.returned (.int .i64 5)∧Below w.heap.size w w' :=
 h.put_new mode t l 5 1 (by decide) nm vl tape fun w1 h2=>qe4 V key n B bc sp (dn 0) (vs 0) (rss 0) mode t l vl.size nm w1 h2.rd (h2.st 0 h.rd.n1) hyes hp hz h1 h12 (qao hp vl.size hz)
theorem Ask.put_full (h:Ask w C V key n B bc sp dn vs rss) (mode t l:Nat) (nm vl tape:ByteArray) (h1:1≤nm.size) (h12:nm.size≤12) (hp:qaj mode t l n) (hz:vl.size≤60) (hno:hasName (rss 0) nm=false) (hfull:¬(rss 0).length<10) :
  Calls Tryz.prog 43 #[.pointer (some ⟨C,0,none⟩),.string nm,.string vl,.agg #[.int .i64 mode,.int .i64 t,.int .i64 l],.string tape] w fun e w'=>e=.returned (.int .i64 6)∧Below w.heap.size w w' :=
 h.put_new mode t l 6 1 (by decide) nm vl tape fun w1 h2=>qf6 V key n B bc sp (dn 0) (vs 0) (rss 0) mode t l vl.size nm w1 h2.rd (h2.st 0 h.rd.n1) hno hfull hp hz h1 h12 (qao hp vl.size hz) h2.tb
theorem Ask.put_tape (h:Ask w C V key n B bc sp dn vs rss) (mode t l:Nat) (nm vl tape:ByteArray) (h1:1≤nm.size) (h12:nm.size≤12) (hp:qaj mode t l n) (hz:vl.size≤60) (hno:hasName (rss 0) nm=false) (hfew:(rss 0).length<10) (htp:tape.size<Cof.tsize mode t*Cof.ngroups mode t l vl.size) :
  Calls Tryz.prog 43 #[.pointer (some ⟨C,0,none⟩),.string nm,.string vl,.agg #[.int .i64 mode,.int .i64 t,.int .i64 l],.string tape] w fun e w'=>e=.returned (.int .i64 7)∧Below w.heap.size w w' :=
 h.put_of mode t l 7 2 (by decide) nm vl tape fun w1 h2=>qk6 V key n B bc sp (dn 0) (vs 0) (rss 0) mode t l vl.size nm vl tape w1 h2.rd (h2.st 0 h.rd.n1) hno hfew hp hz rfl h1 h12 (qao hp vl.size hz) htp h2.tb
theorem Ask.ups (h:Ask w C V key n B bc sp dn vs rss) (i:Nat) (hi:i<n):w.cell? ⟨sp i,0,none⟩=some (.bool (dn i)):=by rw [cells_at (h.st i hi).hp];rfl
theorem Ask.slt (h:Ask w C V key n B bc sp dn vs rss) (i:Nat) (hi:i<n):sp i<w.heap.size:=cells_lt (h.st i hi).hp
theorem Ask.put_down (h:Ask w C V key n B bc sp dn vs rss) (mode t l:Nat) (nm vl tape:ByteArray) (h1:1≤nm.size) (h12:nm.size≤12) (hp:qaj mode t l n) (hz:vl.size≤60) (hno:hasName (rss 0) nm=false) (hfew:(rss 0).length<10) (htp:Cof.tsize mode t*Cof.ngroups mode t l vl.size≤tape.size) (hd:∃i,i<n∧dn i=true) :
  Calls Tryz.prog 43 #[.pointer (some ⟨C,0,none⟩),.string nm,.string vl,.agg #[.int .i64 mode,.int .i64 t,.int .i64 l],.string tape] w fun e w'=>e=.returned (.int .i64 8)∧Below w.heap.size w w' :=
 h.put_of mode t l 8 1 (by decide) nm vl tape fun w1 h2=>qkH V key n B bc sp dn (vs 0) (rss 0) mode t l vl.size nm vl tape w1 h2.rd (h2.st 0 h.rd.n1) hno hfew hp hz rfl h1 h12 (qao hp vl.size hz) htp h2.tb h2.ups h2.slt hd
theorem Ask.allUp_no (h:Ask w C V key n B bc sp dn vs rss) (hd:∃i,i<n∧dn i=true) :
  Calls Tryz.prog 104 #[.pointer (some ⟨V,0,none⟩)] w fun e w'=>∃ev,e=.returned ev∧Chain w' 8 1 ev∧Below w.heap.size w w' :=
 Go.Proofs.YtcegdgmbponapaaGreatDoor.allUp_no V key n B 0 bc sp dn w h.rd.va h.rd.n8 h.ups hd h.tb
theorem Ask.object_none (h:Ask w C V key n B bc sp dn vs rss) (nm:ByteArray) (hno:hasName (rss 0) nm=false) :
  Calls Tryz.prog 77 #[.pointer (some ⟨V,0,none⟩),.string nm] w fun e w'=>∃ev,e=.returned (.tuple #[qfr,ev])∧Chain w' 9 1 ev∧Below w.heap.size w w':=by
 obtain ⟨a,c,_,hst⟩:=(h.st 0 h.rd.n1).st
 exact qev V key n B bc sp (dn 0) a c (rss 0) nm w h.rd hst hno
theorem Ask.object_some (h:Ask w C V key n B bc sp dn vs rss) (nm:ByteArray) (r:RecV) (hyes:hasName (rss 0) nm=true) (hr:r=(rss 0)[qai (rss 0) nm]!) :
  Calls Tryz.prog 77 #[.pointer (some ⟨V,0,none⟩),.string nm] w fun e w'=>e=.returned (.tuple #[.agg #[.string r.name,.int .i64 r.mode,.int .i64 r.t,.int .i64 r.l,.int .i64 r.size,.int .i64 r.epoch],.nilIface])∧Below w.heap.size w w':=by
 obtain ⟨a,c,_,hst⟩:=(h.st 0 h.rd.n1).st
 exact qbB V key n B bc sp (dn 0) a c (rss 0) r nm w h.rd hst hyes hr
theorem Ask.get_none (h:Ask w C V key n B bc sp dn vs rss) (nm:ByteArray) (hno:hasName (rss 0) nm=false) :
  Calls Tryz.prog 24 #[.pointer (some ⟨C,0,none⟩),.string nm] w fun e w'=>e=.returned (.tuple #[.string ByteArray.empty,.int .i64 9])∧Below w.heap.size w w' :=
 qjR C V 2 9 nm w h.cf (by decide) h.et (qlx V 1 9 nm w (h.object_none nm hno))
theorem Ask.delete_none (h:Ask w C V key n B bc sp dn vs rss) (nm:ByteArray) (hno:hasName (rss 0) nm=false) :
  Calls Tryz.prog 57 #[.pointer (some ⟨C,0,none⟩),.string nm] w fun e w'=>e=.returned (.int .i64 9)∧Below w.heap.size w w' :=
 qeN C V 2 9 nm w h.cf (by decide) h.et (qiG V 1 9 nm w (h.object_none nm hno))
theorem Ask.delete_down (h:Ask w C V key n B bc sp dn vs rss) (nm:ByteArray) (hyes:hasName (rss 0) nm=true) (hd:∃i,i<n∧dn i=true) :
  Calls Tryz.prog 57 #[.pointer (some ⟨C,0,none⟩),.string nm] w fun e w'=>e=.returned (.int .i64 8)∧Below w.heap.size w w' :=
 qeN C V 2 8 nm w h.cf (by decide) h.et (qfS V 1 8 nm _ _ _ _ _ _ w (h.object_some nm _ hyes rfl) fun _ hb=>(h.keeps hb).allUp_no hd)
theorem Ask.refresh_none (h:Ask w C V key n B bc sp dn vs rss) (nm tape:ByteArray) (hno:hasName (rss 0) nm=false) :
  Calls Tryz.prog 17 #[.pointer (some ⟨C,0,none⟩),.string nm,.string tape] w fun e w'=>e=.returned (.int .i64 9)∧Below w.heap.size w w' :=
 qcR C V 2 9 nm tape w h.cf (by decide) h.et (qgM V 1 9 nm tape w (h.object_none nm hno))
theorem Ask.refresh_of (h:Ask w C V key n B bc sp dn vs rss) (nm tape:ByteArray) (r:RecV) (k:Int) (d:Nat) (hd:d≤5) (hyes:hasName (rss 0) nm=true) (hr:r=(rss 0)[qai (rss 0) nm]!)
  (hu:∀w',Ask w' C V key n B bc sp dn vs rss→Calls Tryz.prog 79 #[.pointer (some ⟨V,0,none⟩),.agg #[.string r.name,.int .i64 r.mode,.int .i64 r.t,.int .i64 r.l,.int .i64 r.size,.int .i64 r.epoch],.string tape] w' fun e w''=>∃ev,e=.returned (.tuple #[.slice none 0 0,ev])∧Chain w'' k d ev∧Below w'.heap.size w' w'') :
  Calls Tryz.prog 17 #[.pointer (some ⟨C,0,none⟩),.string nm,.string tape] w fun e w'=>e=.returned (.int .i64 k)∧Below w.heap.size w w' :=
 qcR C V (d+1) k nm tape w h.cf (by omega) h.et (qd4 V d k nm _ tape _ _ _ _ _ w (h.object_some nm r hyes hr) fun w' hb=>hu w' (h.keeps hb))
theorem Ask.refresh_tape (h:Ask w C V key n B bc sp dn vs rss) (nm tape:ByteArray) (r:RecV) (hyes:hasName (rss 0) nm=true) (hr:r=(rss 0)[qai (rss 0) nm]!) (hp:qaj r.mode r.t r.l n) (hm0:r.mode=0) (he:r.epoch<100) (hz:r.size≤60) (htp:tape.size<Cof.tsize r.mode r.t*Cof.ngroups r.mode r.t r.l r.size) :
  Calls Tryz.prog 17 #[.pointer (some ⟨C,0,none⟩),.string nm,.string tape] w fun e w'=>e=.returned (.int .i64 7)∧Below w.heap.size w w' :=
 h.refresh_of nm tape r 7 2 (by decide) hyes hr fun w' h2=>qeG V key n B bc sp r.mode r.t r.l r.size r.epoch r.name tape w' h2.rd hp hm0 he hz htp h2.tb
theorem Ask.refresh_down (h:Ask w C V key n B bc sp dn vs rss) (nm tape:ByteArray) (r:RecV) (hyes:hasName (rss 0) nm=true) (hr:r=(rss 0)[qai (rss 0) nm]!) (hp:qaj r.mode r.t r.l n) (hm0:r.mode=0) (he:r.epoch<100) (hz:r.size≤60) (htp:Cof.tsize r.mode r.t*Cof.ngroups r.mode r.t r.l r.size≤tape.size) (hd:∃i,i<n∧dn i=true) :
  Calls Tryz.prog 17 #[.pointer (some ⟨C,0,none⟩),.string nm,.string tape] w fun e w'=>e=.returned (.int .i64 8)∧Below w.heap.size w w' :=
 h.refresh_of nm tape r 8 1 (by decide) hyes hr fun w' h2=>qe9 V key n B bc sp dn r.mode r.t r.l r.size r.epoch r.name tape w' h2.rd hp hm0 he hz htp h2.tb h2.ups h2.slt hd
theorem Ask.up_store (h:Ask w C V key n B bc sp dn vs rss) (i:Int) (up:Bool) (hi:I64 i) (hno:i<0∨(n:Int)≤i) :
  Calls Tryz.prog 21 #[.pointer (some ⟨C,0,none⟩),.int .i64 i,.bool up] w fun e w'=>e=.returned (.int .i64 13)∧Below w.heap.size w w' :=
 cup_no C V 2 13 i up w h.cf (by decide) h.et (vup_no V key n B bc sp i up w h.rd.va hi hno h.tb)
theorem Ask.spoil_store (h:Ask w C V key n B bc sp dn vs rss) (i p:Int) (nm:ByteArray) (b:UInt8) (hi:I64 i) (hno:i<0∨(n:Int)≤i) :
  Calls Tryz.prog 23 #[.pointer (some ⟨C,0,none⟩),.int .i64 i,.string nm,.int .i64 p,.int .u8 b.toNat] w fun e w'=>e=.returned (.int .i64 13)∧Below w.heap.size w w' :=
 qet C V 2 13 i p nm b w h.cf (by decide) h.et (qkv V 1 13 i p b nm w (qdB V key n B bc sp i w h.rd hi hno h.tb))
theorem Ask.spoil_none (h:Ask w C V key n B bc sp dn vs rss) (i:Nat) (p:Int) (nm:ByteArray) (b:UInt8) (hi:i<n) (hno:hasName (rss i) nm=false) :
  Calls Tryz.prog 23 #[.pointer (some ⟨C,0,none⟩),.int .i64 i,.string nm,.int .i64 p,.int .u8 b.toNat] w fun e w'=>e=.returned (.int .i64 9)∧Below w.heap.size w w':=by
 obtain ⟨a,c,_,hst⟩:=(h.st i hi).st
 exact qet C V 2 9 i p nm b w h.cf (by decide) h.et (qeT V key n B bc sp i 1 9 p b nm w h.rd hi (qhf (sp i) (dn i) a c (rss i) nm p b w hst hno))
theorem Ask.spoil_place (h:Ask w C V key n B bc sp dn vs rss) (i:Nat) (p:Int) (nm:ByteArray) (b:UInt8) (r:RecV) (hi:i<n) (hyes:hasName (rss i) nm=true) (hr:r=(rss i)[qai (rss i) nm]!) (hp:I64 p) (hno:p<0∨(r.sn:Int)≤p) :
  Calls Tryz.prog 23 #[.pointer (some ⟨C,0,none⟩),.int .i64 i,.string nm,.int .i64 p,.int .u8 b.toNat] w fun e w'=>e=.returned (.int .i64 14)∧Below w.heap.size w w':=by
 obtain ⟨a,c,_,hst⟩:=(h.st i hi).st
 exact qet C V 2 14 i p nm b w h.cf (by decide) h.et (qeT V key n B bc sp i 1 14 p b nm w h.rd hi (qfZ (sp i) (dn i) a c (rss i) r nm p b w hst hyes hr hp hno h.tb))
theorem Ask.shard_store (h:Ask w C V key n B bc sp dn vs rss) (i:Int) (nm:ByteArray) (hi:I64 i) (hno:i<0∨(n:Int)≤i) :
  Calls Tryz.prog 22 #[.pointer (some ⟨C,0,none⟩),.int .i64 i,.string nm] w fun e w'=>e=.returned (.tuple #[.string ByteArray.empty,.int .i64 13])∧Below w.heap.size w w' :=
 qgE C V 2 13 i nm w h.cf (by decide) h.et (qkr V 1 13 i nm w (qdB V key n B bc sp i w h.rd hi hno h.tb))
theorem Ask.shard_none (h:Ask w C V key n B bc sp dn vs rss) (i:Nat) (nm:ByteArray) (hi:i<n) (hno:hasName (rss i) nm=false) :
  Calls Tryz.prog 22 #[.pointer (some ⟨C,0,none⟩),.int .i64 i,.string nm] w fun e w'=>e=.returned (.tuple #[.string ByteArray.empty,.int .i64 9])∧Below w.heap.size w w':=by
 obtain ⟨a,c,_,hst⟩:=(h.st i hi).st
 exact qgE C V 2 9 i nm w h.cf (by decide) h.et (qh1 V key n B bc sp i (dn i) a c (rss i) nm w h.rd hi hst hno)
end
section
variable {w:World} {C V:Nat}
end
attribute [local go_sem ↓] Go.wp_at_zero Go.wp_at_succ
structure Glob (w:World) (base:Nat):Prop where
 tb:Tab w
 et:qaJ w
 t1:2<base
 e1:0<base
 bs:base≤w.heap.size
theorem Tab.block {w w':World} (h:Tab w) (hb:w'.heap[2]?=w.heap[2]?) (hs:w.heap.size≤w'.heap.size):Tab w':=by
 refine ⟨?_,Nat.lt_of_lt_of_le h.2 hs⟩
 have h1:=h.1
 have hg:Tryz.prog.globalNamed "internal/strconv.uint64pow10" = some 2:=by kernel_rfl
 unfold Lib.TabIs World.var? at h1 ⊢
 rw [hg] at h1 ⊢
 simp only [Option.bind_some] at h1 ⊢
 rw [hb]
 exact h1
theorem Glob.spared {own:Nat→Prop} {w w':World} {base:Nat} (h:Glob w base) (hs:qaa own w w') (ho:∀b,own b→base≤b):Glob w' base:=by
 have hb:∀k,k<base→w'.heap[k]?=w.heap[k]?:=fun k hk=>hs.block k (Nat.lt_of_lt_of_le hk h.bs) fun e=>by have:=ho k e;omega
 exact ⟨h.tb.block (hb _ h.t1) hs.size,⟨(World.cell?_of_block (hb _ h.e1)).trans h.et.1,Nat.lt_of_lt_of_le h.et.2 hs.size⟩,h.t1,h.e1,Nat.le_trans h.bs hs.size⟩
theorem Glob.below {w w':World} {base:Nat} (h:Glob w base) (hb:Below w.heap.size w w'):Glob w' base:=h.spared (qaa.ofBelow (own:=fun _=>False) hb nl) (fun _ h=>h.elim)
def refL (n:Nat) (rss:Nat→List RecV) (nm:ByteArray) (ys:List RecV) (t q:Nat):List RecV:=(rss q).set (qai (rss q) nm) (qaq n (fun q=>qac (rss q) nm) ys t q)
def RefK (n:Nat) (sp:Nat→Nat) (rss:Nat→List RecV) (nm:ByteArray) (ys:List RecV) (vs:Nat→Value) (t:Nat) (w:World):Prop :=
 ∀q,q<n→Sto w (sp q) false (vs q) (refL n rss nm ys t q)
theorem qfi {n:Nat} {rss:Nat→List RecV} {nm:ByteArray} {ys:List RecV} {t q:Nat} (h:qaq n (fun q=>qac (rss q) nm) ys t q=qac (rss q) nm) (hlt:qai (rss q) nm<(rss q).length):refL n rss nm ys t q=rss q:=by
 unfold refL
 rw [h]
 unfold qac
 rw [getElem!_pos (rss q) (qai (rss q) nm) hlt]
 exact List.set_getElem_self _
theorem RefK.step {n:Nat} {sp:Nat→Nat} {rss:Nat→List RecV} {nm:ByteArray} {ys:List RecV} {vs:Nat→Value} {i j:Nat} {w w':World} (h:RefK n sp rss nm ys vs (j*n+i) w) (hi:i<n) (hj:j=0∨j=1) (hvi:∀i j,i<j→j<n→∀b,(vs i).ownBlock=some b→(vs j).ownBlock≠some b)
  (hs:Sto w' (sp i) false (vs i) (refL n rss nm ys (j*n+i+1) i)) (hsp:qaa (fun b=>(vs i).ownBlock=some b) w w'):RefK n sp rss nm ys vs (j*n+i+1) w':=by
 intro q hq
 by_cases hqi:q=i
 ·subst hqi;exact hs
 ·have e:refL n rss nm ys (j*n+i+1) q=refL n rss nm ys (j*n+i) q:=by unfold refL;rw [qe7 hi hq hqi hj]
  rw [e]
  refine (h q hq).keeps hsp (fun e=>row_ne (h i hi).row (h q hq).hp (by decide) e) (fun b hb e=>?_)
  rcases Nat.lt_or_gt_of_ne hqi with hlt | hlt
  ·exact hvi q i hlt hi b hb e
  ·exact hvi i q hlt hq b e hb
theorem qk8 (n:Nat) (sp:Nat→Nat) (rss:Nat→List RecV) (nm:ByteArray) (ys:List RecV) (vs:Nat→Value) (i:Nat) (w:World) (h:RefK n sp rss nm ys vs (0*n+i) w) (hi:i<n) (hvi:∀i j,i<j→j<n→∀b,(vs i).ownBlock=some b→(vs j).ownBlock≠some b) (hnm:(ys[i]!).name=nm) (hyes:hasName (rss i) nm=true) :
  Calls Tryz.prog 183 #[.pointer (some ⟨sp i,0,none⟩),(ys[i]!).val] w fun e w'=>e=.returned (.tuple #[])∧RefK n sp rss nm ys vs (0*n+i+1) w'∧qaa (fun b=>∃q,q<n∧(vs q).ownBlock=some b) w w':=by
 have h0:qaq n (fun q=>qac (rss q) nm) ys (0*n+i) i=qac (rss i) nm:=by unfold qaq;rw [if_neg (by omega),if_neg (by omega)]
 have h1:qaq n (fun q=>qac (rss q) nm) ys (0*n+i+1) i=(qac (rss i) nm).laid (ys[i]!):=by unfold qaq;rw [if_neg (by omega),if_pos (by omega)]
 have hst:=h i hi
 rw [qfi h0 (qbz hyes)] at hst
 refine (ql1 (sp i) false (vs i) (rss i) (ys[i]!) w hst (by rw [hnm];exact hyes)).mono ?_
 rintro e w' ⟨rfl,hs,hsp⟩
 rw [hnm] at hs
 refine ⟨rfl,h.step hi (.inl rfl) hvi ?_ hsp,hsp.mono fun b hb=>⟨i,hi,hb⟩⟩
 unfold refL
 rw [h1]
 exact hs
theorem qjI (n:Nat) (sp:Nat→Nat) (rss:Nat→List RecV) (nm:ByteArray) (ys:List RecV) (vs:Nat→Value) (i:Nat) (ad:Addr) (w:World) (h:RefK n sp rss nm ys vs (1*n+i) w) (hi:i<n) (hvi:∀i j,i<j→j<n→∀b,(vs i).ownBlock=some b→(vs j).ownBlock≠some b) (hnm:(ys[i]!).name=nm) (hyes:hasName (rss i) nm=true) (had:(ys[i]!).sa=some ad) (he:(qac (rss i) nm).epoch≤1000) :
  Calls Tryz.prog 184 #[.pointer (some ⟨sp i,0,none⟩),(ys[i]!).val] w fun e w'=>e=.returned (.tuple #[])∧RefK n sp rss nm ys vs (1*n+i+1) w'∧qaa (fun b=>∃q,q<n∧(vs q).ownBlock=some b) w w':=by
 have hlt:=qbz hyes
 have hrn:(qac (rss i) nm).name=nm:=qaS hyes
 have h0:qaq n (fun q=>qac (rss q) nm) ys (1*n+i) i=(qac (rss i) nm).laid (ys[i]!):=by unfold qaq;rw [if_neg (by omega),if_pos (by omega)]
 have h1:qaq n (fun q=>qac (rss q) nm) ys (1*n+i+1) i=((qac (rss i) nm).laid (ys[i]!)).turned:=by unfold qaq;rw [if_pos (by omega)]
 obtain ⟨rs,hrs⟩:∃rs,rs=refL n rss nm ys (1*n+i) i:=⟨_,rfl⟩
 have hst:=h i hi
 rw [←hrs] at hst
 have hrs':rs=(rss i).set (qai (rss i) nm) ((qac (rss i) nm).laid (ys[i]!)):=by rw [hrs];unfold refL;rw [h0]
 have hq0:((qac (rss i) nm).laid (ys[i]!)).name=((rss i)[qai (rss i) nm]!).name:=rfl
 have hpos:qai rs nm=qai (rss i) nm:=by rw [hrs'];exact qga _ _ _ _ hlt hq0
 have hhas:hasName rs nm=true:=by rw [hrs',qgI _ _ _ _ hlt hq0];exact hyes
 have hget:(qac (rss i) nm).laid (ys[i]!)=rs[qai rs nm]! := by
  rw [hpos,hrs',getElem!_pos ((rss i).set (qai (rss i) nm) _) (qai (rss i) nm) (by simpa using hlt),List.getElem_set_self]
 refine (qkB (sp i) false (vs i) rs (ys[i]!) ((qac (rss i) nm).laid (ys[i]!)) ad w hst (by rw [hnm];exact hhas) (by rw [hnm];exact hget) had he).mono ?_
 rintro e w' ⟨rfl,hs,hsp⟩
 rw [hnm,hpos,hrs',List.set_set] at hs
 refine ⟨rfl,h.step hi (.inr rfl) hvi ?_ hsp,hsp.mono fun b hb=>⟨i,hi,hb⟩⟩
 unfold refL
 rw [h1]
 exact hs
theorem RefK.keeps {n:Nat} {sp:Nat→Nat} {rss:Nat→List RecV} {nm:ByteArray} {ys:List RecV} {vs:Nat→Value} {t V:Nat} {w w':World} (h:RefK n sp rss nm ys vs t w) (hs:qaa (fun b=>b=V) w w') (hsV:∀i,i<n→sp i≠V) (hvV:∀i,i<n→(vs i).ownBlock≠some V):RefK n sp rss nm ys vs t w' :=
 fun q hq=>(h q hq).keeps hs (hsV q hq) (fun b hb e=>hvV q hq (by rw [hb,e]))
def Ended (w:World) (V key n B bc:Nat) (sp:Nat→Nat) (p:Pen) (m d t:Nat) (e:Ending):Prop :=
 t≤m∧(∀s,s<t→(p.ticks s).halts=false)∧((t=m∧e=.returned .nilIface∧Vp w V key n B bc sp (p.ticks t))∨(t<m∧(p.ticks t).halts=true∧(∃ev,e=.returned ev∧Chain w 1 d ev)∧Vp w V key n B bc sp (p.ticks t).fall))
theorem qgj (base V key n B bc:Nat) (sp:Nat→Nat) (p:Pen) (t l size epoch:Nat) (nm tape:ByteArray) (P:Nat→List UInt8) (vs:Nat→Value) (rss:Nat→List RecV) (w:World) (hV:Vp w V key n B bc sp p) (hcr:p.crashed=false) (hst:∀i,i<n→Sto w (sp i) false (vs i) (rss i)) (hyes:∀i,i<n→hasName (rss i) nm=true) (hob:∀i,i<n→(qac (rss i) nm).ob=⟨nm,0,t,l,size,epoch⟩)
  (hp:qaj 0 t l n) (he:epoch<100) (hz:size≤60) (hnm:nm.size≤12) (hk:key<18446744073709551616) (htp:Cof.tsize 0 t*Cof.ngroups 0 t l size≤tape.size) (hG:Glob w base) (hbV:base≤V) (hbv:∀i,i<n→∀b,(vs i).ownBlock=some b→base≤b)
  (hP:∀i,i<n→(P i).length=Cof.ngroups 0 t l size) (hvi:∀i j,i<j→j<n→∀b,(vs i).ownBlock=some b→(vs j).ownBlock≠some b)
  (hpc:∀i,i<n→∀w',Below w.heap.size w w'→Tab w'→Calls Tryz.prog 132 #[.pointer (some ⟨V,0,none⟩),.int .i64 i,.agg #[.string nm,.int .i64 0,.int .i64 t,.int .i64 l,.int .i64 size,.int .i64 epoch]] w' fun e w'' =>
   ∃pv,e=.returned (.tuple #[pv,.nilIface])∧w''.ownsRow w'.heap.size 5 1 pv (Cof.ngroups 0 t l size) (bs (P i))∧Below w'.heap.size w' w'') :
  Calls Tryz.prog 45 #[.pointer (some ⟨V,0,none⟩),.string nm,.string tape] w fun e w' =>
   ∃(ys:List RecV) (k:Nat),Ended w' V key n B bc sp p (2*n) 2 k e∧RefK n sp rss nm ys vs k w'∧ys.length=n∧(∀i,i<n→qc7 w' w.heap.size key 0 t l n size (epoch+1) nm (Cof.sumRow (P i) ((Cof.split (List.replicate size 0) 0 t l n tape.data.toList).getD i [])) i (ys[i]!))∧(∀i j,i<j→j<n→(ys[i]!).blk≠(ys[j]!).blk)∧qaa (fun b=>b=V∨∃i,i<n∧(vs i).ownBlock=some b) w w':=by
 have hn1':=hp.n1
 have hn8:=hp.n8
 have hl:=qao hp size hz
 have hR:Rdy w V key n B bc sp:=Vt.rdy (h:=by have:=hV;unfold Vp at this;rw [hcr] at this;exact this) hn1' hn8
 obtain ⟨a0,c0',_,hst0⟩:=(hst 0 (by omega)).st
 have hob0:=hob 0 (by omega)
 have HOBJ:=hid (qbB V key n B bc sp false a0 c0' (rss 0) (qac (rss 0) nm) nm w hR hst0 (hyes 0 (by omega)) rfl)
 obtain ⟨o1,o2,o3,o4,o5,o6⟩:=(qe1 _ _).1 hob0
 simp only [RecV.ob] at o1 o2 o3 o4 o5 o6
 rw [o1,o2,o3,o4,o5,o6] at HOBJ
 have HVT:=hid hV
 have HST:=hid hst
 have HY:=hid hyes
 have HOB0:=hid hob
 have HP:=hid hp
 have HRR:=hid hR
 have HPL:=hid hP
 have HTP:=hid htp
 have HGB:=hid hG
 have HPC:=hid hpc
 have HVI:=hid hvi
 have HBV:=hid hbv
 have hVl:=cells_lt hV.hp
 clear hV hst hyes hob hp hR hP htp hG hpc hvi hst0 hob0 o1 o2 o3 o4 o5 o6 hbv hcr
 go_enter Tryz.func45,Tryz.ntmps45
 go_wp2_with fail
 refine HOBJ.out.mono ?_
 rintro e w1 ⟨rfl,hb1⟩
 have hba:=hb1.alloc hb1.size (.cells #[.string nm,.int .i64 0,.int .i64 t,.int .i64 l,.int .i64 size,.int .i64 epoch] 55)
 obtain ⟨w2,hw2⟩:∃w2,w2=w1.alloc (.cells #[.string nm,.int .i64 0,.int .i64 t,.int .i64 l,.int .i64 size,.int .i64 epoch] 55):=⟨_,rfl⟩
 have HOB:=hid (show w2.heap[w1.heap.size]?=some (.cells #[.string nm,.int .i64 0,.int .i64 t,.int .i64 l,.int .i64 size,.int .i64 epoch] 55) by rw [hw2];exact alloc_at _ _)
 have hl1:w1.heap.size<w2.heap.size:=cells_lt HOB.out
 rw [←hw2] at hba
 have HREF:=hid (qdh V key n B bc sp 0 t l size epoch nm tape P n nl w2 (HRR.out.keeps hba nl) (fun i hi=>(hba.cell (by exact cells_lt (HST.out i hi).hp)).trans (by rw [cells_at (HST.out i hi).hp];rfl)) (fun i hi=>Nat.lt_of_lt_of_le (cells_lt (HST.out i hi).hp) hba.size) HP.out rfl he hz hl HPL.out HTP.out ((HGB.out.below hba).tb) (fun i hi w' hb hT=>HPC.out i hi w' (hba.trans (hb.mono hba.size)) hT) (fun h=>absurd h (Nat.lt_irrefl _)))
 go_wp2_with fail
 rw [←hw2]
 refine HREF.out.mono ?_
 rintro e w3 (⟨_,g,rfl,hrows,hb3⟩|⟨h,_⟩)
 ·have hb03:=hba.trans (hb3.mono hba.size)
  have HOB3:=hid (show w3.heap[w1.heap.size]?=some (.cells #[.string nm,.int .i64 0,.int .i64 t,.int .i64 l,.int .i64 size,.int .i64 epoch] 55) from (hb3.block _ hl1).trans HOB.out)
  have o5:w3.cell? ⟨w1.heap.size,5,none⟩=some (.int .i64 epoch):=cq HOB3.out rfl
  have f5:w3.frozen? ⟨w1.heap.size,5,none⟩=false:=qam HOB3.out
  have o0:w3.cell? ⟨w1.heap.size,0,none⟩=some (.string nm):=cq HOB3.out rfl
  have o1:w3.cell? ⟨w1.heap.size,1,none⟩=some (.int .i64 0):=cq HOB3.out rfl
  have o2:w3.cell? ⟨w1.heap.size,2,none⟩=some (.int .i64 t):=cq HOB3.out rfl
  have o3:w3.cell? ⟨w1.heap.size,3,none⟩=some (.int .i64 l):=cq HOB3.out rfl
  have o4:w3.cell? ⟨w1.heap.size,4,none⟩=some (.int .i64 size):=cq HOB3.out rfl
  have hkind:∀j v,w3.cell? ⟨w1.heap.size,j,none⟩=some v→v=.string nm∨∃x:Int,v=.int .i64 x:=by
   intro j v hj
   rw [cells_at HOB3.out] at hj
   rcases show j=0∨j=1∨j=2∨j=3∨j=4∨j=5∨6≤j by omega with rfl | rfl | rfl | rfl | rfl | rfl | h6
   ·simp at hj;exact .inl hj.symm
   ·simp at hj;exact .inr ⟨_,hj.symm⟩
   ·simp at hj;exact .inr ⟨_,hj.symm⟩
   ·simp at hj;exact .inr ⟨_,hj.symm⟩
   ·simp at hj;exact .inr ⟨_,hj.symm⟩
   ·simp at hj;exact .inr ⟨_,hj.symm⟩
   ·rw [Array.getElem?_eq_none (by simpa using h6)] at hj;cases hj
  have HR4:=hid (hrows.setCell_kind (g:=w1.heap.size) (k:=5) (.int .i64 ((epoch:Int)+1)) (fun j a n c hc=>by rcases hkind j _ hc with h | ⟨x,h⟩<;>cases h) (fun j x hc=>by rcases hkind j _ hc with h | ⟨x,h⟩<;>cases h))
  have hb04:Below w.heap.size w (w3.setCell ⟨w1.heap.size,5,none⟩ (.int .i64 ((epoch:Int)+1))):=hb03.setCell (p:=⟨w1.heap.size,5,none⟩) hb1.size _
  obtain ⟨rows,hrw⟩:∃rows,rows=(List.range n).map fun i=>Cof.sumRow (P i) ((Cof.split (List.replicate size 0) 0 t l n tape.data.toList).getD i []):=⟨_,rfl⟩
  rw [←hrw] at HR4
  have hrl:rows.length=n:=by rw [hrw];simp
  have hrg:∀i,i<n→rows.getD i []=Cof.sumRow (P i) ((Cof.split (List.replicate size 0) 0 t l n tape.data.toList).getD i []):=fun i hi=>by rw [hrw];simp [hi]
  have hrn:∀i,i<n→(rows.getD i []).length=Cof.ngroups 0 t l size:=fun i hi=>by
   rw [hrg i hi,Cof.length_sumRow,HPL.out i hi,qbJ HP.out _ _ i hi (by simpa using HTP.out)]
   simp
  have HRG:=hid hrg
  have HREC:=hid (qe0 V key n B bc sp 0 t l size (epoch+1) (Cof.ngroups 0 t l size) nm (some ⟨g,0,none⟩) n rows (w3.setCell ⟨w1.heap.size,5,none⟩ (.int .i64 ((epoch:Int)+1))) (HRR.out.keeps hb04 nl) HP.out (by omega) hz hnm hk hrl hrn hl HR4.out)
  obtain ⟨w4,hw4⟩:∃w4,w4=w3.setCell ⟨w1.heap.size,5,none⟩ (.int .i64 ((epoch:Int)+1)):=⟨_,rfl⟩
  clear hrows hkind hrw hrl hrg hrn HR4
  go_wp2_with fail
  rw [←hw4] at HREC hb04 ⊢
  refine HREC.out.mono ?_
  rintro e w5 ⟨gr,ys,rfl,hmd⟩
  have hb45:=hmd.bl
  have hb05:=hb04.trans (hb45.mono hb04.size)
  have hS05:qaa (fun _=>False) w w5:=qaa.ofBelow hb05 nl
  have hV5:=HVT.out.keeps hS05 (fun h=>h) (fun h=>h)
  have hrow:=hmd.row
  rw [Nat.sub_self,List.replicate_zero,List.append_nil] at hrow
  obtain ⟨_,_,hgv,hgrd⟩:=qad hrow
  have hgeq:=(by simpa using hgv:(some (⟨gr,0,none⟩:Addr))=_∧_)
  rw [←hgeq.1] at hgrd
  have hgr:=hrow.lt gr rfl
  have hvl:∀i,i<n→∀b,(vs i).ownBlock=some b→b<w.heap.size:=fun i hi b hb=>((HST.out i hi).row.lt b hb).2
  have hvV:∀i,i<n→(vs i).ownBlock≠some V:=fun i hi=>row_ne (HST.out i hi).row HVT.out.hp (by decide)
  have hsV:∀i,i<n→sp i≠V:=by
   intro i hi e
   have h1:=(HST.out i hi).hp
   have h2:=HVT.out.hp
   rw [e,h2] at h1
   cases h1
  obtain ⟨LB,hLB,_⟩:=HVT.out.hb
  have hvB:∀i,i<n→(vs i).ownBlock≠some B:=fun i hi=>row_ne (HST.out i hi).row hLB (by decide)
  have hBV:B≠V:=by
   intro e
   have h2:=HVT.out.hp
   rw [←e,hLB] at h2
   cases h2
  have hnmx:∀i,i<n→(ys[i]!).name=nm:=fun i hi=>(hmd.ok i hi).e.1
  have hepx:∀i,i<n→(qac (rss i) nm).epoch≤1000:=fun i hi=>by
   have:=((qe1 _ _).1 (HOB0.out i hi)).2.2.2.2.2
   simp only [RecV.ob] at this
   omega
  have had:∀i,i<n→∃ad,(ys[i]!).sa=some ad:=by
   intro i hi
   obtain ⟨sg,cap,hsl,_,_⟩:=qb4 (hmd.ok i hi).own (by rw [(hmd.ok i hi).sn];omega)
   have:=(by simpa using hsl:(ys[i]!).sa=some ⟨sg,0,none⟩∧_)
   exact ⟨_,this.1⟩
  have hG5:=HGB.out.below hb05
  have hW:=write_any 2 2 (qbt 2) (fun t w'=>RefK n sp rss nm ys vs t w') (fun b=>∃i,i<n∧(vs i).ownBlock=some b) V key n B bc gr n sp ys p w5 rfl (by decide) hn8 qiO
   (fun j f hf args w'=>by
    cases j with
    | zero=>cases hf;exact Tryz.callLay args w'
    | succ j=>cases j with
     | zero=>cases hf;exact Tryz.callTurn args w'
     | succ j=>cases hf)
   hV5 hmd.len hgrd hgr.2
   (fun w' hb q hq=>by
    have e:qaq n (fun q=>qac (rss q) nm) ys 0 q=qac (rss q) nm:=by unfold qaq;rw [if_neg (by omega),if_neg (by omega)]
    rw [qfi e (qbz (HY.out q hq))]
    exact ((HST.out q hq).keeps hS05 (fun h=>h) (fun _ _ h=>h)).keeps (qaa.ofBelow (own:=fun _=>False) hb nl) (fun h=>h) (fun _ _ h=>h))
   (fun t w1 w2 h hs=>h.keeps hs hsV hvV)
   (fun b ⟨i,hi,e⟩=>by have:=hvl i hi b e;have:=hb05.size;omega)
   (fun ⟨i,hi,e⟩=>hvV i hi e) (fun ⟨i,hi,e⟩=>hvB i hi e) (fun ⟨i,hi,e⟩=>by have:=hvl i hi _ e;have:=hb04.size;omega) (by have:=hb04.size;omega) hBV
   (fun w1 hs=>(hG5.spared hs (fun b hb=>by
    rcases hb with rfl | ⟨i,hi,hb⟩
    ·exact hbV
    ·exact HBV.out i hi b hb)).tb)
   (fun j i f w1 hf hi hJ _=>by
    cases j with
    | zero =>
     cases hf
     exact qk8 n sp rss nm ys vs i w1 hJ hi HVI.out (hnmx i hi) (HY.out i hi)
    | succ j=>cases j with
     | zero =>
      cases hf
      obtain ⟨ad,hadi⟩:=had i hi
      exact qjI n sp rss nm ys vs i ad w1 hJ hi HVI.out (hnmx i hi) (HY.out i hi) hadi (hepx i hi)
     | succ j=>cases hf)
  have HW:=hid hW
  clear hW
  have hxb:∀i,i<n→∀b,(ys[i]!).blk=some b→w4.heap.size≤b:=fun i hi b hb=>((hmd.ok i hi).own.lt b hb).1
  have HFIN:=hid (show ∀w6,qaa (fun b=>b=V∨∃i,i<n∧(vs i).ownBlock=some b) w5 w6→ys.length=n∧(∀i,i<n→qc7 w6 w.heap.size key 0 t l n size (epoch+1) nm (Cof.sumRow (P i) ((Cof.split (List.replicate size 0) 0 t l n tape.data.toList).getD i [])) i (ys[i]!))∧(∀i j,i<j→j<n→(ys[i]!).blk≠(ys[j]!).blk)∧qaa (fun b=>b=V∨∃i,i<n∧(vs i).ownBlock=some b) w w6 from fun w6 hs6=>⟨hmd.len,fun i hi=>by
   have hk:=((hmd.ok i hi).keeps hs6 (fun b hb ho=>by
    have h1:=hxb i hi b hb
    have h2:=hb04.size
    rcases ho with rfl | ⟨q,hq,hqb⟩
    ·omega
    ·have:=hvl q hq b hqb;omega)).mono (by have:=hb04.size;omega:w.heap.size≤w4.heap.size)
   rw [HRG.out i hi] at hk
   exact hk,hmd.inj,(qaa.ofBelow hb05 nl).trans hs6⟩)
  clear hmd hrow hgrd hxb hnmx had hG5 hV5 hgv hgeq hepx
  go_wp2_with fail
  refine HW.out.mono ?_
  rintro e w6 ⟨⟨k,hk1,hJ,hnh,hend⟩,hsp6⟩
  have HJ:=hid hJ
  have HNH:=hid hnh
  have HSP:=hid hsp6
  have HK1:=hid hk1
  clear hJ hnh hsp6 hk1
  rcases hend with ⟨hk2,rfl,hvp⟩|⟨hk2,hh,⟨ev,rfl,hch⟩,hvp⟩
  ·have HVP:=hid hvp
   have HK2:=hid hk2
   clear hvp hk2
   go_wp2_with (go_at_call 78;refine (at_nil _ _).mono ?_;rintro e w7 ⟨rfl,rfl⟩)
   go_ret
   exact ⟨ys,k,⟨HK1.out,HNH.out,.inl ⟨HK2.out,rfl,HVP.out⟩⟩,HJ.out,HFIN.out _ HSP.out⟩
  ·have HVP:=hid hvp
   have HK2:=hid hk2
   have HHH:=hid hh
   have HCH:=hid hch
   obtain ⟨te,ve,rfl⟩:=hch.shape
   clear hvp hk2 hh hch
   go_wp2_with (go_at_call 78;refine (qav _ _ 1 1 _ HCH.out).mono ?_;rintro e w7 ⟨e7,rfl,hch7,hb7⟩)
   go_ret
   have hs7:qaa (fun _=>False) w6 w7:=qaa.ofBelow hb7 nl
   exact ⟨ys,k,⟨HK1.out,HNH.out,.inr ⟨HK2.out,HHH.out,⟨_,rfl,hch7⟩,HVP.out.keeps hs7 (fun h=>h) (fun h=>h)⟩⟩,fun q hq=>(HJ.out q hq).keeps hs7 (fun h=>h) (fun _ _ h=>h),HFIN.out _ (HSP.out.trans (qaa.ofBelow hb7 nl))⟩
 ·exact absurd h (Nat.lt_irrefl _)
theorem qfw (L:List Ob) (x:Ob) (h0:L≠[]) (h:∀y∈L,y=x):qdY L=true:=by
 unfold qdY
 refine decide_eq_true ⟨h0,fun j hj=>?_⟩
 have hpos:0<L.length:=List.length_pos_iff.2 h0
 rw [getElem!_pos L j hj,getElem!_pos L 0 hpos,h _ (List.getElem_mem hj),h _ (List.getElem_mem hpos)]
theorem qdu {rs:List RecV} (hso:Sorted rs) (r:RecV) (hr:r∈rs):hasName rs r.name=true∧rs[qai rs r.name]! = r:=by
 obtain ⟨i,hi,rfl⟩:=List.getElem_of_mem hr
 have hp:qai rs (rs[i]).name=i:=qhG rs _ i (by omega) (fun k hk=>by
  have:=hso k i hk hi
  rwa [getElem!_pos rs i hi] at this) (fun k hk hk2 hc=>by
  rcases Nat.eq_or_lt_of_le hk with rfl | hlt
  ·rw [getElem!_pos rs i hi] at hc
   rw [qaB.2 rfl] at hc
   omega
  ·have h1:=hso i k hlt hk2
   rw [getElem!_pos rs i hi] at h1
   have h2:=qbR h1 hc
   rw [qaB.2 rfl] at h2
   omega)
 refine ⟨?_,by rw [hp,getElem!_pos rs i hi]⟩
 unfold hasName
 rw [hp,decide_eq_true hi,getElem!_pos rs i hi,qaB.2 rfl]
 rfl
structure Even (n:Nat) (rss:Nat→List RecV):Prop where
 same:∀i,i<n→(rss i).map RecV.ob=(rss 0).map RecV.ob
 bare:∀i,i<n→∀r∈rss i,r.na=none
 ep:∀i,i<n→∀r∈rss i,r.epoch≤1000∧r.name.size≤1000
theorem Even.has {n:Nat} {rss:Nat→List RecV} (h:Even n rss) (hso:∀i,i<n→Sorted (rss i)) (i j:Nat) (hi:i<n) (hj:j<n) (r:RecV) (hr:r∈rss i):hasName (rss j) r.name=true∧(qac (rss j) r.name).ob=r.ob∧qac (rss j) r.name∈rss j:=by
 have h1:r.ob∈(rss j).map RecV.ob:=by
  rw [h.same j hj,←h.same i hi]
  exact List.mem_map_of_mem hr
 obtain ⟨q,hq,hqo⟩:=List.mem_map.1 h1
 have hqn:q.name=r.name:=congrArg Ob.name hqo
 obtain ⟨h2,h3⟩:=qdu (hso j hj) q hq
 rw [hqn] at h2 h3
 unfold qac
 rw [h3]
 exact ⟨h2,hqo,hq⟩
theorem qbj (rs:List RecV):Sorted rs↔rs.Pairwise (fun a b=>cmpB a.name b.name<0):=by
 rw [List.pairwise_iff_getElem]
 unfold Sorted
 constructor
 ·intro h i j hi hj hij
  have:=h i j hij hj
  rwa [getElem!_pos rs i hi,getElem!_pos rs j hj] at this
 ·intro h i j hij hj
  rw [getElem!_pos rs i (by omega),getElem!_pos rs j hj]
  exact h i j (by omega) hj hij
theorem qes (nm:ByteArray):∀rs:List RecV,Sorted rs→rs.take (qai rs nm)=rs.filter (fun r=>decide (cmpB r.name nm<0))∧rs.drop (qai rs nm)=rs.filter (fun r=>!decide (cmpB r.name nm<0))
 | [],_=>by simp [qai]
 | r :: rs,h=>by
  have hp:=(qbj _).1 h
  rw [List.pairwise_cons] at hp
  by_cases hr:cmpB r.name nm<0
  ·have ih:=qes nm rs ((qbj _).2 hp.2)
   have e:qai (r :: rs) nm=qai rs nm+1:=by unfold qai;rw [List.countP_cons_of_pos (by simpa using hr)]
   rw [e,List.take_succ_cons,List.drop_succ_cons,ih.1,ih.2,List.filter_cons_of_pos (by simpa using hr),List.filter_cons_of_neg (by simpa using hr)]
   exact ⟨rfl,rfl⟩
  ·have hall:∀x∈r :: rs,¬cmpB x.name nm<0:=by
    intro x hx hc
    rcases List.mem_cons.1 hx with rfl | hx
    ·exact hr hc
    ·exact hr (qbR (hp.1 x hx) hc)
   have e:qai (r :: rs) nm=0:=by
    unfold qai
    rw [List.countP_eq_zero]
    intro x hx
    simpa using hall x hx
   rw [e,List.take_zero,List.drop_zero]
   constructor
   ·symm
    rw [List.filter_eq_nil_iff]
    intro x hx
    simpa using hall x hx
   ·symm
    rw [List.filter_eq_self]
    intro x hx
    have:=hall x hx
    simp only [this,decide_false,Bool.not_false]
theorem qay {rs:List RecV} (h:Sorted rs) (nm:ByteArray):hasName rs nm=true↔∃r∈rs,r.name=nm:=by
 constructor
 ·intro hy
  refine ⟨rs[qai rs nm]!,?_,qaS hy⟩
  rw [getElem!_pos rs _ (qbz hy)]
  exact List.getElem_mem _
 ·rintro ⟨r,hr,rfl⟩
  exact (qdu h r hr).1
theorem qfI {rs:List RecV} (h:Sorted rs) (r:RecV) (hr:r∈rs):qac rs r.name=r:=(qdu h r hr).2
theorem qas {rs:List RecV} {nm:ByteArray} (hy:hasName rs nm=true):qac rs nm∈rs∧(qac rs nm).name=nm:=by
 unfold qac
 refine ⟨?_,qaS hy⟩
 rw [getElem!_pos rs _ (qbz hy)]
 exact List.getElem_mem _
def insR (rs:List RecV) (r:RecV):List RecV:=rs.take (qai rs r.name)++r :: rs.drop (qai rs r.name)
theorem qgY (rs:List RecV) (r:RecV):(insR rs r).length=rs.length+1:=by
 have:=qh9 rs r.name
 unfold insR
 rw [List.length_append,List.length_cons,List.length_take,List.length_drop]
 omega
theorem qkC (rs:List RecV) (r x:RecV):x∈insR rs r↔x=r∨x∈rs:=by
 have h:x∈rs↔x∈rs.take (qai rs r.name)∨x∈rs.drop (qai rs r.name):=by
  rw [←List.mem_append,List.take_append_drop]
 unfold insR
 rw [List.mem_append,List.mem_cons,h]
 constructor
 ·rintro (h | h | h)
  ·exact .inr (.inl h)
  ·exact .inl h
  ·exact .inr (.inr h)
 ·rintro (h | h | h)
  ·exact .inr (.inl h)
  ·exact .inl h
  ·exact .inr (.inr h)
theorem qed {rs:List RecV} (h:Sorted rs) (r:RecV) (hno:hasName rs r.name=false):Sorted (insR rs r):=by
 have hp:=(qbj _).1 h
 obtain ⟨h1,h2⟩:=qes r.name rs h
 have hne:∀x∈rs,x.name≠r.name:=fun x hx e=>by
  have:=(qay h r.name).2 ⟨x,hx,e⟩
  rw [hno] at this
  cases this
 rw [qbj]
 unfold insR
 rw [h1,h2,List.pairwise_append,List.pairwise_cons]
 have hlt:∀b∈rs.filter (fun x=>!decide (cmpB x.name r.name<0)),cmpB r.name b.name<0:=by
  intro b hb
  rw [List.mem_filter] at hb
  have h3:¬cmpB b.name r.name<0:=by simpa using hb.2
  have h4:cmpB b.name r.name≠0:=fun e=>hne b hb.1 (qaB.1 e)
  have h5:=qdW r.name b.name
  omega
 refine ⟨hp.sublist List.filter_sublist,⟨hlt,hp.sublist List.filter_sublist⟩,?_⟩
 intro a ha b hb
 have ha':cmpB a.name r.name<0:=by
  rw [List.mem_filter] at ha
  simpa using ha.2
 rcases List.mem_cons.1 hb with rfl | hb
 ·exact ha'
 ·exact qbR ha' (hlt b hb)
def remR (rs:List RecV) (nm:ByteArray):List RecV:=rs.filter fun r=>!decide (r.name=nm)
theorem qer {rs:List RecV} (h:Sorted rs) (nm:ByteArray):Sorted (remR rs nm) :=
 (qbj _).2 (((qbj _).1 h).sublist List.filter_sublist)
theorem qfq (rs:List RecV) (nm:ByteArray) (x:RecV):x∈remR rs nm↔x∈rs∧x.name≠nm:=by
 unfold remR
 rw [List.mem_filter]
 simp
theorem qj6 {rs:List RecV} (h:Sorted rs) (nm:ByteArray) (hno:hasName rs nm=false):remR rs nm=rs:=by
 unfold remR
 rw [List.filter_eq_self]
 intro r hr
 have:r.name≠nm:=fun e=>by
  have:=(qay h nm).2 ⟨r,hr,e⟩
  rw [hno] at this
  cases this
 simp [this]
section
variable {P:Program} {ops:Array Oper} {Q:Exit→Act→World→Prop}
def qcS (P:Program) (o:Oper) (a:Act) (w:World) (post:Value→World→Prop):Prop :=
 qbc P o a w post∨∃w',(execOp a.eval o).run P w=.ok .skip w'∧post undef w'
theorem qcS.wp {o:Oper} {a:Act} {w:World} {post:Value→World→Prop} {K:Act→World→Prop} (h:qcS P o a w post) (hK:∀v w',post v w'→K (a.put o.dst v) w'):o.wp P a w K Q:=by
 rcases h with h | ⟨w',hr,hp⟩
 ·exact h.wp hK
 ·unfold Oper.wp
  rw [hr]
  exact hK undef w' hp
def qdH (P:Program) (ops:Array Oper) (slot:Nat→Option Nat) (R:Nat→Act→World→Prop) (U:Nat→World→Prop) (O:Nat→Nat→Prop) (fixed:List (Nat × Value)) (reads:Nat→List Nat) (N:Nat) (w0:World):Nat→List Oper→Prop
 | _,[]=>True
 | i,o :: rest=>(∀a w,a.tmps.size=N→qaa (fun b=>∃i,O i b) w0 w→(∀x∈fixed,(reads i).contains x.1=true→a.tmps.getD x.1 undef=x.2)→(∀e∈o.after,Region.binds .any e=true→R e.on a w∧∀j,waits ops e.on j=true→R j a w)→U i w→qcS P o a w fun v w'=>qaa (O i) w w'∧R i (a.put (slot i) v) w')∧qdH P ops slot R U O fixed reads N w0 (i+1) rest
theorem qdH.at {slot:Nat→Option Nat} {R:Nat→Act→World→Prop} {U:Nat→World→Prop} {O:Nat→Nat→Prop} {fixed:List (Nat × Value)} {reads:Nat→List Nat} {N:Nat} {w0:World}:∀(l:List Oper) (k i:Nat) (o:Oper),qdH P ops slot R U O fixed reads N w0 k l→l[i]?=some o →
  ∀a w,a.tmps.size=N→qaa (fun b=>∃i,O i b) w0 w→(∀x∈fixed,(reads (k+i)).contains x.1=true→a.tmps.getD x.1 undef=x.2)→(∀e∈o.after,Region.binds .any e=true→R e.on a w∧∀j,waits ops e.on j=true→R j a w)→U (k+i) w→qcS P o a w fun v w'=>qaa (O (k+i)) w w'∧R (k+i) (a.put (slot (k+i)) v) w':=by
 intro l
 induction l with
 | nil=>intro k i o _ hi;simp at hi
 | cons x l ih =>
  intro k i o h hi
  cases i with
  | zero =>
   simp at hi
   subst hi
   exact h.1
  | succ i =>
   have:=ih (k+1) i o h.2 (by simpa using hi)
   rw [show k+(i+1)=k+1+i by omega]
   exact this
def qli (ops:Array Oper) (slot:Nat→Option Nat) (N:Nat) (reads:Nat→List Nat):Bool :=
 (List.range ops.size).all fun i=>match ops[i]? with
  | none=>true
  | some o=>o.dst == slot i && (match slot i with | none=>true | some s=>decide (s<N)) && o.guard.isNone && o.after.all (fun e=>!Region.binds .any e || decide (e.on<i)) && (List.range ops.size).all (fun j=>slot i != slot j || i == j) && (match slot i with | none=>true | some s=>(List.range ops.size).all fun j=>!(reads j).contains s || o.after.any fun e=>e.on == j && Region.binds .any e)
structure OI2 (ops:Array Oper) (slot:Nat→Option Nat) (R:Nat→Act→World→Prop) (U:Nat→World→Prop) (O:Nat→Nat→Prop) (fixed:List (Nat × Value)) (N:Nat) (w0:World) (listed:Array Bool) (a:Act) (w:World):Prop where
 df:a.defers=[]
 sz:a.tmps.size=N
 sp:qaa (fun b=>∃i,O i b) w0 w
 fx:∀x∈fixed,(∀k,k<ops.size→slot k=some x.1→listed.getD k false=false)→a.tmps.getD x.1 undef=x.2
 cl:∀(i:Nat) (o:Oper),ops[i]?=some o→listed.getD i false=true→∀e∈o.after,Region.binds .any e=true→listed.getD e.on false=true
 rs:∀j,listed.getD j false=true→R j a w
 us:∀j,j<ops.size→listed.getD j false=false→U j w
theorem qcK {id:Nat} {a:Act} {w:World} (hm:P.follows .mixedOrders=true) (slot:Nat→Option Nat) (R:Nat→Act→World→Prop) (U:Nat→World→Prop) (O:Nat→Nat→Prop) (fixed:List (Nat × Value)) (N:Nat) (reads:Nat→List Nat)
  (hok:qli ops slot N reads=true)
  (ha:a.defers=[]) (hN:a.tmps.size=N) (hfx:∀p∈fixed,a.tmps.getD p.1 undef=p.2)
  (hU0:∀j,j<ops.size→U j { w with drawn:=w.drawn+1 })
  (hR:∀i j a v w1 w2,j<ops.size→i≠j→qdm ops j i=false→qaa (fun b=>∃i,O i b) { w with drawn:=w.drawn+1 } w1→R j a w1→qaa (O i) w1 w2→slot i≠slot j→R j (a.put (slot i) v) w2)
  (hU:∀i j w1 w2,i≠j→qdm ops i j=false→qaa (fun b=>∃i,O i b) { w with drawn:=w.drawn+1 } w1→U j w1→qaa (O i) w1 w2→U j w2)
  (hstep:qdH P ops slot R U O fixed reads N { w with drawn:=w.drawn+1 } 0 ops.toList)
  (hend:∀a w',a.defers=[]→a.tmps.size=N→qaa (fun b=>∃i,O i b) { w with drawn:=w.drawn+1 } w'→(∀x∈fixed,(∀k,k<ops.size→slot k≠some x.1)→a.tmps.getD x.1 undef=x.2)→(∀j,j<ops.size→R j a w')→Q .normal a w') :
  (Code.region id ops true).wp P Q a w:=by
 unfold qli at hok
 rw [List.all_eq_true] at hok
 have hops:∀(i:Nat) (o:Oper),ops[i]?=some o→o.dst=slot i∧True∧o.guard=none∧(∀e∈o.after,Region.binds .any e=true→e.on<i)∧(∀j,j<ops.size→slot i=slot j→i=j)∧(∀j,j<ops.size→∀s,slot i=some s→(reads j).contains s=true→∃e∈o.after,e.on=j∧Region.binds .any e=true):=by
  intro i o ho
  have his:i<ops.size:=(Array.getElem?_eq_some_iff.1 ho).1
  have:=hok i (List.mem_range.2 his)
  simp only [ho,Bool.and_eq_true] at this
  obtain ⟨⟨⟨⟨⟨h1,h2⟩,h3⟩,h5⟩,h6⟩,h7⟩:=this
  simp only [beq_iff_eq] at h1
  simp only [Option.isNone_iff_eq_none] at h3
  simp only [Array.all_eq_true_iff_forall_mem,Bool.or_eq_true,Bool.not_eq_true',decide_eq_true_eq] at h5
  simp only [List.all_eq_true,List.mem_range,Bool.or_eq_true,bne_iff_ne,ne_eq,beq_iff_eq] at h6
  refine ⟨h1,trivial,h3,fun e he hbd=>(h5 e he).elim (fun h=>by rw [hbd] at h;cases h) (fun h=>h),fun j hj he=>?_,fun j hj s hs hno=>?_⟩
  ·rcases h6 j hj with h | h
   ·exact absurd he h
   ·exact h
  ·rw [hs] at h7
   simp only [List.all_eq_true,List.mem_range] at h7
   have h8:=h7 j hj
   rw [hno] at h8
   simp only [Bool.not_true,Bool.false_or,Array.any_eq_true'] at h8
   obtain ⟨e,he,h9⟩:=h8
   simp only [Bool.and_eq_true,beq_iff_eq] at h9
   exact ⟨e,he,h9.1,h9.2⟩
 refine wp_region_any hm (qcI (OI2 ops slot R U O fixed N { w with drawn:=w.drawn+1 }) (fun i o e ho he hbd=>(hops i o ho).2.2.2.1 e he hbd) ?_ ?_ ops.size _ _ _ (by simp) (by unfold todo;exact Nat.le_trans (List.countP_le_length ..) (by simp)) ⟨ha,hN,sr,fun x hx _=>hfx x hx,fun i o ho hl=>by simp [Array.getElem?_replicate] at hl;split at hl<;>simp at hl,fun j hj=>by simp [Array.getElem?_replicate] at hj;split at hj<;>simp at hj,fun j hj _=>hU0 j hj⟩)
 ·intro listed a w' i o hI hs ho hno hall
  obtain ⟨h1,h2,h3,h5,h6,h7⟩:=hops i o ho
  have his:i<ops.size:=(Array.getElem?_eq_some_iff.1 ho).1
  have hcl:∀k j,listed.getD k false=true→waits ops k j=true→listed.getD j false=true:=by
   intro k j hk' hwj
   unfold waits at hwj
   cases hok:ops[k]? with
   | none=>rw [hok] at hwj;cases hwj
   | some ok =>
    rw [hok] at hwj
    simp only [Array.any_eq_true'] at hwj
    obtain ⟨e,he,h9⟩:=hwj
    simp only [Bool.and_eq_true,beq_iff_eq] at h9
    rw [←h9.1]
    exact hI.cl k ok hok hk' e he h9.2
  have hok:=hstep.at (P:=P) ops.toList 0 i o (by simpa using ho) a w' hI.sz hI.sp (fun x hx hkf=>hI.fx x hx (fun k hk' hsk=>by
   rw [Nat.zero_add] at hkf
   cases hlk:listed.getD k false with
   | false=>rfl
   | true =>
    obtain ⟨_,_,_,_,_,h7'⟩:=hops k ops[k] (by simp [hk'])
    obtain ⟨e,he,hej,hbd⟩:=h7' i his x.1 hsk hkf
    have:=hI.cl k ops[k] (by simp [hk']) hlk e he hbd
    rw [hej,hno] at this
    cases this)) (fun e he hbd=>⟨hI.rs _ (hall e he hbd),fun j hwj=>hI.rs j (hcl e.on j (hall e he hbd) hwj)⟩) (by rw [Nat.zero_add];exact hI.us i his hno)
  rw [Nat.zero_add] at hok
  unfold wpOp
  simp only [ho,Region.wanted,h3,if_true]
  refine .inl (hok.wp fun v w'' hp=>?_)
  rw [h1]
  refine ⟨by cases slot i<;>exact hI.df,by cases slot i<;>simp [Act.put,hI.sz],hI.sp.trans (hp.1.mono fun b hb=>⟨i,hb⟩),fun x hx hnl=>?_,fun j o' ho' hl e he hbd=>?_,fun j hj=>?_,fun j hj hl=>?_⟩
  ·have hne:slot i≠some x.1:=fun e=>by
    have:=hnl i his e
    rw [show (listed.setIfInBounds i true).getD i false=true by simp [show i<listed.size by omega]] at this
    cases this
   have:=hI.fx x hx (fun k hk' hsk=>by
    have h9:=hnl k hk' hsk
    have hki:i≠k:=fun e=>hne (by rw [e];exact hsk)
    rwa [getD_set_ne false hki] at h9)
   rw [←this]
   cases hsi:slot i with
   | none=>rfl
   | some s =>
    have hne':s≠x.1:=fun e=>hne (by rw [hsi,e])
    simp [Act.put,Array.getElem?_setIfInBounds_ne hne']
  ·by_cases hei:i=e.on
   ·rw [←hei];simp [show i<listed.size by omega]
   ·rw [getD_set_ne false hei]
    by_cases hji:i=j
    ·subst hji
     rw [ho] at ho'
     cases ho'
     exact hall e he hbd
    ·rw [getD_set_ne false hji] at hl
     exact hI.cl j o' ho' hl e he hbd
  ·by_cases hji:i=j
   ·subst hji
    exact hp.2
   ·rw [getD_set_ne false hji] at hj
    have hjs:j<ops.size:=by
     rcases Nat.lt_or_ge j listed.size with h | h
     ·omega
     ·simp [Array.getElem?_eq_none h] at hj
    have hsl:slot i≠slot j:=fun e=>hji (h6 j hjs e)
    have hw1:∀k,listed.getD k false=true→waits ops k i=false:=by
     intro k hk'
     cases hq:waits ops k i with
     | false=>rfl
     | true=>have:=hcl k i hk' hq;rw [hno] at this;cases this
    have hwt:qdm ops j i=false:=by
     unfold qdm
     rw [hw1 j hj,Bool.false_or,show ops[j]?=some ops[j] by simp [hjs]]
     cases hq:(ops[j].after.any fun e=>Region.binds .any e && waits ops e.on i) with
     | false=>simp only [hq]
     | true =>
      rw [Array.any_eq_true'] at hq
      obtain ⟨e,he,h9⟩:=hq
      simp only [Bool.and_eq_true] at h9
      have:=hw1 e.on (hI.cl j ops[j] (by simp [hjs]) hj e he h9.1)
      rw [h9.2] at this
      cases this
    exact hR i j a v _ _ hjs hji hwt hI.sp (hI.rs j hj) hp.1 hsl
  ·have hji:i≠j:=fun e=>by
    subst e
    rw [show (listed.setIfInBounds i true).getD i false=true by simp [show i<listed.size by omega]] at hl
    cases hl
   rw [getD_set_ne false hji] at hl
   have hw1:∀k,listed.getD k false=true→waits ops k j=false:=by
    intro k hk'
    cases hq:waits ops k j with
    | false=>rfl
    | true=>have:=hcl k j hk' hq;rw [hl] at this;cases this
   have hwt:qdm ops i j=false:=by
    unfold qdm
    have h0:waits ops i j=false:=by
     unfold waits
     rw [ho]
     cases hq:(o.after.any fun e=>e.on == j && Region.binds .any e) with
     | false=>simp only [hq]
     | true =>
      rw [Array.any_eq_true'] at hq
      obtain ⟨e,he,h9⟩:=hq
      simp only [Bool.and_eq_true,beq_iff_eq] at h9
      have:=hall e he h9.2
      rw [h9.1,hl] at this
      cases this
    rw [h0,Bool.false_or,ho]
    cases hq:(o.after.any fun e=>Region.binds .any e && waits ops e.on j) with
    | false=>simp only [hq]
    | true =>
     rw [Array.any_eq_true'] at hq
     obtain ⟨e,he,h9⟩:=hq
     simp only [Bool.and_eq_true] at h9
     have:=hw1 e.on (hall e he h9.1)
     rw [h9.2] at this
     cases this
   exact hU i j _ _ hji hwt hI.sp (hI.us j hj hl) hp.1
 ·intro listed a w' hI hall
  exact hend a w' hI.df hI.sz hI.sp (fun x hx hne=>hI.fx x hx (fun k hk' e=>absurd e (hne k hk'))) (fun j hj=>hI.rs j (hall j hj))
end
end Go.Proofs.YtcegdgmbponapaaGreatDoor