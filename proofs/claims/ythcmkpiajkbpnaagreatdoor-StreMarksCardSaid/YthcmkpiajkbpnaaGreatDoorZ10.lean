/- Parts of the proof, put together from smaller texts (blanks that Lean does not want are struck). Conditions: those that each theorem writes out. -/
import Derived.BigQuiet
import Derived.Deep.DrawnRows
import Derived.Deep.RegionWith
import Derived.Test.YthcmkpiajkbpnaaGreatDoorZ01
import Derived.Test.YthcmkpiajkbpnaaGreatDoorZ03
import Derived.Test.YthcmkpiajkbpnaaGreatDoorZ04
import Derived.Test.YthcmkpiajkbpnaaGreatDoorZ05
import Derived.Test.YthcmkpiajkbpnaaGreatDoorZ06
import Derived.Test.YthcmkpiajkbpnaaGreatDoorZ07
import Derived.Test.YthcmkpiajkbpnaaGreatDoorZ09
namespace Go.Proofs.YthcmkpiajkbpnaaGreatDoor
open Go.RowKit
theorem Keep.drewN {P:Nat→Prop} {a w:World} (h:Keep P a w) (k:Nat):Keep P a (w.drewN k):=h.trans ⟨rfl,rfl,rfl,Nat.le_refl _,fun _ _=>rfl⟩ (fun _ hi=>hi)
end Go.Proofs.YthcmkpiajkbpnaaGreatDoor
namespace Go.Proofs.YthcmkpiajkbpnaaGreatDoor
open Go.RowKit
theorem HasV.tail {w:World} {b off m cap:Nat} {c:List UInt8 × Nat} {cs:Coms} (hm:cap≤maxLen) (hc:Came w 2 (some ⟨b,off,none⟩) b off (m+1) cap (comV (c :: cs))) (hl:cs.length=m):HasV 2 w (.slice (some ⟨b,off+2,none⟩) m (cap-1)) cs.length (comV cs):=by
 subst hl
 have h0:0<cap:=by have:=hc.le;omega
 have hle:=hc.le
 refine ⟨_,b,off+2,cap-1,rfl,by omega,⟨by omega,fun _=>rfl,fun _=>hc.lt h0,comV_length cs,fun j u hu=>?_,fun j hj=>?_⟩,fun k hk=>by injection hk with hk;rw[←hk];exact hc.lt h0⟩
 ·have:=hc.olds (j+1+1) u hu
  rwa [show off+2+j=off+(j+1+1) by omega]
 ·have:=hc.spare j (by rw[show cap-1-cs.length=cap-(cs.length+1) by omega] at hj;exact hj)
  rwa [show off+(cs.length+1)*2+j=off+2+cs.length*2+j by omega] at this
theorem HasV.spent (w:World) (b off:Nat) (hb:b<w.heap.size):HasV 2 w (.slice (some ⟨b,off,none⟩) 0 0) 0 []:=⟨_,b,off,0,rfl,by decide,⟨Nat.le_refl _,fun h=>absurd h (Nat.lt_irrefl _),fun h=>absurd h (Nat.lt_irrefl _),rfl,fun j u h=>by simp at h,fun j h=>by simp at h⟩,fun k hk=>by injection hk with hk;rw[←hk];exact hb⟩
def IsKL (R:Nat→Prop) (w:World):List Value→List NT→Prop
 | cells,[]=>cells=[]
 | cells,t :: ts=>∃ cs rest,cells=cs++rest∧IsN R w t cs∧IsKL R w rest ts
theorem IsKL.frame {R R':Nat→Prop} {w w':World} (hR:∀ b,R b→R' b∧w'.heap[b]?=w.heap[b]?):∀ (ts:List NT) (cells:List Value),IsKL R w cells ts→IsKL R' w' cells ts
 | [],cells,h=>h
 | t :: ts,cells,h=>by
  obtain ⟨cs,rest,e,h1,h2⟩:=h
  exact ⟨cs,rest,e,IsN.frame hR t cs h1,IsKL.frame hR ts rest h2⟩
theorem IsKL.append {R:Nat→Prop} {w:World}:∀ (ts us:List NT) (a b:List Value),IsKL R w a ts→IsKL R w b us→IsKL R w (a++b) (ts++us)
 | [],us,a,b,h1,h2=>by rw[show a=[] from h1];exact h2
 | t :: ts,us,a,b,h1,h2=>by
  obtain ⟨cs,rest,rfl,g1,g2⟩:=h1
  exact ⟨cs,rest++b,List.append_assoc _ _ _,g1,IsKL.append ts us rest b g2 h2⟩
theorem IsKL.toKids {R:Nat→Prop} {w:World} {b:Nat}:∀ (ts:List NT) (o:Nat) (cells:List Value),IsKL R w cells ts→(∀ j u,cells[j]?=some u→w.cell? ⟨b,o+j,none⟩=some u)→IsKids R w b o ts
 | [],o,cells,h,hc=>by unfold IsKids;trivial
 | t :: ts,o,cells,h,hc=>by
  obtain ⟨cs,rest,rfl,h1,h2⟩:=h
  unfold IsKids
  have hl:=h1.len
  refine ⟨⟨cs,fun i hi=>?_,h1⟩,IsKL.toKids ts (o+12) rest h2 fun j u hu=>?_⟩
  ·have hi2:i<cs.length:=by omega
   rw[List.getElem?_eq_getElem hi2]
   exact hc i _ (by rw[List.getElem?_append_left hi2,List.getElem?_eq_getElem hi2])
  ·have:=hc (j+12) u (by rw[List.getElem?_append_right (by omega),show j+12-cs.length=j by omega];exact hu)
   rwa [show o+(j+12)=o+12+j by omega] at this
theorem IsKL.one {R:Nat→Prop} {w:World} {t:NT} {cs:List Value} (h:IsN R w t cs):IsKL R w cs [t]:=⟨cs,[],(List.append_nil _).symm,h,rfl⟩
theorem IsKL.two {R:Nat→Prop} {w:World} {a b:NT} {ca cb:List Value} (h1:IsN R w a ca) (h2:IsN R w b cb):IsKL R w (ca++cb) [a,b]:=⟨ca,cb,rfl,h1,IsKL.one h2⟩
theorem IsN.one {R:Nat→Prop} {w:World} {t:NT} {cs:List Value} (h:IsN R w t cs):∀ u∈cs,u.oneCell'=true:=by
 obtain ⟨kv,lv,fv,rfl,⟨ao,cap,rfl,_⟩,⟨ao2,cap2,rfl,_⟩,⟨ao3,cap3,rfl,_⟩⟩:=h.open
 intro u hu
 unfold headC at hu
 simp only[List.mem_cons,List.not_mem_nil,or_false] at hu
 rcases hu with rfl|rfl|rfl|rfl|rfl|rfl|rfl|rfl|rfl|rfl|rfl|rfl <;> rfl
theorem IsKL.ones {R:Nat→Prop} {w:World}:∀ (ts:List NT) (cells:List Value),IsKL R w cells ts→∀ u∈cells,u.oneCell'=true
 | [],cells,h,u,hu=>by rw[show cells=[] from h] at hu;cases hu
 | t :: ts,cells,h,u,hu=>by
  obtain ⟨cs,rest,rfl,h1,h2⟩:=h
  rcases List.mem_append.1 hu with hu|hu
  ·exact h1.one u hu
  ·exact IsKL.ones ts rest h2 u hu
theorem infoN:(Tryz.prog.info? 27).map (fun i=>(i.zero,i.size,i.bytes))=some (some (.agg #[.int .i64 0,.int .i64 0,.int .i64 0,.int .i64 0,.string ByteArray.empty,.string ByteArray.empty,.string ByteArray.empty,.slice none 0 0,.slice none 0 0,.slice none 0 0,.bool false,.string ByteArray.empty]),12,176):=by kernel_rfl
end Go.Proofs.YthcmkpiajkbpnaaGreatDoor
namespace Go.Proofs.YthcmkpiajkbpnaaGreatDoor
open Go.RowKit
def TxtR (R:Nat→Prop) (w:World) (v:Value) (ls:List (List UInt8)):Prop:=
 ∃ ao cap,v=.slice ao ls.length cap∧ls.length≤cap∧cap≤maxLen∧(0<ls.length→∃ b o,ao=some ⟨b,o,none⟩∧R b∧∀ j,j<ls.length→w.cell? ⟨b,o+j,none⟩=some (.string ⟨(ls.getD j []).toArray⟩))
theorem TxtR.frame {R R':Nat→Prop} {w w':World} {v:Value} {ls:List (List UInt8)} (h:TxtR R w v ls) (hR:∀ b,R b→R' b∧w'.heap[b]?=w.heap[b]?):TxtR R' w' v ls:=by
 obtain ⟨ao,cap,rfl,h1,h2,h3⟩:=h
 refine ⟨ao,cap,rfl,h1,h2,fun hp=>?_⟩
 obtain ⟨b,o,e,hb,hc⟩:=h3 hp
 exact ⟨b,o,e,(hR b hb).1,fun j hj=>by rw[cell_frame (hR b hb).2];exact hc j hj⟩
theorem HasV.toTexts {w:World} {v:Value} {ls:List (List UInt8)} (h:HasV 1 w v ls.length (txts ls)):IsTexts w.heap.size w v ls∧TxtR (fun k=>v.ownBlock=some k) w v ls:=by
 obtain ⟨ao,b,off,cap,rfl,hm,hc,_⟩:=h
 have ha:0<cap→ao=some ⟨b,off,none⟩:=hc.addr
 have hcell:∀ j,j<ls.length→w.cell? ⟨b,off+j,none⟩=some (.string ⟨(ls.getD j []).toArray⟩):=fun j hj=>hc.olds j _ (txts_get ls j hj)
 refine ⟨⟨ao,cap,rfl,hc.le,hm,fun e=>?_,fun h0=>⟨b,off,ha (Nat.lt_of_lt_of_le h0 hc.le),hc.lt (Nat.lt_of_lt_of_le h0 hc.le),hcell⟩⟩,ao,cap,rfl,hc.le,hm,fun h0=>?_⟩
 ·refine Decidable.byContradiction fun hn=>?_
  rw[ha (by omega)] at e
  cases e
 ·have:=ha (Nat.lt_of_lt_of_le h0 hc.le)
  exact ⟨b,off,this,by rw[this];rfl,hcell⟩
def IsD (R:Nat→Prop) (w:World) (d:DT) (cs:List Value):Prop:=∃ hv dv rc fv,cs=hv :: dv :: .bool d.mark :: (rc++[fv])∧ComsR R w hv d.head∧TxtR R w dv d.dirs∧IsN R w d.root rc∧ComsR R w fv d.foot
theorem IsD.frame {R R':Nat→Prop} {w w':World} (hR:∀ b,R b→R' b∧w'.heap[b]?=w.heap[b]?) {d:DT} {cs:List Value} (h:IsD R w d cs):IsD R' w' d cs:=by
 obtain ⟨hv,dv,rc,fv,e,h1,h2,h3,h4⟩:=h
 exact ⟨hv,dv,rc,fv,e,h1.frame hR,h2.frame hR,IsN.frame hR _ _ h3,h4.frame hR⟩
theorem IsD.len {R:Nat→Prop} {w:World} {d:DT} {cs:List Value} (h:IsD R w d cs):cs.length=16:=by
 obtain ⟨hv,dv,rc,fv,rfl,h1,h2,h3,h4⟩:=h
 have:=h3.len
 simp[this]
def IsDL (R:Nat→Prop) (w:World):List Value→List DT→Prop
 | cells,[]=>cells=[]
 | cells,d :: ds=>∃ cs rest,cells=cs++rest∧IsD R w d cs∧IsDL R w rest ds
theorem IsDL.frame {R R':Nat→Prop} {w w':World} (hR:∀ b,R b→R' b∧w'.heap[b]?=w.heap[b]?):∀ (ds:List DT) (cells:List Value),IsDL R w cells ds→IsDL R' w' cells ds
 | [],cells,h=>h
 | d :: ds,cells,h=>by
  obtain ⟨cs,rest,e,h1,h2⟩:=h
  exact ⟨cs,rest,e,h1.frame hR,IsDL.frame hR ds rest h2⟩
theorem IsDL.app {R:Nat→Prop} {w:World} {d:DT} {b:List Value} (hd:IsD R w d b):∀ (ts:List DT) (a:List Value),IsDL R w a ts→IsDL R w (a++b) (ts++[d])
 | [],a,h1=>by rw[show a=[] from h1];exact ⟨b,[],(List.append_nil _).symm,hd,rfl⟩
 | t :: ts,a,h1=>by
  obtain ⟨cs,rest,rfl,g1,g2⟩:=h1
  exact ⟨cs,rest++b,List.append_assoc _ _ _,g1,IsDL.app hd ts rest g2⟩
theorem IsDL.at {R:Nat→Prop} {w:World}:∀ (ts:List DT) (cells:List Value) (j:Nat) (hj:j<ts.length),IsDL R w cells ts→∃ cs,(∀ i,i<16→cells[j*16+i]?=cs[i]?)∧IsD R w ts[j] cs
 | [],cells,j,hj,h=>absurd hj (Nat.not_lt_zero _)
 | t :: ts,cells,0,hj,h=>by
  obtain ⟨cs,rest,rfl,g1,g2⟩:=h
  have:=g1.len
  exact ⟨cs,fun i hi=>by rw[Nat.zero_mul,Nat.zero_add,List.getElem?_append_left (by omega)],g1⟩
 | t :: ts,cells,j+1,hj,h=>by
  obtain ⟨cs,rest,rfl,g1,g2⟩:=h
  have:=g1.len
  obtain ⟨c2,k1,k2⟩:=IsDL.at ts rest j (by simpa using hj) g2
  exact ⟨c2,fun i hi=>by rw[List.getElem?_append_right (by omega),show (j+1)*16+i-cs.length=j*16+i by omega];exact k1 i hi,k2⟩
def DocsR (R:Nat→Prop) (w:World) (v:Value) (D:List DT):Prop:=
 ∃ ao cap,v=.slice ao D.length cap∧D.length≤cap∧cap≤maxLen∧(0<D.length→∃ b o,ao=some ⟨b,o,none⟩∧R b∧∀ j (hj:j<D.length),∃ cs,(∀ i,i<16→w.cell? ⟨b,o+j*16+i,none⟩=cs[i]?)∧IsD R w D[j] cs)
theorem HasV.toDocs {R R':Nat→Prop} {w:World} {v:Value} {D:List DT} {cs:List Value} (h:HasV 16 w v D.length cs) (hd:IsDL R w cs D) (hR:∀ k,R k→R' k) (hv:∀ k,v.ownBlock=some k→R' k):DocsR R' w v D:=by
 obtain ⟨ao,b,off,cap,rfl,hm,hc,_⟩:=h
 refine ⟨ao,cap,rfl,hc.le,hm,fun h0=>?_⟩
 have ha:=hc.addr (Nat.lt_of_lt_of_le h0 hc.le)
 refine ⟨b,off,ha,hv b (by rw[ha];rfl),fun j hj=>?_⟩
 obtain ⟨c2,k1,k2⟩:=IsDL.at D cs j hj hd
 refine ⟨c2,fun i hi=>?_,k2.frame fun b hb=>⟨hR b hb,rfl⟩⟩
 have hl:=hc.oldsLen
 have hlt:j*16+i<cs.length:=by rw[hl];omega
 rw[←k1 i hi,List.getElem?_eq_getElem hlt,Nat.add_assoc]
 exact hc.olds _ _ (List.getElem?_eq_getElem hlt)
def rdsC (s:ByteArray) (p:Int) (hv dv kv:Value):Array Value:=#[.string s,.int .i64 p,hv,dv,.bool false,.int .i64 0,.int .i64 0,.int .i64 0,.int .i64 0,.string ⟨#[]⟩,.string ⟨#[]⟩,.string ⟨#[]⟩,.slice none 0 0,.slice none 0 0,.slice none 0 0,.bool false,.string ⟨#[]⟩,.slice none 0 0,kv]
structure StM (g:Nat) (s:ByteArray) (w wr:World) (p:Nat) (H:Coms) (ds:List (List UInt8)) (D:List DT) (hv dv kv:Value) (cs:List Value) (R:Nat→Prop):Prop where
 row:wr.heap[g]?=some (.cells (rdsC s (p:Int) hv dv kv) 62 (0,0))
 hh:HasV 2 wr hv H.length (comV H)
 hd:HasV 1 wr dv ds.length (txts ds)
 hk:HasV 16 wr kv D.length cs
 docs:IsDL R wr cs D
 own1:∀ k,hv.ownBlock=some k→w.heap.size≤k∧k≠g∧¬ R k∧dv.ownBlock≠some k∧kv.ownBlock≠some k
 own2:∀ k,dv.ownBlock=some k→w.heap.size≤k∧k≠g∧¬ R k∧kv.ownBlock≠some k
 own3:∀ k,kv.ownBlock=some k→w.heap.size≤k∧k≠g∧¬ R k
 new:∀ k,R k→w.heap.size≤k∧k<wr.heap.size∧k≠g
 far:w.heap.size≤g
 keep:Below w.heap.size w wr
section
variable {g:Nat} {s:ByteArray} {w wr:World} {p:Nat} {H:Coms} {ds:List (List UInt8)} {D:List DT} {hv dv kv:Value} {cs:List Value} {R:Nat→Prop}
theorem StM.lt (M:StM g s w wr p H ds D hv dv kv cs R):g<wr.heap.size:=(Array.getElem?_eq_some_iff.1 M.row).1
theorem StM.below (M:StM g s w wr p H ds D hv dv kv cs R) {w2:World} (hb:Below wr.heap.size wr w2):StM g s w w2 p H ds D hv dv kv cs R:=
 ⟨(hb.block g M.lt).trans M.row,M.hh.below hb (Nat.le_refl _),M.hd.below hb (Nat.le_refl _),M.hk.below hb (Nat.le_refl _),IsDL.frame (fun b hb'=>⟨hb',hb.block b (M.new b hb').2.1⟩) _ _ M.docs,M.own1,M.own2,M.own3,fun k hk=>⟨(M.new k hk).1,Nat.lt_of_lt_of_le (M.new k hk).2.1 hb.size,(M.new k hk).2.2⟩,M.far,M.keep.trans (hb.mono M.keep.size)⟩
theorem StM.put (M:StM g s w wr p H ds D hv dv kv cs R) (q:Nat):StM g s w (wr.setCell ⟨g,1,none⟩ (.int .i64 (q:Int))) q H ds D hv dv kv cs R:=by
 have ho:∀ k,k≠g→(wr.setCell ⟨g,1,none⟩ (.int .i64 (q:Int))).heap[k]?=wr.heap[k]?:=fun k hk=>heap_setCell_other wr _ _ _ hk
 have hz:(wr.setCell ⟨g,1,none⟩ (.int .i64 (q:Int))).heap.size=wr.heap.size:=by simp[World.setCell]
 exact ⟨heap_setCell_same wr g 1 _ _ _ M.row,M.hh.keep fun k hk _=>ho k (M.own1 k hk).2.1,M.hd.keep fun k hk _=>ho k (M.own2 k hk).2.1,M.hk.keep fun k hk _=>ho k (M.own3 k hk).2.1,IsDL.frame (fun b hb'=>⟨hb',ho b (M.new b hb').2.2⟩) _ _ M.docs,M.own1,M.own2,M.own3,fun k hk=>by rw[hz];exact M.new k hk,M.far,M.keep.setCell (p:=⟨g,1,none⟩) M.far _⟩
theorem StM.more (M:StM g s w wr p H ds D hv dv kv cs R) {w2:World} {hv':Value} {L:Coms} (hh:HasV 2 w2 hv' (H++L).length (comV (H++L))) (hg:wr.grownBy w2 hv.ownBlock) (ho:hv'.ownBlock=hv.ownBlock∨hv'.ownBlock=some wr.heap.size):StM g s w (w2.setCell ⟨g,2,none⟩ hv') p (H++L) ds D hv' dv kv cs R:=by
 have hz:=hg.size
 have hx:∀ k,k<wr.heap.size→k≠g→hv.ownBlock≠some k→(w2.setCell ⟨g,2,none⟩ hv').heap[k]?=wr.heap[k]?:=fun k h1 h2 h3=>(heap_setCell_other w2 _ _ _ h2).trans (hg.block k h1 (fun e=>h3 e.symm))
 have hz2:(w2.setCell ⟨g,2,none⟩ hv').heap.size=w2.heap.size:=by simp[World.setCell]
 have hlt:=M.lt
 have hn:∀ k,hv'.ownBlock=some k→hv.ownBlock=some k∨k=wr.heap.size:=fun k hk=>by
  rcases ho with e|e
  ·rw[e] at hk;exact .inl hk
  ·rw[e] at hk;injection hk with hk;exact .inr hk.symm
 have hng:∀ k,hv'.ownBlock=some k→k≠g:=fun k hk=>by
  rcases hn k hk with h|h
  ·exact (M.own1 k h).2.1
  ·omega
 have row2:w2.heap[g]?=some (.cells (rdsC s (p:Int) hv dv kv) 62 (0,0)):=(hg.block g hlt (fun e=>(M.own1 g e.symm).2.1 rfl)).trans M.row
 refine ⟨heap_setCell_same w2 g 2 _ _ _ row2,hh.keep fun k hk _=>heap_setCell_other w2 _ _ _ (hng k hk),M.hd.keep fun k hk h1=>hx k h1 (M.own2 k hk).2.1 (fun e=>(M.own1 k e).2.2.2.1 hk),M.hk.keep fun k hk h1=>hx k h1 (M.own3 k hk).2.1 (fun e=>(M.own1 k e).2.2.2.2 hk),IsDL.frame (fun b hb'=>⟨hb',hx b (M.new b hb').2.1 (M.new b hb').2.2 (fun e=>(M.own1 b e).2.2.1 hb')⟩) _ _ M.docs,fun k hk=>?_,M.own2,M.own3,fun k hk=>?_,M.far,?_⟩
 ·rcases hn k hk with h|h
  ·exact M.own1 k h
  ·have:=M.keep.size
   exact ⟨by omega,by omega,fun e=>by have:=(M.new k e).2.1;omega,fun e=>by have:=M.hd.own k e;omega,fun e=>by have:=M.hk.own k e;omega⟩
 ·rw[hz2];have:=M.new k hk;exact ⟨this.1,by omega,this.2.2⟩
 ·exact (M.keep.grown hg M.keep.size (fun k e=>(M.own1 k e).1)).setCell (p:=⟨g,2,none⟩) M.far _
theorem StM.off (M:StM g s w wr p H ds D hv dv kv cs R) {w2:World} {d0:Nat} (hg:d0≠g) (h1:hv.ownBlock≠some d0) (h2:dv.ownBlock≠some d0) (h3:kv.ownBlock≠some d0) (hR:¬ R d0) (h0:w.heap.size≤d0) (hs:∀ k,¬ k=d0→w2.heap[k]?=wr.heap[k]?) (hz:w2.heap.size=wr.heap.size) (ho:w2.os=wr.os∧w2.tape=wr.tape∧w2.output=wr.output):StM g s w w2 p H ds D hv dv kv cs R:=
 ⟨(hs g (fun e=>hg e.symm)).trans M.row,M.hh.keep fun k hk _=>hs k fun e=>h1 (e ▸ hk),M.hd.keep fun k hk _=>hs k fun e=>h2 (e ▸ hk),M.hk.keep fun k hk _=>hs k fun e=>h3 (e ▸ hk),IsDL.frame (fun b hb=>⟨hb,hs b fun e=>hR (e ▸ hb)⟩) _ _ M.docs,M.own1,M.own2,M.own3,fun k hk=>by rw[hz];exact M.new k hk,M.far,
  ⟨ho.1.trans M.keep.os,ho.2.1.trans M.keep.tape,ho.2.2.trans M.keep.output,by rw[hz];exact M.keep.size,fun k hk=>(hs k (by omega)).trans (M.keep.block k hk)⟩⟩
theorem StM.add (M:StM g s w wr p H ds D hv dv kv cs R) {w6 wF:World} {arr:List Value} {d:DT} {kv':Value} {R2:Nat→Prop} {e:Nat} (hv':HasV 16 w6 kv' (D.length+1) (cs++arr)) (hg:wr.grownBy w6 kv.ownBlock) (ho:kv'.ownBlock=kv.ownBlock∨kv'.ownBlock=some wr.heap.size)
  (hd:IsD (fun k=>hv.ownBlock=some k∨dv.ownBlock=some k∨R2 k) wr d arr) (hR2:∀ k,R2 k→w.heap.size≤k∧k<wr.heap.size∧k≠g∧kv.ownBlock≠some k)
  (hF:wF.heap[g]?=some (.cells (rdsC s (e:Int) (.slice none 0 0) (.slice none 0 0) kv') 62 (0,0))) (hs:∀ k,¬ k=g→wF.heap[k]?=w6.heap[k]?) (hz:wF.heap.size=w6.heap.size) (hr:wF.os=w6.os∧wF.tape=w6.tape∧wF.output=w6.output) :
  StM g s w wF e [] [] (D++[d]) (.slice none 0 0) (.slice none 0 0) kv' (cs++arr) (fun k=>R k∨hv.ownBlock=some k∨dv.ownBlock=some k∨R2 k):=by
 have hz6:=hg.size
 have hlt:=M.lt
 have hws:=M.keep.size
 have hn:∀ k,kv'.ownBlock=some k→kv.ownBlock=some k∨k=wr.heap.size:=fun k hk=>by
  rcases ho with e|e
  ·rw[e] at hk;exact .inl hk
  ·rw[e] at hk;injection hk with hk;exact .inr hk.symm
 have fr:∀ k,k<wr.heap.size→k≠g→kv.ownBlock≠some k→wF.heap[k]?=wr.heap[k]?:=fun k h1 h2 h3=>(hs k h2).trans (hg.block k h1 (fun e=>h3 e.symm))
 have key:∀ k,(R k∨hv.ownBlock=some k∨dv.ownBlock=some k∨R2 k)→w.heap.size≤k∧k<wr.heap.size∧k≠g∧kv.ownBlock≠some k:=fun k hk=>by
  rcases hk with h|h|h|h
  ·exact ⟨(M.new k h).1,(M.new k h).2.1,(M.new k h).2.2,fun e=>(M.own3 k e).2.2 h⟩
  ·exact ⟨(M.own1 k h).1,M.hh.own k h,(M.own1 k h).2.1,(M.own1 k h).2.2.2.2⟩
  ·exact ⟨(M.own2 k h).1,M.hd.own k h,(M.own2 k h).2.1,(M.own2 k h).2.2.2⟩
  ·exact hR2 k h
 refine ⟨hF,HasV.nil 2 _,HasV.nil 1 _,?_,?_,fun k hk=>(by cases hk),fun k hk=>(by cases hk),fun k hk=>?_,fun k hk=>?_,M.far,?_⟩
 ·rw[List.length_append]
  refine hv'.keep fun k hk _=>hs k ?_
  rcases hn k hk with h|h
  ·exact (M.own3 k h).2.1
  ·omega
 ·refine IsDL.app (hd.frame fun b hb=>?_) D cs (IsDL.frame (fun b hb=>?_) _ _ M.docs)
  ·have:=key b (.inr hb)
   exact ⟨.inr hb,fr b this.2.1 this.2.2.1 this.2.2.2⟩
  ·have:=key b (.inl hb)
   exact ⟨.inl hb,fr b this.2.1 this.2.2.1 this.2.2.2⟩
 ·rcases hn k hk with h|h
  ·exact ⟨(M.own3 k h).1,(M.own3 k h).2.1,fun e=>(key k e).2.2.2 h⟩
  ·exact ⟨by omega,by omega,fun e=>by have:=(key k e).2.1;omega⟩
 ·have:=key k hk
  exact ⟨this.1,by omega,this.2.2.1⟩
 ·have hb:=M.keep.grown hg hws (fun k e=>(M.own3 k e).1)
  exact ⟨hr.1.trans hb.os,hr.2.1.trans hb.tape,hr.2.2.trans hb.output,by rw[hz];exact hb.size,fun k hk=>(hs k (by have:=M.far;omega)).trans (hb.block k hk)⟩
theorem StM.add2 (M:StM g s w wr p H ds D hv dv kv cs R) {W w6 wF:World} {arr:List Value} {d:DT} {kv':Value} {R2:Nat→Prop} {e:Nat} (hg:W.grownBy w6 kv.ownBlock) (hb:Below wr.heap.size wr W) (hv':HasV 16 w6 kv' (D.length+1) (cs++arr)) (ho:kv'.ownBlock=kv.ownBlock∨kv'.ownBlock=some W.heap.size)
  (hd:IsD (fun k=>hv.ownBlock=some k∨dv.ownBlock=some k∨R2 k) W d arr) (hR2:∀ k,R2 k→w.heap.size≤k∧k<wr.heap.size∧k≠g∧kv.ownBlock≠some k)
  (hF:wF.heap[g]?=some (.cells (rdsC s (e:Int) (.slice none 0 0) (.slice none 0 0) kv') 62 (0,0))) (hs:∀ k,¬ k=g→wF.heap[k]?=w6.heap[k]?) (hz:wF.heap.size=w6.heap.size) (hr:wF.os=w6.os∧wF.tape=w6.tape∧wF.output=w6.output) :
  StM g s w wF e [] [] (D++[d]) (.slice none 0 0) (.slice none 0 0) kv' (cs++arr) (fun k=>R k∨hv.ownBlock=some k∨dv.ownBlock=some k∨R2 k):=
 (M.below hb).add hv' hg ho hd (fun k hk=>⟨(hR2 k hk).1,Nat.lt_of_lt_of_le (hR2 k hk).2.1 hb.size,(hR2 k hk).2.2⟩) hF hs hz hr
theorem StM.row2 (M:StM g s w wr p H ds D hv dv kv cs R) {W w6:World} (hg:W.grownBy w6 kv.ownBlock) (hb:Below wr.heap.size wr W):w6.heap[g]?=some (.cells (rdsC s (p:Int) hv dv kv) 62 (0,0)):=
 (hg.block g (Nat.lt_of_lt_of_le M.lt hb.size) (fun e=>(M.own3 g e.symm).2.1 rfl)).trans ((hb.block g M.lt).trans M.row)
theorem StM.moreD (M:StM g s w wr p H ds D hv dv kv cs R) {w2:World} {dv':Value} {ls:List (List UInt8)} (hd:HasV 1 w2 dv' ls.length (txts ls)) (hg:wr.grownBy w2 dv.ownBlock) (ho:dv'.ownBlock=dv.ownBlock∨dv'.ownBlock=some wr.heap.size):StM g s w (w2.setCell ⟨g,3,none⟩ dv') p H ls D hv dv' kv cs R:=by
 have hz:=hg.size
 have hx:∀ k,k<wr.heap.size→k≠g→dv.ownBlock≠some k→(w2.setCell ⟨g,3,none⟩ dv').heap[k]?=wr.heap[k]?:=fun k h1 h2 h3=>(heap_setCell_other w2 _ _ _ h2).trans (hg.block k h1 (fun e=>h3 e.symm))
 have hz2:(w2.setCell ⟨g,3,none⟩ dv').heap.size=w2.heap.size:=by simp[World.setCell]
 have hlt:=M.lt
 have hn:∀ k,dv'.ownBlock=some k→dv.ownBlock=some k∨k=wr.heap.size:=fun k hk=>by
  rcases ho with e|e
  ·rw[e] at hk;exact .inl hk
  ·rw[e] at hk;injection hk with hk;exact .inr hk.symm
 have hng:∀ k,dv'.ownBlock=some k→k≠g:=fun k hk=>by
  rcases hn k hk with h|h
  ·exact (M.own2 k h).2.1
  ·omega
 have row2:w2.heap[g]?=some (.cells (rdsC s (p:Int) hv dv kv) 62 (0,0)):=(hg.block g hlt (fun e=>(M.own2 g e.symm).2.1 rfl)).trans M.row
 refine ⟨heap_setCell_same w2 g 3 _ _ _ row2,M.hh.keep fun k hk h1=>hx k h1 (M.own1 k hk).2.1 (fun e=>(M.own1 k hk).2.2.2.1 e),hd.keep fun k hk _=>heap_setCell_other w2 _ _ _ (hng k hk),M.hk.keep fun k hk h1=>hx k h1 (M.own3 k hk).2.1 (fun e=>(M.own2 k e).2.2.2 hk),IsDL.frame (fun b hb'=>⟨hb',hx b (M.new b hb').2.1 (M.new b hb').2.2 (fun e=>(M.own2 b e).2.2.1 hb')⟩) _ _ M.docs,fun k hk=>?_,fun k hk=>?_,M.own3,fun k hk=>?_,M.far,?_⟩
 ·have h:=M.own1 k hk
  refine ⟨h.1,h.2.1,h.2.2.1,fun e=>?_,h.2.2.2.2⟩
  rcases hn k e with h2|h2
  ·exact h.2.2.2.1 h2
  ·have:=M.hh.own k hk;omega
 ·rcases hn k hk with h|h
  ·exact M.own2 k h
  ·have:=M.keep.size
   exact ⟨by omega,by omega,fun e=>by have:=(M.new k e).2.1;omega,fun e=>by have:=M.hk.own k e;omega⟩
 ·rw[hz2];have:=M.new k hk;exact ⟨this.1,by omega,this.2.2⟩
 ·exact (M.keep.grown hg M.keep.size (fun k e=>(M.own2 k e).1)).setCell (p:=⟨g,3,none⟩) M.far _
theorem StM.moreD2 (M:StM g s w wr p H ds D hv dv kv cs R) {W w2:World} {dv':Value} {ls:List (List UInt8)} (hg:W.grownBy w2 dv.ownBlock) (hb:Below wr.heap.size wr W) (hd:HasV 1 w2 dv' ls.length (txts ls)) (ho:dv'.ownBlock=dv.ownBlock∨dv'.ownBlock=some W.heap.size):StM g s w (w2.setCell ⟨g,3,none⟩ dv') p H ls D hv dv' kv cs R:=(M.below hb).moreD hd hg ho
theorem StM.more2 (M:StM g s w wr p H ds D hv dv kv cs R) {W w2:World} {hv':Value} {L:Coms} (hg:W.grownBy w2 hv.ownBlock) (hb:Below wr.heap.size wr W) (hh:HasV 2 w2 hv' (H++L).length (comV (H++L))) (ho:hv'.ownBlock=hv.ownBlock∨hv'.ownBlock=some W.heap.size):StM g s w (w2.setCell ⟨g,2,none⟩ hv') p (H++L) ds D hv' dv kv cs R:=(M.below hb).more hh hg ho
theorem StM.row3 (M:StM g s w wr p H ds D hv dv kv cs R) {W w6:World} (hg:W.grownBy w6 dv.ownBlock) (hb:Below wr.heap.size wr W):w6.heap[g]?=some (.cells (rdsC s (p:Int) hv dv kv) 62 (0,0)):=
 (hg.block g (Nat.lt_of_lt_of_le M.lt hb.size) (fun e=>(M.own2 g e.symm).2.1 rfl)).trans ((hb.block g M.lt).trans M.row)
theorem StM.row1 (M:StM g s w wr p H ds D hv dv kv cs R) {W w6:World} (hg:W.grownBy w6 hv.ownBlock) (hb:Below wr.heap.size wr W):w6.heap[g]?=some (.cells (rdsC s (p:Int) hv dv kv) 62 (0,0)):=
 (hg.block g (Nat.lt_of_lt_of_le M.lt hb.size) (fun e=>(M.own1 g e.symm).2.1 rfl)).trans ((hb.block g M.lt).trans M.row)
end
end Go.Proofs.YthcmkpiajkbpnaaGreatDoor
namespace Go.Proofs.YthcmkpiajkbpnaaGreatDoor
open Go.RowKit
theorem BZ.far_ge {s:ByteArray} {d c w:Nat} {fo:Bool} {T:List UInt8} {E:Nat} {C:Int} {p L h:Nat} {R:List (List UInt8)} {f:Bool} (H:BZ s d c w fo T E C p R L h f):p≤E∨s.size≤E:=by
 induction H with
 | over h1 h2 h3 h4=>exact .inr (Nat.le_of_eq h3.symm)
 | stop h1 h2 h3 h4 h5 h6 h7 h8 h9=>exact .inl (Nat.le_of_eq h8.symm)
 | far h1 h2 h3 h4 h5 h6 h7 h8 h9 h10=>exact .inl (by omega)
 | row h1 h2 h3 h4 h5 h6 ih=>have:=h2.1;rcases ih with h|h;exact .inl (by omega);exact .inr h
theorem BZ.far_le {s:ByteArray} {d c w:Nat} {fo:Bool} {T:List UInt8} {E:Nat} {C:Int} {p L h:Nat} {R:List (List UInt8)} {f:Bool} (H:BZ s d c w fo T E C p R L h f):E≤s.size:=by
 induction H with
 | over h1 h2 h3 h4=>exact Nat.le_of_eq h3
 | stop h1 h2 h3 h4 h5 h6 h7 h8 h9=>omega
 | far h1 h2 h3 h4 h5 h6 h7 h8 h9 h10=>have:=h2.2.1;omega
 | row h1 h2 h3 h4 h5 h6 ih=>exact ih
theorem BlocZ.far_le {s:ByteArray} {n st:Int} {T note:List UInt8} {h:Bool} {E C:Int} {p:Nat} (H:BlocZ s (p:Int) n st T h note E C) (hp:p<s.size) (hb:byt s p=124∨byt s p=62):∃ E':Nat,E=(E':Int)∧p<E'∧E'≤s.size:=by
 have hbl:blocB s (p:Int)=true:=by unfold blocB;rw[Int.toNat_natCast];exact decide_eq_true ⟨by omega,hp,hb⟩
 have h10:byt s p≠10:=by omega
 rcases H with ⟨_,H⟩|⟨h,_⟩
 ·rw[Int.toNat_natCast] at H
  obtain ⟨t,q,p2,d,c,hh,ht,hq,H⟩:=H
  obtain ⟨l1,l2⟩:=hdr_le hp h10 ht
  rw[hh] at l1 l2
  have l1:p+1≤p2:=l1
  have hq1:=hq.1
  have hq2:=hq.2.1
  have ht2:=ht.2.1
  rcases H with ⟨h1,_,rfl,_⟩|⟨_,_,w,E',rfl,_,hB⟩
  ·exact ⟨q,rfl,by omega,by omega⟩
  ·have g1:=hB.far_ge
   exact ⟨E',rfl,by omega,hB.far_le⟩
 ·rw[hbl] at h;cases h
theorem mark_lt {s:ByteArray} {p c:Nat} (h:markB s p c=true):p<s.size:=by
 unfold markB at h
 rw[Bool.and_eq_true] at h
 exact (isB_lt h.1).1
theorem over_lt {s:ByteArray} {p:Nat} (h:overB s p=false):p<s.size:=by
 unfold overB at h
 rw[Bool.or_eq_false_iff] at h
 have:=of_decide_eq_false h.1
 omega
theorem FlowZ.far {s:ByteArray} {p:Nat} {n deep:Int} {x:NT} {E C:Int} (h:FlowZ s (p:Int) n deep (some x) E C):∃ E':Nat,E=(E':Int)∧p<E'∧E'≤s.size∧C=0:=by
 unfold FlowZ at h
 split at h
 ·rename_i hb
  obtain ⟨g,o,hcol,hm⟩:=h
  rw[Int.toNat_natCast] at hcol hb
  have hp:p<s.size:=by
   rcases hb.2 with h|h
   ·exact (isB_lt h).1
   ·exact (isB_lt h).1
  cases o with
  | ok r=>
   obtain ⟨_,rfl,rfl⟩:=hm
   have:=coll_far s n g _ p r hp hcol
   exact ⟨r.2,rfl,this.1,this.2,rfl⟩
  | bad q c=>obtain ⟨h,_⟩:=hm;cases h
 ·obtain ⟨h,_⟩:=h;cases h
theorem colon_far {s:ByteArray} {t p q:Nat} (h:colonR s t p (some q)):p≤q∧q≤t∧markB s q 58=true:=by
 unfold colonR at h
 split at h
 ·cases h
 ·obtain ⟨q',hq,e⟩:=h
  split at e
  ·rename_i hm
   injection e with e;subst e
   exact ⟨hq.1,hq.2.1,hm⟩
  ·cases e
theorem cutB_size {s:ByteArray} {t:Nat} (h:t≤s.size):(cutB s t).size=t:=by
 unfold cutB
 rw[ByteArray.size_extract]
 omega
theorem cutB_byt {s:ByteArray} {t j:Nat} (h:j<t):byt (cutB s t) j=byt s j:=by
 unfold cutB
 rw[byt_extract s 0 t j (by omega),Nat.zero_add]
theorem key_far {s:ByteArray} {p q:Nat} (h:KeyR s p (some q)):p≤q∧q<s.size∧markB s q 58=true:=by
 unfold KeyR at h
 split at h
 ·cases h
 ·rename_i hp
  obtain ⟨t,A,T,E,C,ht,hP,h⟩:=h
  obtain ⟨E',rfl,h1,h2⟩:=hP.far_le (by omega)
  split at h
  ·cases h
  ·rw[Int.toNat_natCast] at h
   obtain ⟨q0,hq0,h⟩:=h
   have hq1:p≤q0:=by
    split at hq0
    ·have:=hq0.1;omega
    ·omega
   have fin:∀ e,p≤e→colonR s t e (some q)→p≤q∧q<s.size∧markB s q 58=true:=fun e he hc=>by
    have:=colon_far hc
    exact ⟨by omega,mark_lt this.2.2,this.2.2⟩
   split at h
   ·exact fin q0 hq1 h
   ·rename_i hq2
    have hqt0:q0<t:=by
     refine Decidable.byContradiction fun hn=>hq2 (.inl (by omega))
    have hqs:q0<s.size:=by have:=ht.2.1;omega
    split at h
    ·split at h
     ·cases h
     ·obtain ⟨A,E,C,hZ,h⟩:=h
      split at h
      ·cases h
      ·rename_i hC
       rcases hZ.far_le with ⟨_,E2,rfl,g1,_⟩|⟨h5,_⟩
       ·rw[Int.toNat_natCast] at h
        exact fin E2 (by omega) h
       ·exact (hC (by omega)).elim
    ·split at h
     ·rename_i hqt
      obtain ⟨T,E,O,C,hZ,h⟩:=h
      split at h
      ·cases h
      ·obtain ⟨E2,rfl,g1,_⟩:=hZ.far_le (by rw[cutB_size ht.2.1];exact hqt0) (by rw[cutB_byt hqt0];rcases hqt with hq|hq;exact .inr (isB_lt hq).2;exact .inl (isB_lt hq).2)
       rw[Int.toNat_natCast] at h
       exact fin E2 (by omega) h
     ·split at h
      ·obtain ⟨x,E,C,hZ,h⟩:=h
       cases x with
       | none=>cases h
       | some x=>
        obtain ⟨E2,rfl,g1,_⟩:=hZ.far
        rw[Int.toNat_natCast] at h
        exact fin E2 (by omega) h
      ·split at h
       ·rename_i hb
        obtain ⟨e,he,h⟩:=h
        have:=beg_part hb he
        exact fin e (by omega) h
       ·exact fin q0 hq1 h
section
variable {s:ByteArray}
theorem pass_far {p:Nat} {b:Coms × Bool × Nat} (h:passR s p (.ok b)) (hp:p≤s.size):p≤b.2.2∧b.2.2≤s.size:=by
 obtain ⟨L,S,E,C,hZ,e⟩:=h
 obtain ⟨E',rfl,h1,h2⟩:=hZ.far_le hp
 split at e
 ·injection e with e;subst e;exact ⟨h1,h2⟩
 ·cases e
theorem leaf_far {n:Int} {deep p:Nat} {prop:Bool} {x:NT × Nat} (h:leafR s n deep prop p (.ok x)):p<x.2∧x.2≤s.size:=by
 unfold leafR at h
 split at h
 ·split at h
  ·cases h
  ·obtain ⟨A,E,C,hZ,e⟩:=h
   rcases hZ.far_le with ⟨rfl,E',rfl,h1,h2⟩|⟨rfl,_⟩
   ·rw[if_pos rfl] at e;injection e with e;subst e;exact ⟨by simpa using h1,by simpa using h2⟩
   ·rw[if_neg (by decide)] at e;cases e
 ·split at h
  ·rename_i hq
   obtain ⟨T,E,O,C,hZ,e⟩:=h
   have hq2:p<s.size∧(byt s p=39∨byt s p=34):=by
    rcases hq with hq|hq
    ·exact ⟨(isB_lt hq).1,.inr (isB_lt hq).2⟩
    ·exact ⟨(isB_lt hq).1,.inl (isB_lt hq).2⟩
   obtain ⟨E',rfl,h1,h2⟩:=hZ.far_le hq2.1 hq2.2
   split at e
   ·injection e with e;subst e;exact ⟨by simpa using h1,by simpa using h2⟩
   ·cases e
  ·split at h
   ·obtain ⟨x1,E,C,hZ,e⟩:=h
    cases x1 with
    | none=>cases e
    | some x1=>
     obtain ⟨E',rfl,h1,h2,_⟩:=hZ.far
     injection e with e;subst e
     exact ⟨by simpa using h1,by simpa using h2⟩
   ·split at h
    ·rename_i hq
     obtain ⟨st,T,h1,t,E,C,hZ,e⟩:=h
     have hq2:p<s.size∧(byt s p=124∨byt s p=62):=by
      rcases hq with hq|hq
      ·exact ⟨(isB_lt hq).1,.inl (isB_lt hq).2⟩
      ·exact ⟨(isB_lt hq).1,.inr (isB_lt hq).2⟩
     obtain ⟨E',rfl,g1,g2⟩:=hZ.far_le hq2.1 hq2.2
     split at e
     ·injection e with e;subst e;exact ⟨by simpa using g1,by simpa using g2⟩
     ·cases e
    ·split at h
     ·rename_i hb
      obtain ⟨T,E,O,C,hZ,e⟩:=h
      obtain ⟨E',rfl,h1,h2⟩:=hZ.far_le hb
      split at e
      ·injection e with e;subst e;exact ⟨by simpa using h1,by simpa using h2⟩
      ·cases e
     ·cases h
theorem trailT_at (x:NT) (l:Coms) (same:Bool) (p:Nat):(trailT x l same p).2.2=p:=by
 unfold trailT
 split <;> rfl
theorem emptyT_at (key:Bool) (l:Coms) (same:Bool) (p:Nat):(emptyT key l same p).2.2=p:=by
 unfold emptyT
 split <;> rfl
variable {blk:Nat→Nat→Rd Tre→Prop}
end
end Go.Proofs.YthcmkpiajkbpnaaGreatDoor
