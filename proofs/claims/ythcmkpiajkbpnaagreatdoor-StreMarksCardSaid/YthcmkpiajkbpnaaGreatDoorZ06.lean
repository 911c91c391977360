/- Parts of the proof, put together from smaller texts (blanks that Lean does not want are struck). Conditions: those that each theorem writes out. -/
import Derived.Deep.AppendSrc
import Derived.Deep.Onto
import Derived.Deep.Upon
import Derived.Test.YthcmkpiajkbpnaaGreatDoorZ00
import Derived.Test.YthcmkpiajkbpnaaGreatDoorZ01
import Derived.Test.YthcmkpiajkbpnaaGreatDoorZ02
namespace Go.Proofs.YthcmkpiajkbpnaaGreatDoor
open Go.RowKit
def HasV (size:Nat) (w:World) (v:Value) (n:Nat) (xs:List Value):Prop:=∃ ao b off cap,v=.slice ao n cap∧cap≤maxLen∧Came w size ao b off n cap xs∧∀ k,v.ownBlock=some k→k<w.heap.size
theorem HasV.nil (size:Nat) (w:World):HasV size w (.slice none 0 0) 0 []:=
 ⟨none,0,0,0,rfl,by decide,⟨Nat.le_refl _,fun h=>absurd h (Nat.lt_irrefl _),fun h=>absurd h (Nat.lt_irrefl _),by simp,fun j u h=>by simp at h,fun j h=>by simp at h⟩,fun k h=>by cases h⟩
theorem HasV.form {size:Nat} {w:World} {v:Value} {n:Nat} {xs:List Value} (h:HasV size w v n xs):∃ ao cap,v=.slice ao n cap:=by
 obtain ⟨ao,b,off,cap,e,_⟩:=h
 exact ⟨ao,cap,e⟩
theorem HasV.keep {size:Nat} {w w':World} {v:Value} {n:Nat} {xs:List Value} (h:HasV size w v n xs) (hk:∀ k,v.ownBlock=some k→k<w.heap.size→w'.heap[k]?=w.heap[k]?):HasV size w' v n xs:=by
 obtain ⟨ao,b,off,cap,rfl,hm,hc,hlt0⟩:=h
 refine ⟨ao,b,off,cap,rfl,hm,?_,fun k hk2=>?_⟩
 rotate_left
 ·have h1:=hlt0 k hk2
  have e:=hk k hk2 h1
  refine Decidable.byContradiction fun hn=>?_
  rw[Array.getElem?_eq_none (Nat.not_lt.1 hn),Array.getElem?_eq_getElem h1] at e
  cases e
 by_cases h0:0<cap
 ·have hb:=hc.lt h0
  have e:w'.heap[b]?=w.heap[b]?:=hk b (by rw[hc.addr h0];rfl) hb
  have hlt:b<w'.heap.size:=by
   refine Decidable.byContradiction fun hn=>?_
   rw[Array.getElem?_eq_none (Nat.not_lt.1 hn),Array.getElem?_eq_getElem hb] at e
   cases e
  exact ⟨hc.le,hc.addr,fun _=>hlt,hc.oldsLen,fun j u hu=>(World.cell?_of_block (a:=⟨b,off+j,none⟩) e).trans (hc.olds j u hu),
   fun j hj=>⟨by rw[World.cell?_of_block (a:=⟨b,off+n*size+j,none⟩) e];exact (hc.spare j hj).1,(World.frozen?_of_block (a:=⟨b,off+n*size+j,none⟩) e).trans (hc.spare j hj).2⟩⟩
 ·have h1:cap=0:=by omega
  have h2:n=0:=by have:=hc.le;omega
  have h3:xs=[]:=List.eq_nil_of_length_eq_zero (by rw[hc.oldsLen,h2,Nat.zero_mul])
  subst h1 h2 h3
  exact ⟨hc.le,hc.addr,fun h=>absurd h (Nat.lt_irrefl _),hc.oldsLen,fun j u hu=>by simp at hu,fun j hj=>by simp at hj⟩
theorem HasV.below {size:Nat} {w w':World} {v:Value} {n:Nat} {xs:List Value} (h:HasV size w v n xs) {B:Nat} (hb:Below B w w') (hB:w.heap.size≤B):HasV size w' v n xs:=
 h.keep fun k _ hlt=>hb.block k (Nat.lt_of_lt_of_le hlt hB)
theorem HasV.own {size:Nat} {w:World} {v:Value} {n:Nat} {xs:List Value} (h:HasV size w v n xs):∀ k,v.ownBlock=some k→k<w.heap.size:=by
 obtain ⟨ao,b,off,cap,rfl,hm,hc,h⟩:=h
 exact h
theorem HasV.of_own {B:Nat} {w:World} {e:TypeId} {size:Nat} {v:Value} {n:Nat} {xs:List Value} (h:w.ownsRow B e size v n xs):HasV size w v n xs:=by
 obtain ⟨h1,h2⟩:=h
 rcases h2 with ⟨rfl,rfl⟩|⟨g,cap,cur,rfl,hg,hh,hnc,hcm,hcs,htake⟩
 ·have:xs=[]:=List.eq_nil_of_length_eq_zero (by rw[h1,Nat.zero_mul])
  subst this
  exact HasV.nil size w
 ·refine ⟨_,g,0,cap,rfl,hcm,⟨hnc,fun _=>rfl,fun _=>(Array.getElem?_eq_some_iff.1 hh).1,h1,fun j u hu=>?_,fun j hj=>⟨?_,frozen_of_row w g _ cur _ hh⟩⟩,fun k hk=>by injection hk with hk;rw[←hk];exact (Array.getElem?_eq_some_iff.1 hh).1⟩
  ·rw[Nat.zero_add,cell_of_row w g j cur _ (0,0) hh]
   have hj:j<n*size:=by have:=(List.getElem?_eq_some_iff.1 hu).1;omega
   rw[←htake,List.getElem?_take,if_pos hj,Array.getElem?_toList] at hu
   exact hu
  ·rw[cell_of_row w g _ cur _ (0,0) hh,Array.getElem?_eq_getElem (by
    have:(cap-n)*size=cap*size-n*size:=Nat.sub_mul _ _ _
    have:n*size≤cap*size:=Nat.mul_le_mul_right _ hnc
    omega)]
   rfl
theorem tape_setCells (b:Nat):∀ (vs:List Value) (o:Nat) (w:World),(w.setCells b o vs).tape=w.tape∧(w.setCells b o vs).heap.size=w.heap.size
 | [],_,_=>⟨rfl,rfl⟩
 | v :: r,o,w=>by
  rw[World.setCells]
  obtain ⟨h1,h2⟩:=tape_setCells b r (o+1) (w.setCell ⟨b,o,none⟩ v)
  exact ⟨h1,h2.trans (by simp[World.setCell])⟩
theorem run_append_has {P:Program} (t tx ty e:TypeId) (i:TypeInfo) (z:Value) (size bytes:Nat) (ht:P.underlying t=some (.slice e)) (hi:P.info? e=some i) (hz:i.zero=some z) (hsize:i.size=size) (hby:i.bytes=bytes) (hzs:z.cells.size=size) (hsz:0<size)
  (w:World) (v:Value) (n:Nat) (xs:List Value) (h:HasV size w v n xs) (x:Value) (m:Nat) (news:List Value) (hs:Src P size tx x m news w) (h63:n+m≤maxLen) (hbytes:(n+m)*bytes≤140737488355328) :
  ∃ v' w',(Builtin.append_ #[t,tx] ty #[v,x]).run P w=.ok v' w'∧HasV size w' v' (n+m) (xs++news)∧w.grownBy w' v.ownBlock∧(v'.ownBlock=v.ownBlock∨v'.ownBlock=some w.heap.size)∧(m=0→v'=v∧w'=w)∧(0<m→∃ a c,v'=.slice (some a) (n+m) c):=by
 subst hsize hby
 obtain ⟨ao,b,off,cap,rfl,hm,hc,hlt0⟩:=h
 have hnl:=hs.newsLen
 have hol:=hc.oldsLen
 have hsmall:n+m≤9223372036854775807:=by simp only[maxLen] at h63;omega
 by_cases hm0:m=0
 ·subst hm0
  have:news=[]:=List.eq_nil_of_length_eq_zero (by rw[hnl,Nat.zero_mul])
  subst this
  refine ⟨_,w,run_append_nothing (P:=P) w t tx ty e i ht hi ao n cap hc.le x hs,?_,World.grownBy.refl _ _,.inl rfl,fun _=>⟨rfl,rfl⟩,fun h=>absurd h (Nat.lt_irrefl _)⟩
  rw[List.append_nil,Nat.add_zero]
  exact ⟨ao,b,off,cap,rfl,hm,hc,hlt0⟩
 ·by_cases hroom:n+m≤cap
  ·have h0:0<cap:=by omega
   have hadd:=hc.addr h0
   subst hadd
   have hlen:news.length≤(cap-n)*i.size:=by rw[hnl];exact Nat.mul_le_mul_right _ (by omega)
   have hrun:=run_append_room_src (P:=P) w t tx ty e i ht hi b off n cap x m news hs hroom (fun j hj=>(hc.spare j (by omega)).1) (fun j hj=>(hc.spare j (by omega)).2)
   obtain ⟨tp,sz⟩:=tape_setCells b news (off+n*i.size) w
   refine ⟨_,_,hrun,⟨_,b,off,cap,rfl,hm,⟨hroom,fun _=>rfl,fun _=>by rw[sz];exact hc.lt h0,by rw[List.length_append,hol,hnl,Nat.add_mul],fun j u hu=>?_,fun j hj=>⟨?_,?_⟩⟩,fun k hk=>by rw[sz];exact hlt0 k hk⟩,⟨World.os_setCells w b _ news,tp,World.output_setCells w b _ news,by rw[sz];exact Nat.le_refl _,fun k hk hne=>World.heap_setCells_other w b _ news hk (fun e=>hne (by rw[e];rfl))⟩,.inl rfl,fun h=>absurd h hm0,fun _=>⟨_,_,rfl⟩⟩
   ·by_cases hj:j<n*i.size
    ·rw[World.cell?_setCells_out b news _ w ⟨b,off+j,none⟩ (fun _ _=>.inl (by show off+j<_;omega))]
     rw[List.getElem?_append_left (by omega)] at hu
     exact hc.olds j u hu
    ·rw[List.getElem?_append_right (by omega),hol] at hu
     have hj2:=(List.getElem?_eq_some_iff.1 hu).1
     have:=World.cell?_setCells_in b news (off+n*i.size) w (fun j hj=>(hc.spare j (by omega)).1) (j-n*i.size) hj2
     rw[show off+n*i.size+(j-n*i.size)=off+j by omega] at this
     rw[this,←hu,List.getElem?_eq_getElem hj2]
   ·have e1:(cap-(n+m))*i.size=(cap-n)*i.size-m*i.size:=by rw[Nat.sub_add_eq,Nat.sub_mul]
    have e2:(n+m)*i.size=n*i.size+m*i.size:=Nat.add_mul _ _ _
    rw[World.cell?_setCells_out b news _ w _ (fun _ _=>.inr (by show _≤off+(n+m)*i.size+j;omega))]
    have:=(hc.spare (m*i.size+j) (by omega)).1
    rwa [show off+n*i.size+(m*i.size+j)=off+(n+m)*i.size+j by omega] at this
   ·have e1:(cap-(n+m))*i.size=(cap-n)*i.size-m*i.size:=by rw[Nat.sub_add_eq,Nat.sub_mul]
    have e2:(n+m)*i.size=n*i.size+m*i.size:=Nat.add_mul _ _ _
    rw[World.frozen?_setCells]
    have:=(hc.spare (m*i.size+j) (by omega)).2
    rwa [show off+n*i.size+(m*i.size+j)=off+(n+m)*i.size+j by omega] at this
  ·have hold:(Builtin.firstCells i.size n (.slice ao n cap)).run P w.drew=.ok xs.toArray w.drew:=by
    by_cases h0:0<n
    ·rw[hc.addr (by have:=hc.le;omega)]
     exact run_firstCells_some w.drew i.size n _ n cap xs hol (fun j u hu=>by rw[Addr.add_lit];exact hc.olds j u hu)
    ·have:n=0:=by omega
     subst this
     have hx:xs=[]:=List.eq_nil_of_length_eq_zero (by rw[hol,Nat.zero_mul])
     subst hx
     cases ao with
     | none=>exact run_firstCells_none w.drew i.size 0 0 cap
     | some a=>exact run_firstCells_some w.drew i.size 0 a 0 cap [] hol (fun j u hu=>by simp at hu)
   have hrun:=run_append_grow_src (P:=P) w t tx ty e i z ht hi hz ao n cap xs hold x m news hs (by omega) (by omega) (growslice_fits (by omega) hbytes)
   have hge:=grownCap_ge w (n+m) cap e
   have hcm:=grownCap_le_maxLen w (n+m) cap e h63
   have hL:(xs++news).length=(n+m)*i.size:=by rw[List.length_append,hol,hnl,Nat.add_mul]
   refine ⟨_,_,hrun,⟨_,w.heap.size,0,_,rfl,hcm,⟨hge,fun _=>rfl,fun _=>by simp,hL,fun j u hu=>?_,fun j hj=>⟨?_,?_⟩⟩,fun k hk=>by injection hk with hk;rw[←hk];simp⟩,⟨rfl,rfl,rfl,by simp,fun k hk _=>Below.heap_alloc w.drew _ k hk⟩,.inr rfl,fun h=>absurd h hm0,fun _=>⟨_,_,rfl⟩⟩
   ·have e1:(w.drew.alloc (.cells ((xs++news).toArray++Builtin.zeroCells z.cells (grownCap w (n+m) cap e-(n+m))) e)).cell? ⟨w.heap.size,0+j,none⟩=_:=World.cell?_alloc_new w.drew _ _ (0+j)
    rw[e1,Nat.zero_add,Array.getElem?_append_left (by simpa using (List.getElem?_eq_some_iff.1 hu).1),List.getElem?_toArray]
    exact hu
   ·have e1:(w.drew.alloc (.cells ((xs++news).toArray++Builtin.zeroCells z.cells (grownCap w (n+m) cap e-(n+m))) e)).cell? ⟨w.heap.size,0+(n+m)*i.size+j,none⟩=_:=World.cell?_alloc_new w.drew _ _ (0+(n+m)*i.size+j)
    rw[e1]
    have hsz2:((xs++news).toArray++Builtin.zeroCells z.cells (grownCap w (n+m) cap e-(n+m))).size=grownCap w (n+m) cap e*i.size:=by
     rw[Array.size_append,List.size_toArray,hL,size_zeroCells,hzs,←Nat.add_mul]
     congr 1
     omega
    rw[Array.getElem?_eq_getElem (by
     rw[hsz2]
     have:(grownCap w (n+m) cap e-(n+m))*i.size=grownCap w (n+m) cap e*i.size-(n+m)*i.size:=Nat.sub_mul _ _ _
     omega)]
    rfl
   ·exact World.frozen?_alloc_new w.drew _ _ _
end Go.Proofs.YthcmkpiajkbpnaaGreatDoor
namespace Go.Proofs.YthcmkpiajkbpnaaGreatDoor
open Go.RowKit
inductive PW (s:ByteArray) (a:Nat) (L:List (List UInt8 × Nat)) (S:Bool) (E:Nat):Nat→List (List UInt8 × Nat)→Bool→Prop
 | over {p o b}:¬ p<s.size→L=o→S=b→E=p→PW s a L S E p o b
 | white {p o b}:p<s.size→U.white (byt s p:Int)=true→PW s a L S E (p+1) o b→PW s a L S E p o b
 | lf {p o b}:p<s.size→byt s p=10→PW s a L S E (p+1) o b→PW s a L S E p o b
 | com {p rb t e k d o b}:p<s.size→ntB s p=true→RowB s p rb→RowE s p t→BakN s (p+1) t e→Abv s p k d→PW s a L S E t (o++[(pieceL s (p+1) e,d)]) (b||decide (rb<a))→PW s a L S E p o b
 | stop {p o b}:p<s.size→U.white (byt s p:Int)=false→byt s p≠10→ntB s p=false→L=o→S=b→E=p→PW s a L S E p o b
def NFin (s:ByteArray) (wi:Bool) (n:Int) (a:Nat) (L0:List (List UInt8 × Nat)) (S0:Bool) (q:Nat) (L:List (List UInt8 × Nat)) (S:Bool) (E:Nat) (C:Int):Prop:=
 ∃ r t f i,RowB s q r∧RowE s q t∧FirN s r t f∧InN s r t i ∧
  ((wi=false∧a≤r∧kindN s r t f=5∧TabN s r q E∧L=[]∧S=false∧C=4) ∨
   (wi=true∧a<r∧(kindN s r t f=3∨kindN s r t f=4∨(kindN s r t f=5∧(i:Int)≤n))∧L=[]∧S=false∧E=q∧C=5) ∨
   ((wi=false→a≤r→kindN s r t f=5→NoTab s r q)∧(wi=true→a<r→kindN s r t f≠3∧kindN s r t f≠4∧(kindN s r t f=5→n<(i:Int)))∧L=L0∧S=S0∧E=q∧C=0))
theorem kind_3 {s:ByteArray} {a b p:Nat} (h:kindN s a b p=3):mk3 s a b 45=true:=by
 unfold kindN at h
 split at h
 ·assumption
 ·split at h
  ·cases h
  ·split at h
   ·cases h
   ·split at h <;> cases h
theorem kind_4 {s:ByteArray} {a b p:Nat} (h:kindN s a b p=4):mk3 s a b 46=true:=by
 unfold kindN at h
 split at h
 ·cases h
 ·split at h
  ·assumption
  ·split at h
   ·cases h
   ·split at h <;> cases h
theorem kind_5 {s:ByteArray} {a b p:Nat} (h:kindN s a b p=5):p≠b∧byt s p≠35:=by
 unfold kindN at h
 split at h
 ·cases h
 ·split at h
  ·cases h
  ·split at h
   ·cases h
   ·split at h
    ·cases h
    ·exact ⟨by assumption,by assumption⟩
theorem kind_note {s:ByteArray} {a b p:Nat} (h3:kindN s a b p≠3) (h4:kindN s a b p≠4) (hp:p≠b) (h:byt s p=35):kindN s a b p=2:=by
 revert h3 h4
 unfold kindN
 split
 ·intro h3;exact absurd rfl h3
 ·split
  ·intro _ h4;exact absurd rfl h4
  ·intro _ _
   first|rfl|rw[if_neg hp,if_pos h]
theorem kind_one {s:ByteArray} {a b p:Nat} (h3:kindN s a b p≠3) (h4:kindN s a b p≠4) (hp:p=b):kindN s a b p=1:=by
 revert h3 h4
 unfold kindN
 split
 ·intro h3;exact absurd rfl h3
 ·split
  ·intro _ h4;exact absurd rfl h4
  ·intro _ _
   first|rfl|rw[if_pos hp]
theorem kind_mark {s:ByteArray} {a b p:Nat} (h:kindN s a b p=3∨kindN s a b p=4):a+3≤b∧(byt s a=45∨byt s a=46):=by
 rcases h with h|h
 ·have:=kind_3 h
  unfold mk3 at this
  rw[decide_eq_true_eq] at this
  exact ⟨this.1,.inl this.2.1⟩
 ·have:=kind_4 h
  unfold mk3 at this
  rw[decide_eq_true_eq] at this
  exact ⟨this.1,.inr this.2.1⟩
theorem ntB_not {s:ByteArray} {p:Nat} (h:byt s p≠35):ntB s p=false:=by
 unfold ntB
 rw[decide_eq_false_iff_not]
 exact fun hc=>h hc.1
theorem PW.row {s:ByteArray} {a q t:Nat} {o:List (List UInt8 × Nat)} {b:Bool} (hE:RowE s q t) (hqt:q<t) (hw:U.white (byt s q:Int)=false) (h35:byt s q≠35):∀ (g p:Nat),p+g=q→(∀ j,j<q→p≤j→U.white (byt s j:Int)=true)→PW s a o b q p o b:=by
 have hq:q<s.size:=Nat.lt_of_lt_of_le hqt hE.2.1
 intro g
 induction g with
 | zero=>
  intro p h _
  obtain rfl:p=q:=by omega
  exact .stop hq hw (hE.2.2.1 p hqt (Nat.le_refl _)) (ntB_not h35) rfl rfl rfl
 | succ g ih=>
  intro p h hW
  exact .white (by omega) (hW p (by omega) (Nat.le_refl _)) (ih (p+1) (by omega) fun j h1 h2=>hW j h1 (by omega))
theorem PW.le {s:ByteArray} {a E p:Nat} {L o:List (List UInt8 × Nat)} {S b:Bool} (h:PW s a L S E p o b):p≤s.size→p≤E∧E≤s.size:=by
 induction h with
 | over _ _ _ e=>intro hp;omega
 | white h1 _ _ ih=>intro hp;have:=ih (by omega);omega
 | lf h1 _ _ ih=>intro hp;have:=ih (by omega);omega
 | com h1 hn _ hE _ _ _ ih=>
  intro hp
  have h2:=nt_row hn h1 hE
  have:=ih hE.2.1
  omega
 | stop h1 _ _ _ _ _ e=>intro hp;omega
def Seen (s:ByteArray) (wi:Bool) (n:Int) (a rb p:Nat):Prop:=
 ∃ t f i,RowE s p t∧FirN s rb t f∧InN s rb t i∧kindN s rb t f≠3∧kindN s rb t f≠4∧(kindN s rb t f=5→wi=false→NoTab s rb f)∧(kindN s rb t f=5→wi=true→a<rb→n<(i:Int))∧(p≤f∨(p=t∧kindN s rb t f=2))
theorem NFin.plain {s:ByteArray} {wi:Bool} {n:Int} {a q r:Nat} {L:List (List UInt8 × Nat)} {S:Bool} (hq:q≤s.size) (hB:RowB s q r) (h:a≤r→∃ t f i,RowE s q t∧FirN s r t f∧InN s r t i∧kindN s r t f≠3∧kindN s r t f≠4∧(kindN s r t f=5→wi=false→NoTab s r q)∧(kindN s r t f=5→wi=true→a<r→n<(i:Int))):NFin s wi n a L S q L S q 0:=by
 by_cases har:a≤r
 ·obtain ⟨t,f,i,h1,h2,h3,h4,h5,h6,h7⟩:=h har
  exact ⟨r,t,f,i,hB,h1,h2,h3,.inr (.inr ⟨fun hw _ hk=>h6 hk hw,fun hw ha=>⟨h4,h5,fun hk=>h7 hk hw ha⟩,rfl,rfl,rfl,rfl⟩)⟩
 ·obtain ⟨t,ht⟩:=RowE.ex s q hq
  have hrt:r≤t:=Nat.le_trans hB.1 ht.1
  obtain ⟨f,hf⟩:=FirN.ex s r t hrt
  obtain ⟨i,hi⟩:=InN.ex s r t hrt
  exact ⟨r,t,f,i,hB,ht,hf,hi,.inr (.inr ⟨fun _ h=>absurd h har,fun _ h=>absurd (Nat.le_of_lt h) har,rfl,rfl,rfl,rfl⟩)⟩
theorem NZ.pass {s:ByteArray} {wi:Bool} {n:Int} {a:Nat} {sm:Bool} {L:List (List UInt8 × Nat)} {S:Bool} {E:Nat} {C:Int} {p:Nat} {m f:Bool} {o:List (List UInt8 × Nat)} {b:Bool} (h:NZ s wi n a sm L S E C p m f o b) :
  ∀ rb,p≤s.size→a≤p→RowB s p rb→(m=true→rb=p)→(sm&&f)=decide (rb<a)→(m=false→a≤rb→Seen s wi n a rb p)→(o≠[]→a≤rb∨p=s.size∨byt s p=10)→(o=[]→b=false) →
   ∃ L0 S0 q,PW s a L0 S0 q p o b∧NFin s wi n a L0 S0 q L S E C:=by
 induction h with
 | @over p m f o b h1 h2 h3 h4 h5=>
  intro rb hp hap hB hm _ hs _ _
  subst h2 h3 h4 h5
  refine ⟨_,_,_,.over h1 rfl rfl rfl,NFin.plain hp hB fun har=>?_⟩
  cases m with
  | true=>
   obtain rfl:=hm rfl
   have hE:RowE s rb rb:=⟨Nat.le_refl _,hp,fun j h1 h2=>by omega,.inl (by omega)⟩
   have hk:kindN s rb rb rb=1:=by
    refine kind_one (fun hk=>?_) (fun hk=>?_) rfl
    ·have:=(kind_mark (.inl hk)).1;omega
    ·have:=(kind_mark (.inr hk)).1;omega
   refine ⟨rb,rb,0,hE,⟨Nat.le_refl _,Nat.le_refl _,fun j h1 h2=>by omega,.inl rfl⟩,⟨Nat.le_refl _,fun j h1=>by omega,.inl rfl⟩,by rw[hk];decide,by rw[hk];decide,fun h=>?_,fun h=>?_⟩ <;> (rw[hk] at h;cases h)
  | false=>
   obtain ⟨t,f,i,hE,hF,hI,k3,k4,k5,k6,hc⟩:=hs rfl har
   have ht:t=E:=by have:=hE.1;have:=hE.2.1;omega
   have hk:kindN s rb t f≠5:=by
    rcases hc with hc|⟨_,hc⟩
    ·have hf:f=t:=by have:=hF.2.1;omega
     rw[kind_one k3 k4 hf];decide
    ·rw[hc];decide
   exact ⟨t,f,i,hE,hF,hI,k3,k4,fun h=>absurd h hk,fun h=>absurd h hk⟩
 | @mark p t q f o b hp1 hE hF hk hwa h2 h3 h4 h5=>
  intro rb hp hap hB hm _ _ _ _
  obtain rfl:=hm rfl
  subst h2 h3 h4 h5
  obtain ⟨hk1,hk2⟩:=kind_mark hk
  obtain ⟨i,hi⟩:=InN.ex s E t hE.1
  refine ⟨_,_,_,.stop hp1 ?_ ?_ (ntB_not ?_) rfl rfl rfl,E,t,q,i,hB,hE,hF,hi,.inr (.inr ⟨fun _ _ h5=>?_,fun hw ha=>?_,rfl,rfl,rfl,rfl⟩)⟩
  ·rcases hk2 with e|e <;> rw[e] <;> decide
  ·omega
  ·omega
  ·rcases hk with e|e <;> rw[e] at h5 <;> cases h5
  ·rcases hwa with e|e
   ·rw[e] at hw;cases hw
   ·omega
 | @markX p t q f o b hp1 hE hF hk hw hpa h2 h3 h4 h5=>
  intro rb hp hap hB hm _ _ _ _
  obtain rfl:=hm rfl
  subst h2 h3 h4 h5
  obtain ⟨hk1,hk2⟩:=kind_mark hk
  obtain ⟨i,hi⟩:=InN.ex s E t hE.1
  refine ⟨_,_,_,.stop hp1 ?_ ?_ (ntB_not ?_) rfl rfl rfl,E,t,q,i,hB,hE,hF,hi,.inr (.inl ⟨hw,by omega,?_,rfl,rfl,rfl,rfl⟩)⟩
  ·rcases hk2 with e|e <;> rw[e] <;> decide
  ·omega
  ·omega
  ·rcases hk with e|e
   ·exact .inl e
   ·exact .inr (.inl e)
 | @tab p t q x f o b hp1 hE hF hk hw hT h2 h3 h4 h5=>
  intro rb hp hap hB hm _ _ _ _
  obtain rfl:=hm rfl
  subst h2 h3 h4 h5
  obtain ⟨k1,k2⟩:=kind_5 hk
  have hqt:q<t:=by have:=hF.2.1;omega
  have hEq:RowE s q t:=hE.within (hB) hF.1 hF.2.1
  obtain ⟨i,hi⟩:=InN.ex s rb t hE.1
  have hBq:RowB s q rb:=hB.within hE hF.1 hF.2.1
  exact ⟨_,_,_,PW.row hEq hqt (hF.2.2.2.resolve_left k1) k2 (q-rb) rb (by have:=hF.1;omega) (fun j h1 h2=>hF.2.2.1 j h1 h2),rb,t,q,i,hBq,hEq,hF,hi,.inl ⟨hw,hap,hk,hT,rfl,rfl,rfl⟩⟩
 | @far p t q i f o b hp1 hE hF hk hw hpa hI hin h2 h3 h4 h5=>
  intro rb hp hap hB hm _ _ _ _
  obtain rfl:=hm rfl
  subst h2 h3 h4 h5
  obtain ⟨k1,k2⟩:=kind_5 hk
  have hqt:E<t:=by have:=hF.2.1;omega
  have hEq:RowE s E t:=hE.within (hB) hF.1 hF.2.1
  have hBq:RowB s E rb:=hB.within hE hF.1 hF.2.1
  exact ⟨_,_,_,PW.row hEq hqt (hF.2.2.2.resolve_left k1) k2 (E-rb) rb (by have:=hF.1;omega) (fun j h1 h2=>hF.2.2.1 j h1 h2),rb,t,E,i,hBq,hEq,hF,hI,.inr (.inl ⟨hw,by omega,.inr (.inr ⟨hk,hin⟩),rfl,rfl,rfl,rfl⟩)⟩
 | @met p t q i f o b hp1 hE hF hI k3 k4 k5 k6 _ ih=>
  intro rb hp hap hB hm hsm _ ho hob
  obtain rfl:=hm rfl
  exact ih rb hp hap hB (fun h=>by cases h) hsm (fun _ har=>⟨t,q,i,hE,hF,hI,k3,k4,k5,fun e1 e2 e3=>k6 e1 e2 (by omega),.inl hF.1⟩) ho hob
 | @white p f o b hp1 hw _ ih=>
  intro rb hp hap hB hm hsm hs ho hob
  have h10:byt s p≠10:=fun e=>by rw[e] at hw;cases hw
  suffices H:(false=false→a≤rb→Seen s wi n a rb (p+1))∧(o≠[]→a≤rb∨p+1=s.size∨byt s (p+1)=10) by
   obtain ⟨L0,S0,q,h1,h2⟩:=ih rb (by omega) (by omega) (hB.step h10) (fun h=>by cases h) hsm H.1 H.2 hob
   exact ⟨L0,S0,q,.white hp1 hw h1,h2⟩
  refine ⟨fun _ har=>?_,fun h=>?_⟩
  ·obtain ⟨t,g,i,hE,hF,hI,k3,k4,k5,k6,hc⟩:=hs rfl har
   have hpt:p≠t:=fun e=>by
    rcases hE.2.2.2 with e2|e2
    ·omega
    ·rw[←e] at e2;exact h10 e2
   have hpt2:=hE.1
   refine ⟨t,g,i,⟨by omega,hE.2.1,fun j h1 h2=>hE.2.2.1 j h1 (by omega),hE.2.2.2⟩,hF,hI,k3,k4,k5,k6,.inl ?_⟩
   rcases hc with hc|⟨hc,_⟩
   ·have:p≠g:=fun e=>by
     rcases hF.2.2.2 with e2|e2
     ·omega
     ·rw[←e,hw] at e2;cases e2
    omega
   ·exact absurd hc hpt
  ·rcases ho h with h|h|h
   ·exact .inl h
   ·omega
   ·exact absurd h h10
 | @lf p f o b hp1 h10 _ ih=>
  intro rb hp hap hB hm hsm hs ho hob
  obtain ⟨L0,S0,q,h1,h2⟩:=ih (p+1) (by omega) (by omega) (RowB.lf h10) (fun _=>rfl) (by rw[Bool.and_false];exact (decide_eq_false (by omega)).symm) (fun h=>by cases h) (fun _=>.inl (by omega)) hob
  exact ⟨L0,S0,q,.lf hp1 h10 h1,h2⟩
 | @com p t e k d f o b hp1 hn hE hK hA _ ih=>
  intro rb hp hap hB hm hsm hs ho hob
  have h35:=ntB_byte hn
  have hpt:=nt_row hn hp1 hE
  have hb2:(if o=[] then (sm&&f) else b)=(b||decide (rb<a)):=by
   split
   ·rename_i h
    rw[hob h,hsm,Bool.false_or]
   ·rename_i h
    have har:a≤rb:=by
     rcases ho h with h|h|h
     ·exact h
     ·omega
     ·omega
    rw[decide_eq_false (by omega),Bool.or_false]
  have hBt:RowB s t rb:=hB.within hE (by have:=hB.1;omega) (Nat.le_refl t)
  suffices H:false=false→a≤rb→Seen s wi n a rb t by
   obtain ⟨L0,S0,q,h1,h2⟩:=ih rb hE.2.1 (by omega) hBt (fun h=>by cases h) hsm H (fun _=>.inr hE.2.2.2) (fun h=>by simp at h)
   rw[hb2] at h1
   exact ⟨L0,S0,q,.com hp1 hn hB hE hK hA h1,h2⟩
  intro _ har
  ·obtain ⟨t2,g,i,hE2,hF,hI,k3,k4,k5,k6,hc⟩:=hs rfl har
   obtain rfl:=hE.uniq hE2
   refine ⟨t,g,i,⟨Nat.le_refl _,hE.2.1,fun j h1 h2=>by omega,hE.2.2.2⟩,hF,hI,k3,k4,k5,k6,.inr ⟨rfl,?_⟩⟩
   rcases hc with hc|⟨hc,_⟩
   ·have hpg:p=g:=by
     by_cases h:p=g
     ·exact h
     ·have:=hF.2.2.1 p (by omega) hB.1
      rw[h35] at this;cases this
    subst hpg
    exact kind_note k3 k4 (by omega) h35
   ·omega
 | @stop p f o b hp1 hw h10 hn h2 h3 h4 h5=>
  intro rb hp hap hB hm hsm hs ho hob
  subst h2 h3 h4 h5
  refine ⟨_,_,_,.stop hp1 hw h10 hn rfl rfl rfl,NFin.plain hp hB fun har=>?_⟩
  obtain ⟨t,g,i,hE,hF,hI,k3,k4,k5,k6,hc⟩:=hs rfl har
  have hpt:E≠t:=fun e=>by
   rcases hE.2.2.2 with e2|e2
   ·omega
   ·rw[←e] at e2;exact h10 e2
  have hpg:E=g:=by
   rcases hc with hc|⟨hc,_⟩
   ·by_cases h:E=g
    ·exact h
    ·have:=hF.2.2.1 E (by omega) hB.1
     rw[hw] at this;cases this
   ·exact absurd hc hpt
  subst hpg
  exact ⟨t,E,i,hE,hF,hI,k3,k4,k5,k6⟩
theorem NoteZ.pass {s:ByteArray} {wi:Bool} {n at':Int} {L:List (List UInt8 × Nat)} {S:Bool} {E C:Int} (h:NoteZ s wi n at' L S E C) :
  ∃ L0 S0 q E',E=((E':Nat):Int)∧PW s (clampN at' s.size) L0 S0 q (clampN at' s.size) [] false∧NFin s wi n (clampN at' s.size) L0 S0 q L S E' C:=by
 obtain ⟨r0,E',hB,hE,hN⟩:=h
 suffices H:(!(decide (clampN at' s.size=r0))&&true)=decide (r0<clampN at' s.size)∧(decide (clampN at' s.size=r0)=false→clampN at' s.size≤r0→Seen s wi n (clampN at' s.size) r0 (clampN at' s.size)) by
  obtain ⟨L0,S0,q,h1,h2⟩:=hN.pass r0 (clampN_le at' s.size) (Nat.le_refl _) hB (fun h=>by rw[decide_eq_true_eq] at h;exact h.symm) H.1 H.2 (fun h=>absurd rfl h) (fun _=>rfl)
  exact ⟨L0,S0,q,E',hE,h1,h2⟩
 refine ⟨?_,fun h har=>?_⟩
 ·rw[Bool.and_true,Bool.eq_iff_iff,Bool.not_eq_true',decide_eq_false_iff_not,decide_eq_true_eq]
  have:=hB.1
  omega
 ·rw[decide_eq_false_iff_not] at h
  have:=hB.1
  omega
end Go.Proofs.YthcmkpiajkbpnaaGreatDoor
namespace Go.Proofs.YthcmkpiajkbpnaaGreatDoor
open Go.RowKit
theorem byt_list (s:ByteArray) (j:Nat):byt s j=(s.data.toList.getD j 0).toNat:=by
 unfold byt;rw[Lib.getD_get!']
theorem byt_extract (s:ByteArray) (a b j:Nat) (h:a+j<b):byt (s.extract a b) j=byt s (a+j):=by
 rw[byt_list,byt_list,Lib.extract_data]
 simp only[List.getD,List.getElem?_take,List.getElem?_drop]
 rw[if_pos (by omega)]
theorem byt_bang (s:ByteArray) (j:Nat) (h:j<s.size):(s.data[j]!).toNat=byt s j:=by
 rw[byt_list,getElem!_pos s.data j (by simpa using h)]
 have hj2:j<s.data.toList.length:=by rw[←Lib.size_eq];exact h
 simp[List.getD,List.getElem?_eq_getElem hj2]
theorem size_take (s:ByteArray) (c:Nat) (hc:c≤s.size):(s.extract 0 c).size=c:=by rw[ByteArray.size_extract];omega
theorem size_piece (s:ByteArray) (a b:Nat) (hb:b≤s.size):(s.extract a b).size=b-a:=by rw[ByteArray.size_extract];omega
theorem last_begin (s:ByteArray) (c a:Nat) (hc:c≤s.size) (h:RowB s c a):Lib.lastIndexByte (s.extract 0 c) 10+1=(a:Int):=by
 have hsz:=size_take s c hc
 have hg:∀ j,j<c→(((s.extract 0 c).data[j]!).toNat:Int)=(byt s j:Int):=fun j hj=>by
  rw[byt_bang _ _ (by rw[hsz];exact hj),byt_extract s 0 c j (by omega),Nat.zero_add]
 rcases Lib.lastIndexByte_spec (s.extract 0 c) 10 with ⟨h1,h2⟩|⟨i,hi,h1,h2,h3⟩
 ·rw[hsz] at h2
  have hB:RowB s c 0:=⟨Nat.zero_le _,fun j hj _ e=>h2 j hj (by rw[hg j hj,e];rfl),.inl rfl⟩
  have:=h.uniq hB
  omega
 ·rw[hsz] at hi h3
  rw[hg i hi] at h2
  have h4:byt s i=10:=by omega
  have hB:RowB s c (i+1):=⟨hi,fun j hj hij e=>h3 j (by omega) hj (by rw[hg j hj,e];rfl),.inr h4⟩
  have:=h.uniq hB
  omega
theorem get_ext (s:ByteArray) (c k:Nat):(s.extract c s.size).data.toList[k]?=s.data.toList[c+k]?:=by
 rw[Lib.extract_data,List.take_of_length_le (by rw[List.length_drop,Lib.size_eq];exact Nat.le_refl _),List.getElem?_drop]
theorem get_byt (s:ByteArray) (j:Nat):s.data.toList[j]?=some 10↔j<s.size∧byt s j=10:=by
 rw[byt_list,Lib.size_eq]
 constructor
 ·intro h
  have hl:=(List.getElem?_eq_some_iff.1 h).1
  exact ⟨hl,by simp[List.getD,h]⟩
 ·rintro ⟨hl,h⟩
  simp only[List.getD,List.getElem?_eq_getElem hl,Option.getD_some] at h
  rw[List.getElem?_eq_getElem hl]
  exact congrArg some (UInt8.toNat_inj.1 h)
theorem index_end (s:ByteArray) (c b:Nat) (h:RowE s c b) :
  (Lib.indexByte (s.extract c s.size).data.toList (10:Int).toNat.toUInt8=-1∧b=s.size)∨∃ n:Nat,Lib.indexByte (s.extract c s.size).data.toList (10:Int).toNat.toUInt8=(n:Int)∧c+n=b:=by
 have h10:(10:Int).toNat.toUInt8=10:=rfl
 rw[h10]
 obtain ⟨i,hi⟩:∃ i,Lib.indexByte (s.extract c s.size).data.toList 10=i:=⟨_,rfl⟩
 have hge:=Lib.indexByte_ge (s.extract c s.size).data.toList 10
 rw[hi] at hge ⊢
 by_cases h1:i=-1
 ·subst h1
  have hn:=Lib.indexByte_none hi
  refine .inl ⟨rfl,?_⟩
  rcases h.2.2.2 with h2|h2
  ·exact h2
  ·by_cases h3:b=s.size
   ·exact h3
   ·exfalso
    have:=hn (b-c)
    rw[get_ext,show c+(b-c)=b from by have:=h.1;omega] at this
    exact this ((get_byt s b).2 ⟨by have:=h.2.1;omega,h2⟩)
 ·obtain ⟨o,ho⟩:∃ o:Nat,i=(o:Int):=⟨i.toNat,by omega⟩
  subst ho
  obtain ⟨h2,h3⟩:=Lib.indexByte_some hi
  rw[get_ext] at h2
  have h4:=(get_byt s _).1 h2
  refine .inr ⟨o,rfl,?_⟩
  have hE:RowE s c (c+o):=by
   refine ⟨by omega,by omega,fun j hj hcj e=>?_,.inr h4.2⟩
   have:=h3 (j-c) (by omega)
   rw[get_ext,show c+(j-c)=j from by omega] at this
   exact this ((get_byt s j).2 ⟨by omega,e⟩)
  exact hE.uniq h
theorem clamp_is (c:Nat) (s:ByteArray) (at':Int) (w:World) (hs:s.size≤1099511627776) (h:clampN at' s.size=c) :
  Calls Tryz.prog 58 #[.string s,.int .i64 at'] w fun e w'=>e=.returned (.int .i64 (c:Int))∧w=w':=by
 have hx:min (max at' 0) (s.size:Int)=(c:Int):=by
  rw[←h];unfold clampN;omega
 clear h
 go_enter Tryz.func58,Tryz.ntmps58
 go_wp2
 go_ret
 exact ⟨rfl,rfl⟩
theorem begin_is (a:Nat) (s:ByteArray) (c:Nat) (w:World) (hs:s.size≤1099511627776) (hc:c≤s.size) (h:RowB s c a) :
  Calls Tryz.prog 59 #[.string s,.int .i64 (c:Int)] w fun e w'=>e=.returned (.int .i64 (a:Int))∧w=w':=by
 have hf:=last_begin s c a hc h
 have hsz:=size_take s c hc
 have ha:=h.1
 clear h
 obtain ⟨i,hi⟩:∃ i,i=Lib.lastIndexByte (s.extract 0 c) 10:=⟨_,rfl⟩
 rw[←hi] at hf
 have HI:=Lib.hid hi
 clear hi
 go_enter Tryz.func59,Tryz.ntmps59
 go_wp2_with fail
 refine (Tryz.strings_LastIndexByte (s.extract 0 c) 10 (by rw[hsz];omega) _).mono ?_
 rintro e w1 ⟨rfl,rfl⟩
 rw[←HI.out]
 go_wp2
 go_ret
 exact ⟨rfl,rfl⟩
set_option maxHeartbeats 400000 in
theorem Row_is (a b:Nat) (s:ByteArray) (at':Int) (w:World) (hs:s.size≤1099511627776) (hB:RowB s (clampN at' s.size) a) (hE:RowE s (clampN at' s.size) b) :
  Calls Tryz.prog 34 #[.string s,.int .i64 at'] w fun e w'=>e=.returned (.tuple #[.int .i64 (a:Int),.int .i64 (b:Int)])∧w=w':=by
 have hcs:=clampN_le at' s.size
 obtain ⟨c,hc⟩:∃ c,clampN at' s.size=c:=⟨_,rfl⟩
 rw[hc] at hB hE hcs
 have HC:=Lib.hid hc
 have HB:=Lib.hid hB
 have hb1:=hE.1
 have hb2:=hE.2.1
 obtain ⟨i,hi⟩:∃ i,i=Lib.indexByte (s.extract c s.size).data.toList (10:Int).toNat.toUInt8:=⟨_,rfl⟩
 have key:=index_end s c b hE
 rw[←hi] at key
 have HI:=Lib.hid hi
 clear hc hB hE hi
 rcases key with ⟨rfl,rfl⟩|⟨n,rfl,rfl⟩
 all_goals
  go_enter Tryz.func34,Tryz.ntmps34
  go_wp2_with fail
  refine (clamp_is c s at' _ hs HC.out).mono ?_
  rintro e w' ⟨rfl,rfl⟩
  go_wp2_with fail
  refine (Tryz.strings_IndexByte (s.extract c s.size) 10 _).mono ?_
  rintro e w1 ⟨rfl,rfl⟩
  rw[←HI.out]
  go_wp2_with fail
  refine (begin_is a s c _ hs hcs HB.out).mono ?_
  rintro e w' ⟨rfl,rfl⟩
  go_wp2
  go_ret2
  exact ⟨rfl,rfl⟩
set_option maxHeartbeats 400000 in
theorem rowsIn_is (a b n:Nat) (s:ByteArray) (at':Int) (w:World) (hs:s.size≤1099511627776) (hB:RowB s (clampN at' s.size) a) (hE:RowE s (clampN at' s.size) b) (hN:InN s a b n) :
  Calls Tryz.prog 142 #[.string s,.int .i64 at'] w fun e w'=>e=.returned (.int .i64 (n:Int))∧w=w':=by
 have h1:=hB.1
 have h2:=hE.1
 have h3:=hE.2.1
 have h4:=hN.1
 have HB:=Lib.hid hB
 have HE:=Lib.hid hE
 have HN:=Lib.hid hN
 clear hB hE hN
 go_enter Tryz.func142,Tryz.ntmps142
 go_wp2_with fail
 refine (Row_is a b s at' _ hs HB.out HE.out).mono ?_
 rintro e w' ⟨rfl,rfl⟩
 go_wp2
 go_loop [17] (fun i=>∃ k:Nat,i=.int .i64 (k:Int)∧k≤n) (fun i=>n-(intOf i).toNat)
 case atStart=>exact ⟨0,rfl,Nat.zero_le _⟩
 case round=>
  obtain ⟨k,rfl,hk⟩:=hrel
  by_cases hkb:a+k<b
  ·have hix:=run_byt s (a+k) (by omega) _ rfl
   push_cast at hix
   by_cases hkn:k<n
   ·have hb:=HN.out.2.1 k hkn
    rw[hb] at hix
    go_wp2
    go_round
    case rel=>exact ⟨k+1,by go_num,hkn⟩
    case measure=>simp[intOf];omega
   ·obtain rfl:k=n:=by omega
    have hb:=HN.out.2.2.resolve_left (by omega)
    obtain ⟨x,hx⟩:∃ x,x=byt s (a+k):=⟨_,rfl⟩
    rw[←hx] at hix hb
    have hxb:((x:Int)==32)=false:=by simp;omega
    clear hx hb
    go_wp2
    go_ret
    exact ⟨rfl,rfl⟩
  ·obtain rfl:k=n:=by omega
   have hk2:(b:Int)-(a:Int)=(k:Int):=by omega
   go_wp2
   go_ret
   exact ⟨rfl,rfl⟩
theorem Col_is (a c:Nat) (s:ByteArray) (at':Int) (w:World) (hs:s.size≤1099511627776) (hc:clampN at' s.size=c) (hB:RowB s c a) :
  Calls Tryz.prog 43 #[.string s,.int .i64 at'] w fun e w'=>e=.returned (.int .i64 ((c:Int)-(a:Int)))∧w=w':=by
 have hcs:=clampN_le at' s.size
 rw[hc] at hcs
 have h1:=hB.1
 have HC:=Lib.hid hc
 have HB:=Lib.hid hB
 clear hc hB
 go_enter Tryz.func43,Tryz.ntmps43
 go_wp2_with fail
 refine (clamp_is c s at' _ hs HC.out).mono ?_
 rintro e w' ⟨rfl,rfl⟩
 go_wp2_with fail
 refine (begin_is a s c _ hs hcs HB.out).mono ?_
 rintro e w' ⟨rfl,rfl⟩
 go_wp2
 go_ret
 exact ⟨rfl,rfl⟩
end Go.Proofs.YthcmkpiajkbpnaaGreatDoor
