/- Parts of the proof, put together from smaller texts (blanks that Lean does not want are struck). Conditions: those that each theorem writes out. -/
import Derived.Test.YtncngeamdechmaaGreatDoorZ04
import Derived.Test.YtncngeamdechmaaGreatDoorZ05
import Derived.Test.YtncngeamdechmaaGreatDoorZ10
namespace Go.Proofs.YtncngeamdechmaaGreatDoor
open Go.RowKit
def rdMap {α β:Type} (f:α→β):Rd α→Rd β
 | .ok x=>.ok (f x)
 | .bad q c=>.bad q c
theorem isB_ne {s:ByteArray} {p a b:Nat} (h:isB s p a=true) (hab:a≠b):isB s p b=false:=by
 have h1:=isB_lt h
 unfold isB
 rw[decide_eq_false_iff_not]
 rintro ⟨_,e⟩
 omega
mutual
def NT.wf:NT→Prop
 | .mk h k=>(h.kind=3∨h.kind=4∨k=[])∧wfL k
def wfL:List NT→Prop
 | []=>True
 | t :: ts=>t.wf∧wfL ts
end
mutual
theorem wf_ht:∀ x:NT,x.wf→x.htP=x.ht
 | .mk h k,hw=>by
  unfold NT.wf at hw
  have h1:=wfL_ht k hw.2
  unfold NT.htP NT.ht
  by_cases hk:h.kind=3∨h.kind=4
  ·rw[if_pos hk,if_pos hk,h1]
  ·rw[if_neg hk,if_neg hk]
   rcases hw.1 with e|e|e
   ·exact absurd (.inl e) hk
   ·exact absurd (.inr e) hk
   ·subst e;rfl
theorem wfL_ht:∀ l:List NT,wfL l→htPL l=htL l
 | [],_=>rfl
 | t :: ts,hw=>by
  unfold wfL at hw
  have h1:=wf_ht t hw.1
  have h2:=wfL_ht ts hw.2
  unfold htPL htL
  rw[h1,h2]
end
theorem wfL_app:∀ (a b:List NT),wfL a→wfL b→wfL (a++b)
 | [],b,_,h=>h
 | t :: ts,b,h1,h2=>by
  unfold wfL at h1
  show wfL (t :: (ts++b))
  unfold wfL
  exact ⟨h1.1,wfL_app ts b h1.2 h2⟩
theorem wf_head {x:NT} {h:NH} (hx:x.wf) (hk:h.kind=x.h.kind):(NT.mk h x.kids).wf:=by
 cases x with
 | mk hd ks=>
  unfold NT.wf at hx ⊢
  have hk:h.kind=hd.kind:=hk
  rw[hk]
  exact hx
theorem wfL_last (t:List UInt8):∀ (l:List NT),wfL l→wfL (lastT t l)
 | [],h=>h
 | [x],h=>by
  unfold wfL at h
  show wfL [x.withTrail t]
  unfold wfL
  exact ⟨wf_head h.1 rfl,by unfold wfL;trivial⟩
 | x :: y :: l,h=>by
  unfold wfL at h
  show wfL (x :: lastT t (y :: l))
  unfold wfL
  exact ⟨h.1,wfL_last t (y :: l) h.2⟩
theorem wf_kids {x:NT} (h:x.wf):wfL x.kids:=by
 cases x with
 | mk hd ks=>unfold NT.wf at h;exact h.2
theorem wfL_trailed (two:Bool) (l:Coms) (same:Bool) (ks:List NT) (h:wfL ks) (h2:two=true→∃ hd k v,ks=[.mk hd [k,v]]∧hd.kind=4):wfL (trailed two ks l same):=by
 unfold trailed
 split
 ·split
  ·rename_i htw
   obtain ⟨hd,k,v,rfl,hk⟩:=h2 htw
   unfold wfL at h
   have h3:=wf_kids h.1
   show wfL [.mk hd (lastT _ [k,v])]
   unfold wfL NT.wf
   exact ⟨⟨.inr (.inl hk),wfL_last _ _ h3⟩,by unfold wfL;trivial⟩
  ·exact wfL_last _ _ h
 ·exact h
section
variable (s:ByteArray) (n:Int)
def Aft (fin:Nat) (r:Rst):Prop:=r=fresh fin∨∃ L S E,NoteZ s true n (fin:Int) L S E 0∧r=⟨L,S,fin,E.toNat⟩
def End (r:Rst) (q:Nat) (c:Int):Prop:=∀ closing,closing=93∨closing=125→behindP s n closing r (.bad q c)
end
section
variable {s:ByteArray} {n:Int}
theorem stay_skip {r:Rst} (h:NoteZ s true n (r.at':Int) [] false (r.at':Int) 0) (hs:r.same=true→r.l≠[]):skipP s n r (.ok r):=by
 refine ⟨[],false,_,0,h,?_⟩
 rw[if_pos rfl,List.append_nil,Int.toNat_natCast,Bool.false_and]
 congr 1
 obtain ⟨l,sm,f,a⟩:=r
 congr 1
 show sm=if l.length=0 then false else sm
 split
 ·rename_i hl
  cases sm with
  | false=>rfl
  | true=>exact absurd (List.eq_nil_of_length_eq_zero hl) (hs rfl)
 ·rfl
theorem fresh_skip {fin:Nat} {o:Rd (Coms × Bool × Nat)} (h:betwR s n fin o):skipP s n (fresh fin) (rdMap (fun b=>⟨b.1,b.2.1,fin,b.2.2⟩) o):=by
 obtain ⟨L,S,E,C,hZ,rfl⟩:=h
 refine ⟨L,S,E,C,hZ,?_⟩
 split
 ·rename_i hC
  show Rd.ok _=_
  simp only[fresh,List.nil_append,List.length_nil,if_pos,row_self,Bool.and_true]
 ·rfl
theorem aft_skip {fin:Nat} {r:Rst} {o:Rd (Coms × Bool × Nat)} (hp:fin≤s.size) (ha:Aft s n fin r) (h:betwR s n fin o):skipP s n r (rdMap (fun b=>⟨b.1,b.2.1,fin,b.2.2⟩) o):=by
 rcases ha with rfl|⟨L,S,E,hZ,rfl⟩
 ·exact fresh_skip h
 ·obtain ⟨L',S',E',C',hZ',rfl⟩:=h
  obtain ⟨rfl,rfl,rfl,rfl⟩:=hZ.uniq hZ'
  rw[if_pos rfl]
  have hE:E=((E.toNat:Nat):Int):=by obtain ⟨e,he,_⟩:=hZ.far_le hp;omega
  refine stay_skip ?_ ?_
  ·show NoteZ s true n ((E.toNat:Nat):Int) [] false ((E.toNat:Nat):Int) 0
   rw[←hE];exact hZ.stays hp
  ·exact (hZ.facts hp).1
theorem star_stays {q:Nat} (h:isB s q 42=true):NoteZ s true n (q:Int) [] false (q:Int) 0:=by
 have h1:=isB_lt h
 exact note_stays (Nat.le_of_lt h1.1) fun _=>⟨by rw[h1.2];decide,by rw[h1.2];decide,ntB_not (by rw[h1.2];decide)⟩
theorem star_skip {r:Rst} (h:isB s r.at' 42=true):∃ r',skipP s n r (.ok r')∧r'.at'=r.at':=
 ⟨_,⟨[],false,_,0,star_stays h,(if_pos rfl).symm⟩,Int.toNat_natCast _⟩
theorem end_skip {r:Rst} {q:Nat} {c:Int} (h:skipP s n r (.bad q c)):End s n r q c:=fun _ _=>.bad h
theorem end_star {r:Rst} {q:Nat} (h:isB s q 42=true) (hr:r.at'=q):End s n r q 5:=fun closing hc=>by
 subst hr
 obtain ⟨r',h1,h2⟩:=star_skip (s:=s) (n:=n) h
 refine .ok h1 ?_
 rw[if_neg (by rw[h2,isB_ne h (by omega)];decide),if_neg (by rw[h2,isB_ne h (by omega)];decide),h2]
variable {col col':Nat→Nat→Rd (NT × Nat)→Prop}
def ColOK (col:Nat→Nat→Rd (NT × Nat)→Prop):Prop:=∀ deep p r,col deep p (.ok r)→r.1.withProps [] [] p []=r.1∧r.1.wf∧(r.1.h.kind=3∨r.1.h.kind=4)
structure FdOK (s:ByteArray) (p:Nat) (f:Fd):Prop where
 near:f.near=nearN f.x
 one:f.one=sameRow s p f.fin
 wf:f.x.wf
theorem wf_sc (h:NH):(NT.mk h []).wf:=by unfold NT.wf;exact ⟨.inr (.inr rfl),by unfold wfL;trivial⟩
theorem cont_ok (hk:ColOK col) {deep p:Nat} {prop:Bool} {f:Fd} (h:contR s n col deep p prop (.ok f)) (ha:f.any=true):FdOK s p f∧f.x.withProps [] [] p []=f.x:=by
 unfold contR at h
 split at h
 ·split at h
  ·cases h
  ·obtain ⟨A,E,C,hZ,e⟩:=h
   split at e
   ·rename_i hC
    injection e with e;subst e
    exact ⟨⟨rfl,(hZ.row hC).symm,wf_sc _⟩,rfl⟩
   ·cases e
 ·split at h
  ·obtain ⟨T,E,O,C,hZ,e⟩:=h
   split at e
   ·rename_i hC
    injection e with e;subst e
    refine ⟨⟨?_,hZ.row hC,wf_sc _⟩,rfl⟩
    show true=nearN _
    cases isB s p 39 <;> rfl
   ·cases e
  ·split at h
   ·rcases h with ⟨q,c,_,e⟩|⟨r,h1,e⟩
    ·cases e
    ·injection e with e;subst e
     obtain ⟨k1,k2,k3⟩:=hk deep p r h1
     refine ⟨⟨?_,rfl,k2⟩,k1⟩
     show true=nearN r.1
     unfold nearN
     rw[decide_eq_true]
     rcases k3 with k3|k3
     ·exact .inl k3
     ·exact .inr (.inl k3)
   ·split at h
    ·obtain ⟨T,E,O,C,hZ,e⟩:=h
     split at e
     ·rename_i hC
      injection e with e;subst e
      exact ⟨⟨rfl,hZ.row hC,wf_sc _⟩,rfl⟩
     ·cases e
    ·injection h with e;subst e;cases ha
theorem node_ok (hc:GoesC s col) (hk:ColOK col) {deep p:Nat} {f:Fd} (h:nodeR s n col deep p (.ok f)) (hp:p≤s.size) (ha:f.any=true):FdOK s p f:=by
 obtain ⟨A,T,E,C,hZ,h⟩:=h
 obtain ⟨E',rfl,g1,g2⟩:=hZ.far_le hp
 split at h
 ·cases h
 ·rename_i hC
  have hC:C=0:=by omega
  rw[Int.toNat_natCast] at h
  have hpr:=hZ.row hC hp
  rw[Int.toNat_natCast] at hpr
  rcases h with ⟨q,c,_,e⟩|⟨b,hb,h⟩
  ·cases e
  ·have hb2:E'≤b.2.2∧b.2.2≤s.size:=by
    split at hb
    ·exact betw_far hb g2
    ·injection hb with hb;subst hb;exact ⟨Nat.le_refl _,g2⟩
   rcases h with ⟨q,c,_,e⟩|⟨f2,hf2,e⟩
   ·cases e
   ·injection e with e
    split at e
    ·rename_i ha2
     obtain ⟨⟨k1,k2,k3⟩,_⟩:=cont_ok hk hf2 ha2
     have h3:=cont_far hc hf2 hb2.2
     subst e
     refine ⟨k1,?_,?_⟩
     ·show (f2.one&&sameRow s p b.2.2)=sameRow s p f2.fin
      rw[k2,row_join (a:=p) (b:=b.2.2) (c:=f2.fin) (by omega) h3.1,Bool.and_comm]
     ·show (f2.x.withProps A T p b.1).wf
      cases hx:f2.x with
      | mk hd ks=>rw[hx] at k3;unfold NT.wf at k3;show (NT.mk _ ks).wf;unfold NT.wf;exact k3
    ·split at e
     ·subst e;exact ⟨rfl,hpr.symm,wf_sc _⟩
     ·subst e;cases ha
theorem some_ok (hc:GoesC s col) (hk:ColOK col) {deep p:Nat} {f:Fd} (h:someR s n col deep p (.ok f)) (hp:p≤s.size):FdOK s p f:=by
 rcases h with ⟨q,c,_,e⟩|⟨f2,hf2,e⟩
 ·cases e
 ·split at e
  ·rename_i ha
   injection e with e
   subst e
   exact node_ok hc hk hf2 hp ha
  ·cases e
theorem plain_none {p:Nat} (h:begB s (p:Int) true=false):∃ T E O C,PlaiZ s (p:Int) n true T E O C∧E=(p:Int)∧C=5:=⟨[],p,false,5,by unfold PlaiZ;rw[if_pos h];exact ⟨rfl,rfl,rfl,rfl⟩,rfl,rfl⟩
theorem contP_coll {deep p:Nat} {o:Rd (NT × Rst)} (h:isB s p 91=true∨isB s p 123=true):contP s n col' deep p o=andR (col' deep p) (fun r o=>o=.ok (r.1,fresh r.2)) o:=by
 unfold contP
 rw[if_pos h]
theorem contP_star {deep p:Nat} {o:Rd (NT × Rst)} (h:isB s p 42=true):contP s n col' deep p o=∃ A E C,AliZ s (p:Int) A E C∧o=if C=0 then .ok (.mk ⟨2,0,p,0,[],[],A,[],[],false,[]⟩ [],fresh E.toNat) else .bad E.toNat C:=by
 have h1:¬ (isB s p 91=true∨isB s p 123=true):=by rw[isB_ne h (by decide),isB_ne h (by decide)];decide
 unfold contP
 rw[if_neg h1,if_pos h]
theorem contP_quote {deep p:Nat} {o:Rd (NT × Rst)} (h:isB s p 39=true∨isB s p 34=true):contP s n col' deep p o=∃ T E O C,QuoZ s (p:Int) n T E O C∧o=if C=0 then .ok (.mk ⟨1,if isB s p 39=true then 2 else 3,p,0,[],[],T,[],[],false,[]⟩ [],fresh E.toNat) else .bad E.toNat C:=by
 have h1:¬ (isB s p 91=true∨isB s p 123=true):=by
  rcases h with h|h
  ·rw[isB_ne h (by decide),isB_ne h (by decide)];decide
  ·rw[isB_ne h (by decide),isB_ne h (by decide)];decide
 have h2:¬ isB s p 42=true:=by
  rcases h with h|h
  ·rw[isB_ne h (by decide)];decide
  ·rw[isB_ne h (by decide)];decide
 unfold contP
 rw[if_neg h1,if_neg h2,if_pos h]
theorem contP_plain {deep p:Nat} {o:Rd (NT × Rst)} (h1:¬ (isB s p 91=true∨isB s p 123=true)) (h2:¬ isB s p 42=true) (h3:¬ (isB s p 39=true∨isB s p 34=true)):contP s n col' deep p o=∃ T E O C,PlaiZ s (p:Int) n true T E O C∧o=if C=0 then .ok (.mk ⟨1,1,p,0,[],[],T,[],[],false,[]⟩ [],fresh E.toNat) else .bad E.toNat C:=by
 unfold contP
 rw[if_neg h1,if_neg h2,if_neg h3]
theorem cont_to (hcol:∀ deep p o,p<s.size→col deep p o→col' deep p o) {deep p:Nat} {prop:Bool} {o:Rd Fd} (h:contR s n col deep p prop o) (hs:prop=true→isB s p 42=false) :
  (∀ f,o=.ok f→f.any=true→contP s n col' deep p (.ok (f.x,fresh f.fin))∧(isB s p 42=false→begP s p=true)) ∧
  (∀ f,o=.ok f→f.any=false→contP s n col' deep p (.bad p 5)∧begP s p=false∧f.fin=p) ∧
  (∀ q c,o=.bad q c→contP s n col' deep p (.bad q c)∧(isB s p 42=false→begP s p=true)):=by
 unfold contR at h
 unfold begP
 split at h
 ·rename_i h42
  have K:=fun o'=>contP_star (s:=s) (n:=n) (col':=col') (deep:=deep) (o:=o') h42
  have hpf:¬ prop=true:=fun e=>by rw[hs e] at h42;cases h42
  rw[if_neg hpf] at h
  obtain ⟨A,E,C,hZ,rfl⟩:=h
  refine ⟨fun f e ha=>⟨(K _).mpr ⟨A,E,C,hZ,?_⟩,fun e2=>by rw[h42] at e2;cases e2⟩,fun f e ha=>?_,fun q c e=>⟨(K _).mpr ⟨A,E,C,hZ,?_⟩,fun e2=>by rw[h42] at e2;cases e2⟩⟩
  ·split at e
   ·injection e with e;subst e;rename_i hC;rw[if_pos hC]
   ·cases e
  ·split at e
   ·injection e with e;subst e;cases ha
   ·cases e
  ·split at e
   ·cases e
   ·injection e with e1 e2;subst e1 e2;rename_i hC;rw[if_neg hC]
 ·rename_i h42
  split at h
  ·rename_i hq
   have K:=fun o'=>contP_quote (s:=s) (n:=n) (col':=col') (deep:=deep) (o:=o') (Or.comm.1 hq)
   have hbeg:(isB s p 91||(isB s p 123||(isB s p 39||(isB s p 34||begB s (p:Int) true))))=true:=by
    rcases hq with hq|hq <;> rw[hq]
    ·cases isB s p 91 <;> cases isB s p 123 <;> cases isB s p 39 <;> rfl
    ·cases isB s p 91 <;> cases isB s p 123 <;> rfl
   obtain ⟨T,E,O,C,hZ,rfl⟩:=h
   refine ⟨fun f e ha=>⟨(K _).mpr ⟨T,E,O,C,hZ,?_⟩,fun _=>hbeg⟩,fun f e ha=>?_,fun q c e=>⟨(K _).mpr ⟨T,E,O,C,hZ,?_⟩,fun _=>hbeg⟩⟩
   ·split at e
    ·injection e with e;subst e;rename_i hC;rw[if_pos hC]
    ·cases e
   ·split at e
    ·injection e with e;subst e;cases ha
    ·cases e
   ·split at e
    ·cases e
    ·injection e with e1 e2;subst e1 e2;rename_i hC;rw[if_neg hC]
  ·rename_i hq
   split at h
   ·rename_i hb
    have K:=fun o'=>contP_coll (s:=s) (n:=n) (col':=col') (deep:=deep) (o:=o') hb
    have hbeg:(isB s p 91||(isB s p 123||(isB s p 39||(isB s p 34||begB s (p:Int) true))))=true:=by
     rcases hb with hb|hb <;> rw[hb]
     ·rfl
     ·cases isB s p 91 <;> rfl
    have hps:p<s.size:=by
     rcases hb with hb|hb
     ·exact (isB_lt hb).1
     ·exact (isB_lt hb).1
    rcases h with ⟨q,c,h1,rfl⟩|⟨r,h1,rfl⟩
    ·exact ⟨(fun f e=>by cases e),(fun f e=>by cases e),fun q' c' e=>by injection e with e1 e2;subst e1 e2;exact ⟨(K _).mpr (.bad (hcol _ _ _ hps h1)),fun _=>hbeg⟩⟩
    ·refine ⟨fun f e ha=>?_,fun f e ha=>?_,fun q c e=>by cases e⟩
     ·injection e with e;subst e;exact ⟨(K _).mpr (.ok (hcol _ _ _ hps h1) rfl),fun _=>hbeg⟩
     ·injection e with e;subst e;cases ha
   ·rename_i hb
    have K:=fun o'=>contP_plain (s:=s) (n:=n) (col':=col') (deep:=deep) (o:=o') hb h42 (fun e=>hq (Or.comm.1 e))
    split at h
    ·rename_i hbb
     have hbeg:(isB s p 91||(isB s p 123||(isB s p 39||(isB s p 34||begB s (p:Int) true))))=true:=by
      rw[hbb];cases isB s p 91 <;> cases isB s p 123 <;> cases isB s p 39 <;> cases isB s p 34 <;> rfl
     obtain ⟨T,E,O,C,hZ,rfl⟩:=h
     refine ⟨fun f e ha=>⟨(K _).mpr ⟨T,E,O,C,hZ,?_⟩,fun _=>hbeg⟩,fun f e ha=>?_,fun q c e=>⟨(K _).mpr ⟨T,E,O,C,hZ,?_⟩,fun _=>hbeg⟩⟩
     ·split at e
      ·injection e with e;subst e;rename_i hC;rw[if_pos hC]
      ·cases e
     ·split at e
      ·injection e with e;subst e;cases ha
      ·cases e
     ·split at e
      ·cases e
      ·injection e with e1 e2;subst e1 e2;rename_i hC;rw[if_neg hC]
    ·rename_i hbb
     have hbb:begB s (p:Int) true=false:=by cases h:begB s (p:Int) true with|false=>rfl|true=>exact absurd h hbb
     subst h
     obtain ⟨T,E,O,C,hZ,rfl,rfl⟩:=plain_none (n:=n) hbb
     refine ⟨(fun f e ha=>by injection e with e;subst e;cases ha),fun f e ha=>⟨(K _).mpr ⟨T,_,O,5,hZ,by rw[if_neg (by decide),Int.toNat_natCast]⟩,?_,?_⟩,fun q c e=>by cases e⟩
     ·rw[hbb]
      cases h1:isB s p 91 with
      | true=>exact absurd (.inl h1) hb
      | false=>
       cases h2:isB s p 123 with
       | true=>exact absurd (.inr h2) hb
       | false=>
        cases h3:isB s p 39 with
        | true=>exact absurd (.inr h3) hq
        | false=>
         cases h4:isB s p 34 with
         | true=>exact absurd (.inl h4) hq
         | false=>rfl
     ·injection e with e;subst e;rfl
theorem node_to (hcol:∀ deep p o,p<s.size→col deep p o→col' deep p o) (hk:ColOK col) {deep p:Nat} {o:Rd Fd} (h:nodeR s n col deep p o) (hp:p≤s.size) :
  (∀ f,o=.ok f→f.any=true→∃ r,nodeP s n col' deep p (.ok (f.x,r))∧Aft s n f.fin r) ∧
  (∀ f,o=.ok f→f.any=false→nodeP s n col' deep p (.bad f.fin 5)) ∧
  (∀ q c,o=.bad q c→nodeP s n col' deep p (.bad q c)∨(c=5∧isB s q 42=true∧∃ x r,nodeP s n col' deep p (.ok (x,r))∧r.at'=q)):=by
 obtain ⟨A,T,E,C,hZ,h⟩:=h
 obtain ⟨E',rfl,g1,g2⟩:=hZ.far_le hp
 by_cases hC:C=0
 ·subst hC
  rw[if_neg (fun e=>e rfl),Int.toNat_natCast] at h
  by_cases hE:p<E'
  ·rw[if_pos hE,decide_eq_true hE] at h
   have K:∀ o',nodeP s n col' deep p o'↔nodeP s n col' deep p o':=fun _=>Iff.rfl
   have mk:∀ o',andR (skipP s n (fresh E')) (fun r o=>if begP s r.at'=true then andR (contP s n col' deep r.at') (fun c o=>o=.ok (c.1.withProps A T p r.l,c.2)) o else o=.ok (.mk (voidH A T p) [],r)) o'→nodeP s n col' deep p o':=fun o' h'=>
    ⟨A,T,_,0,hZ,by rw[if_neg (fun e=>e rfl),if_neg (by omega),Int.toNat_natCast];exact h'⟩
   rcases h with ⟨q,c,hb,rfl⟩|⟨b,hb,h⟩
   ·exact ⟨(fun f e=>by cases e),(fun f e=>by cases e),fun q' c' e=>by injection e with e1 e2;subst e1 e2;exact .inl (mk _ (.bad (fresh_skip hb)))⟩
   ·have hsk:=fresh_skip hb
    have hbf:=betw_far hb g2
    by_cases hst:isB s b.2.2 42=true
    ·have hx:∃ x r,nodeP s n col' deep p (.ok (x,r))∧r.at'=b.2.2:=by
      refine ⟨.mk (voidH A T p) [],⟨b.1,b.2.1,E',b.2.2⟩,mk _ (.ok hsk ?_),rfl⟩
      have hbg:begP s b.2.2=false:=by
       have h1:=isB_lt hst
       unfold begP
       rw[isB_ne hst (by decide),isB_ne hst (by decide),isB_ne hst (by decide),isB_ne hst (by decide)]
       unfold begB
       rw[Int.toNat_natCast,h1.2]
       show (!(endsB s (b.2.2:Int))&&(!(U.indic 42)||(decide ((42:Nat)=45∨(42:Nat)=63∨(42:Nat)=58)&&_)))=false
       rw[show U.indic 42=true by decide,show decide ((42:Nat)=45∨(42:Nat)=63∨(42:Nat)=58)=false by decide,Bool.false_and,Bool.not_true,Bool.or_false,Bool.and_false]
      show if begP s b.2.2=true then _ else _
      rw[hbg,if_neg (by decide)]
     rcases h with ⟨q,c,h1,rfl⟩|⟨f,h1,_⟩
     ·unfold contR at h1
      rw[if_pos hst,if_pos rfl] at h1
      injection h1 with e1 e2
      subst e1 e2
      exact ⟨(fun f e=>by cases e),(fun f e=>by cases e),fun q' c' e=>by injection e with e1 e2;subst e1 e2;exact .inr ⟨rfl,hst,hx⟩⟩
     ·unfold contR at h1
      rw[if_pos hst,if_pos rfl] at h1
      cases h1
    ·have hst:isB s b.2.2 42=false:=by cases hh:isB s b.2.2 42 with|false=>rfl|true=>exact absurd hh hst
     rcases h with ⟨q,c,h1,rfl⟩|⟨f,h1,rfl⟩
     ·obtain ⟨k1,k2⟩:=(cont_to hcol h1 (fun _=>hst)).2.2 q c rfl
      refine ⟨(fun f e=>by cases e),(fun f e=>by cases e),fun q' c' e=>?_⟩
      injection e with e1 e2;subst e1 e2
      refine .inl (mk _ (.ok hsk ?_))
      show if begP s b.2.2=true then _ else _
      rw[k2 hst,if_pos rfl]
      exact .bad k1
     ·cases ha:f.any with
      | true=>
       obtain ⟨k1,k2⟩:=(cont_to hcol h1 (fun _=>hst)).1 f rfl ha
       rw[if_pos rfl]
       refine ⟨fun f' e _=>?_,(fun f' e h'=>by injection e with e;subst e;cases h'),fun q c e=>by cases e⟩
       injection e with e;subst e
       refine ⟨fresh f.fin,mk _ (.ok hsk ?_),.inl rfl⟩
       show if begP s b.2.2=true then _ else _
       rw[k2 hst,if_pos rfl]
       exact .ok k1 rfl
      | false=>
       obtain ⟨_,k2,_⟩:=(cont_to hcol h1 (fun _=>hst)).2.1 f rfl ha
       rw[if_neg (by decide),if_pos hE]
       refine ⟨fun f' e _=>?_,(fun f' e h'=>by injection e with e;subst e;cases h'),fun q c e=>by cases e⟩
       injection e with e;subst e
       refine ⟨⟨b.1,b.2.1,E',b.2.2⟩,mk _ (.ok hsk ?_),.inr ?_⟩
       ·show if begP s b.2.2=true then _ else _
        rw[k2,if_neg (by decide)]
       ·obtain ⟨L,S,E2,C2,hZ2,e2⟩:=hb
        split at e2
        ·rename_i hC2
         injection e2 with e2;subst e2 hC2
         exact ⟨L,S,E2,hZ2,rfl⟩
        ·cases e2
  ·obtain rfl:E'=p:=by omega
   obtain ⟨rfl,rfl⟩:=hZ.bare hp
   rw[if_neg hE,decide_eq_false hE] at h
   have mk:∀ o',contP s n col' deep E' o'→nodeP s n col' deep E' o':=fun o' h'=>⟨[],[],_,0,hZ,by rw[if_neg (fun e=>e rfl),if_pos rfl];exact h'⟩
   rcases h with ⟨q,c,hb,_⟩|⟨b,hb,h⟩
   ·cases hb
   ·injection hb with hb;subst hb
    rcases h with ⟨q,c,h1,rfl⟩|⟨f,h1,rfl⟩
    ·exact ⟨(fun f e=>by cases e),(fun f e=>by cases e),fun q' c' e=>by injection e with e1 e2;subst e1 e2;exact .inl (mk _ ((cont_to hcol h1 (fun e=>by cases e)).2.2 q c rfl).1)⟩
    ·cases ha:f.any with
     | true=>
      have hw:=(cont_ok hk h1 ha).2
      rw[if_pos rfl]
      refine ⟨fun f' e _=>?_,(fun f' e h'=>by injection e with e;subst e;cases h'),fun q c e=>by cases e⟩
      injection e with e;subst e
      refine ⟨fresh f.fin,mk _ ?_,.inl rfl⟩
      show contP s n col' deep E' (.ok (f.x.withProps [] [] E' [],fresh f.fin))
      rw[hw]
      exact ((cont_to hcol h1 (fun e=>by cases e)).1 f rfl ha).1
     | false=>
      rw[if_neg (by decide),if_neg hE]
      refine ⟨(fun f' e h'=>by injection e with e;subst e;cases h'),fun f' e _=>?_,fun q c e=>by cases e⟩
      injection e with e;subst e
      exact mk _ ((cont_to hcol h1 (fun e=>by cases e)).2.1 f rfl ha).1
 ·rw[if_pos hC] at h
  subst h
  exact ⟨(fun f e=>by cases e),(fun f e=>by cases e),fun q' c' e=>by injection e with e1 e2;subst e1 e2;exact .inl ⟨A,T,_,C,hZ,by rw[if_pos hC]⟩⟩
theorem some_to (hcol:∀ deep p o,p<s.size→col deep p o→col' deep p o) (hk:ColOK col) {deep p:Nat} {o:Rd Fd} (h:someR s n col deep p o) (hp:p≤s.size) :
  (∀ f,o=.ok f→∃ r,nodeP s n col' deep p (.ok (f.x,r))∧Aft s n f.fin r) ∧
  (∀ q c,o=.bad q c→nodeP s n col' deep p (.bad q c)∨(c=5∧isB s q 42=true∧∃ x r,nodeP s n col' deep p (.ok (x,r))∧r.at'=q)):=by
 rcases h with ⟨q,c,h1,rfl⟩|⟨f,h1,rfl⟩
 ·exact ⟨(fun f e=>by cases e),fun q' c' e=>by injection e with e1 e2;subst e1 e2;exact (node_to hcol hk h1 hp).2.2 q c rfl⟩
 ·cases ha:f.any with
  | true=>
   rw[if_pos rfl]
   exact ⟨(fun f' e=>by injection e with e;subst e;exact (node_to hcol hk h1 hp).1 f rfl ha),fun q c e=>by cases e⟩
  | false=>
   rw[if_neg (by decide)]
   exact ⟨(fun f' e=>by cases e),fun q c e=>by injection e with e1 e2;subst e1 e2;exact .inl ((node_to hcol hk h1 hp).2.1 f rfl ha)⟩
theorem void_skip {fin p:Nat} (h:NoteZ s true n (p:Int) [] false (p:Int) 0):skipP s n ⟨[],false,fin,p⟩ (.ok ⟨[],false,fin,p⟩):=stay_skip h (fun e=>by cases e)
theorem betw_stays {p:Nat} {b:Coms × Bool × Nat} (h:betwR s n p (.ok b)) (hp:p≤s.size):NoteZ s true n (b.2.2:Int) [] false (b.2.2:Int) 0∧(b.2.1=true→b.1≠[]):=by
 obtain ⟨L,S,E,C,hZ,e⟩:=h
 split at e
 ·rename_i hC
  injection e with e;subst e hC
  have hE:E=((E.toNat:Nat):Int):=by obtain ⟨e,he,_⟩:=hZ.far_le hp;omega
  refine ⟨?_,(hZ.facts hp).1⟩
  show NoteZ s true n ((E.toNat:Nat):Int) [] false ((E.toNat:Nat):Int) 0
  rw[←hE];exact hZ.stays hp
 ·cases e
theorem value_to (hcol:∀ deep p o,p<s.size→col deep p o→col' deep p o) (hc:GoesC s col) (hk:ColOK col) {lead:Coms} {deep p:Nat} {o:Rd (NT × Rst)} {key:NT} {r:Rst} (h:valueR s n col lead deep p o) (hp:p≤s.size) (hr:r.at'+1=p) (hl:r.l=lead) (hs:signB s r.at' (nearN key)=true) :
  (∀ v,o=.ok v→∃ r',valueP s n col' key deep r (.ok (v.1,r'))∧skipP s n r' (.ok v.2)) ∧
  (∀ q c,o=.bad q c→valueP s n col' key deep r (.bad q c)∨∃ x r',valueP s n col' key deep r (.ok (x,r'))∧End s n r' q c):=by
 subst hr hl
 have mk:∀ o',andR (skipP s n (fresh (r.at'+1))) (fun b o=>if lacksB s b.at'=true then o=.ok (voidN.withLead r.l,b) else
   andR (nodeP s n col' deep b.at') (fun c o=>o=.ok (c.1.withLead (r.l++b.l++c.1.h.lead),c.2)) o) o'→valueP s n col' key deep r o':=fun o' h'=>by unfold valueP;rw[if_pos hs];exact h'
 rcases h with ⟨q,c,hb,rfl⟩|⟨b,hb,h⟩
 ·exact ⟨(fun f e=>by cases e),fun q' c' e=>by injection e with e1 e2;subst e1 e2;exact .inl (mk _ (.bad (fresh_skip hb)))⟩
 ·have hsk:=fresh_skip hb
  have hbf:=betw_far hb hp
  obtain ⟨hst,hsm⟩:=betw_stays hb hp
  by_cases hla:lacksB s b.2.2=true
  ·rw[if_pos hla] at h
   subst h
   refine ⟨fun v e=>?_,fun q c e=>by cases e⟩
   injection e with e;subst e
   refine ⟨⟨b.1,b.2.1,r.at'+1,b.2.2⟩,mk _ (.ok hsk ?_),stay_skip hst hsm⟩
   show if lacksB s b.2.2=true then _ else _
   rw[if_pos hla]
  ·rw[if_neg hla] at h
   have go:∀ o',andR (nodeP s n col' deep b.2.2) (fun c o=>o=.ok (c.1.withLead (r.l++b.1++c.1.h.lead),c.2)) o'→valueP s n col' key deep r o':=fun o' h'=>mk _ (.ok hsk (by
    show if lacksB s b.2.2=true then _ else _
    rw[if_neg hla];exact h'))
   rcases h with ⟨q,c,h1,rfl⟩|⟨f,h1,h⟩
   ·refine ⟨(fun f e=>by cases e),fun q' c' e=>?_⟩
    injection e with e1 e2;subst e1 e2
    rcases (some_to hcol hk h1 hbf.2).2 q c rfl with h2|⟨rfl,h2,x,r',h3,h4⟩
    ·exact .inl (go _ (.bad h2))
    ·exact .inr ⟨_,r',go _ (.ok h3 rfl),end_star h2 h4⟩
   ·obtain ⟨r1,h2,ha⟩:=(some_to hcol hk h1 hbf.2).1 f rfl
    have hf:=some_far hc h1 hbf.2
    rcases h with ⟨q,c,h3,rfl⟩|⟨d,h3,rfl⟩
    ·refine ⟨(fun f e=>by cases e),fun q' c' e=>?_⟩
     injection e with e1 e2;subst e1 e2
     exact .inr ⟨_,r1,go _ (.ok h2 rfl),end_skip (aft_skip hf.2.1 ha h3)⟩
    ·refine ⟨fun v e=>?_,fun q c e=>by cases e⟩
     injection e with e;subst e
     exact ⟨r1,go _ (.ok h2 rfl),aft_skip hf.2.1 ha h3⟩
theorem behind_to (hcol:∀ deep p o,p<s.size→col deep p o→col' deep p o) (hc:GoesC s col) (hk:ColOK col) {f:Fd} {deep p:Nat} {o:Rd (NT × Rst)} {r0:Rst} (h:behindR s n col f deep p o) (ha:f.any=true) (hf:f.fin≤s.size) (hn:f.near=nearN f.x) (h0:Aft s n f.fin r0) :
  (∀ v,o=.ok v→∃ r r',skipP s n r0 (.ok r)∧valueP s n col' f.x deep r (.ok (v.1,r'))∧skipP s n r' (.ok v.2)) ∧
  (∀ q c,o=.bad q c→skipP s n r0 (.bad q c)∨∃ r,skipP s n r0 (.ok r)∧(valueP s n col' f.x deep r (.bad q c)∨∃ x r',valueP s n col' f.x deep r (.ok (x,r'))∧End s n r' q c)):=by
 unfold behindR at h
 rw[if_pos ha] at h
 rcases h with ⟨q,c,hb,rfl⟩|⟨b,hb,h⟩
 ·exact ⟨(fun f e=>by cases e),fun q' c' e=>by injection e with e1 e2;subst e1 e2;exact .inl (aft_skip hf h0 hb)⟩
 ·have hsk:=aft_skip hf h0 hb
  have hbf:=betw_far hb hf
  obtain ⟨hst,hsm⟩:=betw_stays hb hf
  split at h
  ·rename_i hs
   rw[hn] at hs
   have hlt:=sign_lt hs
   obtain ⟨k1,k2⟩:=value_to hcol hc hk (r:=⟨b.1,b.2.1,f.fin,b.2.2⟩) h hlt rfl rfl hs
   exact ⟨(fun v e=>by obtain ⟨r',h1,h2⟩:=k1 v e;exact ⟨_,r',hsk,h1,h2⟩),fun q c e=>.inr ⟨_,hsk,k2 q c e⟩⟩
  ·rename_i hs
   rw[hn] at hs
   subst h
   refine ⟨fun v e=>?_,fun q c e=>by cases e⟩
   injection e with e;subst e
   refine ⟨_,⟨b.1,b.2.1,f.fin,b.2.2⟩,hsk,?_,stay_skip hst hsm⟩
   unfold valueP
   rw[if_neg hs]
theorem behind_void (hcol:∀ deep p o,p<s.size→col deep p o→col' deep p o) (hc:GoesC s col) (hk:ColOK col) {f:Fd} {deep p:Nat} {o:Rd (NT × Rst)} (h:behindR s n col f deep p o) (ha:f.any=false) (hn:f.near=nearN voidN) (hst:NoteZ s true n (p:Int) [] false (p:Int) 0) :
  (∀ v,o=.ok v→∃ r',valueP s n col' voidN deep ⟨[],false,f.fin,p⟩ (.ok (v.1,r'))∧skipP s n r' (.ok v.2)) ∧
  (∀ q c,o=.bad q c→valueP s n col' voidN deep ⟨[],false,f.fin,p⟩ (.bad q c)∨∃ x r',valueP s n col' voidN deep ⟨[],false,f.fin,p⟩ (.ok (x,r'))∧End s n r' q c):=by
 unfold behindR at h
 rw[if_neg (by rw[ha];decide)] at h
 rcases h with ⟨q,c,hb,rfl⟩|⟨b,hb,h⟩
 ·cases hb
 ·injection hb with hb;subst hb
  split at h
  ·rename_i hs
   rw[hn] at hs
   have hlt:=sign_lt hs
   exact value_to hcol hc hk (r:=⟨[],false,f.fin,p⟩) h hlt rfl rfl hs
  ·rename_i hs
   rw[hn] at hs
   subst h
   refine ⟨fun v e=>?_,fun q c e=>by cases e⟩
   injection e with e;subst e
   refine ⟨⟨[],false,f.fin,p⟩,?_,void_skip hst⟩
   unfold valueP
   rw[if_neg hs]
def ERel {α:Type} (s:ByteArray) (n:Int) (P:Rd (Coms × List NT × Rst)→Prop) (good:α→Coms→List NT→Rst→Prop) (o:Rd α):Prop:=
 (∀ e,o=.ok e→∃ l ks r' rest,P (.ok (l,ks,r'))∧skipP s n r' (.ok rest)∧good e l ks rest) ∧
 (∀ q c,o=.bad q c→P (.bad q c)∨∃ l ks r',P (.ok (l,ks,r'))∧End s n r' q c)
theorem key_to (hcol:∀ deep p o,p<s.size→col deep p o→col' deep p o) (hc:GoesC s col) (hk:ColOK col) {lead:Coms} {deep p:Nat} {o:Rd (NT × NT × Rst)} (hp:p≤s.size)
  (h:andR (someR s n col deep p) (fun f=>andR (behindR s n col f deep f.fin) (fun v o=>o=.ok (f.x,v))) o) :
  ERel s n (keyP s n col' lead deep p) (fun e l ks rest=>l=lead∧ks=[e.1,e.2.1]∧rest=e.2.2) o:=by
 rcases h with ⟨q,c,h1,rfl⟩|⟨f,h1,h⟩
 ·refine ⟨(fun f e=>by cases e),fun q' c' e=>?_⟩
  injection e with e1 e2;subst e1 e2
  rcases (some_to hcol hk h1 hp).2 q c rfl with h2|⟨rfl,h2,x,r',h3,h4⟩
  ·exact .inl (.bad h2)
  ·obtain ⟨r2,h5,h6⟩:=star_skip (n:=n) (r:=r') (by rw[h4];exact h2)
   have hv:valueP s n col' x deep r2 (.ok (voidN,r2)):=by
    unfold valueP
    rw[if_neg]
    unfold signB
    rw[h6,h4,isB_ne h2 (by decide),Bool.false_and]
    decide
   exact .inr ⟨_,_,r2,.ok h3 (.ok h5 (.ok hv rfl)),end_star h2 (h6.trans h4)⟩
 ·obtain ⟨r0,h2,h0⟩:=(some_to hcol hk h1 hp).1 f rfl
  have hf:=some_far hc h1 hp
  have hok:=some_ok hc hk h1 hp
  rcases h with ⟨q,c,h3,rfl⟩|⟨v,h3,rfl⟩
  ·refine ⟨(fun f e=>by cases e),fun q' c' e=>?_⟩
   injection e with e1 e2;subst e1 e2
   rcases (behind_to hcol hc hk h3 hf.2.2 hf.2.1 hok.near h0).2 q c rfl with h4|⟨r,h4,h5|⟨x,r',h5,h6⟩⟩
   ·exact .inl (.ok h2 (.bad h4))
   ·exact .inl (.ok h2 (.ok h4 (.bad h5)))
   ·exact .inr ⟨_,_,r',.ok h2 (.ok h4 (.ok h5 rfl)),h6⟩
  ·refine ⟨fun e he=>?_,fun q c e=>by cases e⟩
   injection he with he;subst he
   obtain ⟨r,r',h4,h5,h6⟩:=(behind_to hcol hc hk h3 hf.2.2 hf.2.1 hok.near h0).1 v rfl
   exact ⟨_,_,r',v.2,.ok h2 (.ok h4 (.ok h5 rfl)),h6,rfl,rfl,rfl⟩
theorem field_to (hcol:∀ deep p o,p<s.size→col deep p o→col' deep p o) (hc:GoesC s col) (hk:ColOK col) {lead:Coms} {deep p:Nat} {o:Rd (Coms × NT × NT × Rst)} (hp:p<s.size)
  (h:andR (if queryB s p=true then askedR s n col deep p else if signB s p false=true then fun o=>o=.ok ([],⟨voidN,false,false,false,p⟩,p) else andR (someR s n col deep p) (fun f o=>o=.ok ([],f,f.fin)))
   (fun a=>andR (behindR s n col a.2.1 deep a.2.2) (fun v o=>o=.ok (a.1,a.2.1.x,v))) o) :
  ERel s n (fieldP s n col' lead deep p) (fun e l ks rest=>l=lead++e.1∧ks=[e.2.1,e.2.2.1]∧rest=e.2.2.2) o:=by
 by_cases hq:queryB s p=true
 ·rw[if_pos hq] at h
  have mk:∀ o',andR (skipP s n (fresh (p+1))) (fun b o=>
   if signB s b.at' false=true∨lacksB s b.at'=true then andR (valueP s n col' voidN deep ⟨[],false,p+1,b.at'⟩) (fun v o=>o=.ok (lead++b.l,[voidN,v.1],v.2)) o
   else keyP s n col' (lead++b.l) deep b.at' o) o'→fieldP s n col' lead deep p o':=fun o' h'=>by unfold fieldP;rw[if_pos hq];exact h'
  rcases h with ⟨q,c,h1,rfl⟩|⟨a,h1,h2⟩
  ·rcases h1 with ⟨q',c',hb,e⟩|⟨b,hb,h1⟩
   ·injection e with e1 e2;subst e1 e2
    exact ⟨(fun f e=>by cases e),fun q' c' e=>by injection e with e1 e2;subst e1 e2;exact .inl (mk _ (.bad (fresh_skip hb)))⟩
   ·have hsk:=fresh_skip hb
    have hbf:=betw_far hb hp
    split at h1
    ·cases h1
    ·rename_i hno
     have go:∀ o',keyP s n col' (lead++b.1) deep b.2.2 o'→fieldP s n col' lead deep p o':=fun o' h'=>mk _ (.ok hsk (by
      show if signB s b.2.2 false=true∨lacksB s b.2.2=true then _ else _
      rw[if_neg (fun e=>hno (Or.comm.1 e))];exact h'))
     rcases h1 with ⟨q',c',h3,e⟩|⟨f,h3,e⟩
     ·injection e with e1 e2;subst e1 e2
      have hb2:=key_to (o:=(.bad q c:Rd (NT × NT × Rst))) hcol hc hk (lead:=lead++b.1) hbf.2 (.bad h3)
      refine ⟨(fun f e=>by cases e),fun q' c' e=>?_⟩
      injection e with e1 e2;subst e1 e2
      rcases hb2.2 q c rfl with h4|⟨l,ks,r',h4,h5⟩
      ·exact .inl (go _ h4)
      ·exact .inr ⟨l,ks,r',go _ h4,h5⟩
     ·cases e
  ·rcases h1 with ⟨q',c',hb,e⟩|⟨b,hb,h1⟩
   ·cases e
   ·have hsk:=fresh_skip hb
    have hbf:=betw_far hb hp
    obtain ⟨hst,_⟩:=betw_stays hb hp
    split at h1
    ·rename_i hyes
     injection h1 with h1;subst h1
     have go:∀ o',andR (valueP s n col' voidN deep ⟨[],false,p+1,b.2.2⟩) (fun v o=>o=.ok (lead++b.1,[voidN,v.1],v.2)) o'→fieldP s n col' lead deep p o':=fun o' h'=>mk _ (.ok hsk (by
      show if signB s b.2.2 false=true∨lacksB s b.2.2=true then _ else _
      rw[if_pos (Or.comm.1 hyes)];exact h'))
     rcases h2 with ⟨q,c,h3,rfl⟩|⟨v,h3,rfl⟩
     ·refine ⟨(fun f e=>by cases e),fun q' c' e=>?_⟩
      injection e with e1 e2;subst e1 e2
      rcases (behind_void hcol hc hk h3 rfl rfl hst).2 q c rfl with h4|⟨x,r',h4,h5⟩
      ·exact .inl (go _ (.bad h4))
      ·exact .inr ⟨_,_,r',go _ (.ok h4 rfl),h5⟩
     ·refine ⟨fun e he=>?_,fun q c e=>by cases e⟩
      injection he with he;subst he
      obtain ⟨r',h4,h5⟩:=(behind_void hcol hc hk h3 rfl rfl hst).1 v rfl
      exact ⟨_,_,r',v.2,go _ (.ok h4 rfl),h5,rfl,rfl,rfl⟩
    ·rename_i hno
     have go:∀ o',keyP s n col' (lead++b.1) deep b.2.2 o'→fieldP s n col' lead deep p o':=fun o' h'=>mk _ (.ok hsk (by
      show if signB s b.2.2 false=true∨lacksB s b.2.2=true then _ else _
      rw[if_neg (fun e=>hno (Or.comm.1 e))];exact h'))
     rcases h1 with ⟨q',c',h3,e⟩|⟨f,h3,e⟩
     ·cases e
     ·injection e with e;subst e
      rcases h2 with ⟨q,c,h4,rfl⟩|⟨v,h4,rfl⟩
      ·have hb2:=key_to (o:=(.bad q c:Rd (NT × NT × Rst))) hcol hc hk (lead:=lead++b.1) hbf.2 (.ok h3 (.bad h4))
       refine ⟨(fun f e=>by cases e),fun q' c' e=>?_⟩
       injection e with e1 e2;subst e1 e2
       rcases hb2.2 q c rfl with h5|⟨l,ks,r',h5,h6⟩
       ·exact .inl (go _ h5)
       ·exact .inr ⟨l,ks,r',go _ h5,h6⟩
      ·have hb2:=key_to (o:=(.ok (f.x,v):Rd (NT × NT × Rst))) hcol hc hk (lead:=lead++b.1) hbf.2 (.ok h3 (.ok h4 rfl))
       refine ⟨fun e he=>?_,fun q c e=>by cases e⟩
       injection he with he;subst he
       obtain ⟨l,ks,r',rest,h5,h6,rfl,rfl,rfl⟩:=hb2.1 _ rfl
       exact ⟨_,_,r',_,go _ h5,h6,rfl,rfl,rfl⟩
 ·rw[if_neg hq] at h
  by_cases hs:signB s p false=true
  ·rw[if_pos hs] at h
   have go:∀ o',andR (valueP s n col' voidN deep (fresh p)) (fun v o=>o=.ok (lead,[voidN,v.1],v.2)) o'→fieldP s n col' lead deep p o':=fun o' h'=>by unfold fieldP;rw[if_neg hq,if_pos hs];exact h'
   have hst:NoteZ s true n (p:Int) [] false (p:Int) 0:=by
    unfold signB at hs
    rw[Bool.and_eq_true] at hs
    have h1:=isB_lt hs.1
    exact note_stays (Nat.le_of_lt h1.1) fun _=>⟨by rw[h1.2];decide,by rw[h1.2];decide,ntB_not (by rw[h1.2];decide)⟩
   rcases h with ⟨q,c,h1,rfl⟩|⟨a,h1,h2⟩
   ·cases h1
   ·injection h1 with h1;subst h1
    rcases h2 with ⟨q,c,h3,rfl⟩|⟨v,h3,rfl⟩
    ·refine ⟨(fun f e=>by cases e),fun q' c' e=>?_⟩
     injection e with e1 e2;subst e1 e2
     rcases (behind_void hcol hc hk h3 rfl rfl hst).2 q c rfl with h4|⟨x,r',h4,h5⟩
     ·exact .inl (go _ (.bad h4))
     ·exact .inr ⟨_,_,r',go _ (.ok h4 rfl),h5⟩
    ·refine ⟨fun e he=>?_,fun q c e=>by cases e⟩
     injection he with he;subst he
     obtain ⟨r',h4,h5⟩:=(behind_void hcol hc hk h3 rfl rfl hst).1 v rfl
     exact ⟨_,_,r',v.2,go _ (.ok h4 rfl),h5,(List.append_nil _).symm,rfl,rfl⟩
  ·rw[if_neg hs] at h
   have go:∀ o',keyP s n col' lead deep p o'→fieldP s n col' lead deep p o':=fun o' h'=>by unfold fieldP;rw[if_neg hq,if_neg hs];exact h'
   have hpl:p≤s.size:=Nat.le_of_lt hp
   rcases h with ⟨q,c,h1,rfl⟩|⟨a,h1,h2⟩
   ·rcases h1 with ⟨q',c',h3,e⟩|⟨f,h3,e⟩
    ·injection e with e1 e2;subst e1 e2
     have hb2:=key_to (o:=(.bad q c:Rd (NT × NT × Rst))) hcol hc hk (lead:=lead) hpl (.bad h3)
     refine ⟨(fun f e=>by cases e),fun q' c' e=>?_⟩
     injection e with e1 e2;subst e1 e2
     rcases hb2.2 q c rfl with h4|⟨l,ks,r',h4,h5⟩
     ·exact .inl (go _ h4)
     ·exact .inr ⟨l,ks,r',go _ h4,h5⟩
    ·cases e
   ·rcases h1 with ⟨q',c',h3,e⟩|⟨f,h3,e⟩
    ·cases e
    ·injection e with e;subst e
     rcases h2 with ⟨q,c,h4,rfl⟩|⟨v,h4,rfl⟩
     ·have hb2:=key_to (o:=(.bad q c:Rd (NT × NT × Rst))) hcol hc hk (lead:=lead) hpl (.ok h3 (.bad h4))
      refine ⟨(fun f e=>by cases e),fun q' c' e=>?_⟩
      injection e with e1 e2;subst e1 e2
      rcases hb2.2 q c rfl with h5|⟨l,ks,r',h5,h6⟩
      ·exact .inl (go _ h5)
      ·exact .inr ⟨l,ks,r',go _ h5,h6⟩
     ·have hb2:=key_to (o:=(.ok (f.x,v):Rd (NT × NT × Rst))) hcol hc hk (lead:=lead) hpl (.ok h3 (.ok h4 rfl))
      refine ⟨fun e he=>?_,fun q c e=>by cases e⟩
      injection he with he;subst he
      obtain ⟨l,ks,r',rest,h5,h6,rfl,rfl,rfl⟩:=hb2.1 _ rfl
      exact ⟨_,_,r',_,go _ h5,h6,(List.append_nil _).symm,rfl,rfl⟩
theorem NZ.toSign {s:ByteArray} {n:Int} {a:Nat} {sm:Bool} {L:List (List UInt8 × Nat)} {S:Bool} {E:Nat} {C:Int} {p:Nat} {m f:Bool} {o:List (List UInt8 × Nat)} {b:Bool}
  (h:NZ s true n a sm L S E C p m f o b):C=0→p≤s.size→isB s E 58=true→sameRow s p E=true→L=o∧S=b∧∀ j,j<E→p≤j→U.white (byt s j:Int)=true:=by
 induction h with
 | over h1 h2 h3 h4 h5=>intro _ _ _ _;exact ⟨h2,h3,fun j j1 j2=>by omega⟩
 | mark h1 h2 h3 h4 h5 h6 h7 h8 h9=>intro _ _ _ _;exact ⟨h6,h7,fun j j1 j2=>by omega⟩
 | markX h1 h2 h3 h4 h5 h6 h7 h8 h9 h10=>intro hC;rw[h10] at hC;cases hC
 | tab h1 h2 h3 h4 h5=>cases h5
 | far h1 h2 h3 h4 h5 h6 h7 h8 h9 h10 h11 h12=>intro hC;rw[h12] at hC;cases hC
 | met h1 h2 h3 h4 h5 h6 h7 h8 h9 ih=>exact ih
 | @white p f o b h1 h2 h3 ih=>
  intro hC hp hb hr
  have h4:=(h3.far_le (by omega)).1
  rw[row_step (a:=p) (c:=E) (by omega) (fun e=>by rw[e] at h2;exact absurd h2 (by decide))] at hr
  obtain ⟨k1,k2,k3⟩:=ih hC (by omega) hb hr
  refine ⟨k1,k2,fun j j1 j2=>?_⟩
  by_cases hj:j=p
  ·rw[hj];exact h2
  ·exact k3 j j1 (by omega)
 | @lf p f o b h1 h2 h3 ih=>
  intro hC hp hb hr
  have h4:=(h3.far_le (by omega)).1
  rw[row_lf (s:=s) (a:=p) (j:=p) (c:=E) (by omega) (by omega) h2] at hr
  cases hr
 | @com p t e k d f o b h1 h2 h3 h4 h5 h6 ih=>
  intro hC hp hb hr
  have h7:=(h6.far_le h3.2.1).1
  have h8:=isB_lt hb
  have h9:=h3.1
  rcases h3.2.2.2 with e1|e1
  ·omega
  ·by_cases hte:t=E
   ·rw[hte,h8.2] at e1;cases e1
   ·rw[row_lf (s:=s) (a:=p) (j:=t) (c:=E) h9 (by omega) e1] at hr
    cases hr
 | stop h1 h2 h3 h4 h5 h6 h7 h8=>intro _ _ _ _;exact ⟨h5,h6,fun j j1 j2=>by omega⟩
theorem NZ.ofSign {s:ByteArray} {n:Int} {a:Nat} {sm:Bool} {q:Nat} (hb:isB s q 58=true):∀ (g p:Nat),p+g=q→(∀ j,j<q→p≤j→U.white (byt s j:Int)=true)→∀ f o b,NZ s true n a sm o b q 0 p false f o b:=by
 intro g
 induction g with
 | zero=>
  intro p h _ f o b
  obtain rfl:p=q:=by omega
  have h1:=isB_lt hb
  exact .stop h1.1 (by rw[h1.2];decide) (by rw[h1.2];decide) (ntB_not (by rw[h1.2];decide)) rfl rfl rfl rfl
 | succ g ih=>
  intro p h hW f o b
  have h1:=isB_lt hb
  exact .white (by omega) (hW p (by omega) (Nat.le_refl _)) (ih (p+1) (by omega) (fun j h1 h2=>hW j h1 (by omega)) f o b)
theorem betw_sign {p fin t q:Nat} (h0:p<fin) (hr:sameRow s p fin=true) (_ht:RowE s fin t) (hq:FirN s fin t q) (hb:isB s q 58=true):betwR s n fin (.ok ([],false,q)):=by
 have hlt:=isB_lt hb
 have hfq:=hq.1
 have hfs:fin≤s.size:=by omega
 obtain ⟨r0,hr0⟩:=RowB.ex s fin
 have hne:¬ fin=r0:=by
  intro e
  have:=hr0.2.2
  rw[←e] at this
  rcases this with e1|e1
  ·omega
  ·exact sameRow_iff.1 hr (fin-1) (by omega) (by omega) e1
 refine ⟨[],false,(q:Int),0,⟨r0,q,by rw[clampN_nat hfs];exact hr0,rfl,?_⟩,by rw[if_pos rfl,Int.toNat_natCast]⟩
 rw[clampN_nat hfs,decide_eq_false hne]
 exact NZ.ofSign hb (q-fin) fin (by omega) hq.2.2.1 _ _ _
theorem betw_toSign {fin t q:Nat} {b:Coms × Bool × Nat} (h:betwR s n fin (.ok b)) (hf:fin≤s.size) (hb:isB s b.2.2 58=true) (hr:sameRow s fin b.2.2=true) (ht:RowE s fin t) (hq:FirN s fin t q):q=b.2.2:=by
 obtain ⟨L,S,E,C,hZ,e⟩:=h
 split at e
 ·rename_i hC
  injection e with e;subst e hC
  obtain ⟨r0,E',hr0,rfl,hN⟩:=hZ
  rw[clampN_nat hf] at hN
  simp only[Int.toNat_natCast] at hb hr ⊢
  have h1:=(hN.toSign rfl hf hb hr).2.2
  have h2:=(hN.far_le hf)
  have h3:=isB_lt hb
  have hEt:E'≤t:=by
   refine Decidable.byContradiction fun hc=>?_
   rcases ht.2.2.2 with e1|e1
   ·omega
   ·exact sameRow_iff.1 hr t (by omega) ht.1 e1
  exact hq.uniq ⟨h2.1,hEt,h1,.inr (by rw[h3.2];decide)⟩
 ·cases e
theorem item_to (hcol:∀ deep p o,p<s.size→col deep p o→col' deep p o) (hc:GoesC s col) (hk:ColOK col) {lead:Coms} {deep p:Nat} {o:Rd (List NT × Bool × Rst)} (hp:p<s.size) (h:itemR s n col lead deep p o) :
  ∃ k m,Abv s p k m∧ERel s n (itemP s n col' lead (deep+1) p) (fun e l ks rest=>e.1=nodesK true p m l ks∧e.2.1=decide (ks.length=2)∧e.2.2=rest∧(ks.length=1∨ks.length=2)) o:=by
 obtain ⟨k,m,hA,h⟩:=h
 refine ⟨k,m,hA,?_⟩
 have hpl:p≤s.size:=Nat.le_of_lt hp
 by_cases hq:queryB s p=true
 ·rw[if_pos hq] at h
  by_cases hd:40≤deep+1
  ·rw[if_pos hd] at h
   subst h
   exact ⟨(fun e he=>by cases he),fun q c e=>by injection e with e1 e2;subst e1 e2;exact .inl (by unfold itemP;rw[if_pos (.inl hq),if_pos hd])⟩
  ·rw[if_neg hd] at h
   have go:∀ o',fieldP s n col' lead (deep+2) p o'→itemP s n col' lead (deep+1) p o':=fun o' h'=>by unfold itemP;rw[if_pos (.inl hq),if_neg hd];exact h'
   rcases h with ⟨q,c,h1,rfl⟩|⟨a,h1,h2⟩
   ·have hb2:=field_to (o:=(.bad q c:Rd (Coms × NT × NT × Rst))) (deep:=deep+2) (lead:=lead) hcol hc hk hp (by rw[if_pos hq];exact .bad h1)
    refine ⟨(fun f e=>by cases e),fun q' c' e=>?_⟩
    injection e with e1 e2;subst e1 e2
    rcases hb2.2 q c rfl with h4|⟨l,ks,r',h4,h5⟩
    ·exact .inl (go _ h4)
    ·exact .inr ⟨l,ks,r',go _ h4,h5⟩
   ·rcases h2 with ⟨q,c,h3,rfl⟩|⟨v,h3,rfl⟩
    ·have hb2:=field_to (o:=(.bad q c:Rd (Coms × NT × NT × Rst))) (deep:=deep+2) (lead:=lead) hcol hc hk hp (by rw[if_pos hq];exact .ok h1 (.bad h3))
     refine ⟨(fun f e=>by cases e),fun q' c' e=>?_⟩
     injection e with e1 e2;subst e1 e2
     rcases hb2.2 q c rfl with h4|⟨l,ks,r',h4,h5⟩
     ·exact .inl (go _ h4)
     ·exact .inr ⟨l,ks,r',go _ h4,h5⟩
    ·have hb2:=field_to (o:=(.ok (a.1,a.2.1.x,v):Rd (Coms × NT × NT × Rst))) (deep:=deep+2) (lead:=lead) hcol hc hk hp (by rw[if_pos hq];exact .ok h1 (.ok h3 rfl))
     refine ⟨fun e he=>?_,fun q c e=>by cases e⟩
     injection he with he;subst he
     obtain ⟨l,ks,r',rest,h5,h6,rfl,rfl,rfl⟩:=hb2.1 _ rfl
     exact ⟨_,_,r',_,go _ h5,h6,rfl,rfl,rfl,.inr rfl⟩
 ·rw[if_neg hq] at h
  by_cases hs:signB s p false=true
  ·rw[if_pos hs] at h
   rcases h with ⟨q,c,h1,_⟩|⟨f,h1,h⟩
   ·cases h1
   ·injection h1 with h1;subst h1
    obtain ⟨t,q,ht,hqq,h⟩:=h
    have hb58:isB s p 58=true:=by unfold signB at hs;rw[Bool.and_eq_true] at hs;exact hs.1
    have hqp:q=p:=hqq.uniq ⟨Nat.le_refl _,ht.1,fun j j1 j2=>absurd j1 (Nat.not_lt.2 j2),.inr (by rw[(isB_lt hb58).2];decide)⟩
    subst hqp
    rw[if_pos (.inr rfl)] at h
    by_cases hd:40≤deep+1
    ·rw[if_pos (.inl hd)] at h
     subst h
     exact ⟨(fun e he=>by cases he),fun q c e=>by injection e with e1 e2;subst e1 e2;exact .inl (by unfold itemP;rw[if_pos (.inr hs),if_pos hd])⟩
    ·rw[if_neg (by rintro (e|⟨e,_⟩);exact hd e;exact absurd (show 0<voidN.ht from e) (by decide))] at h
     have go:∀ o',andR (valueP s n col' voidN (deep+2) (fresh q)) (fun v o=>o=.ok (lead,[voidN,v.1],v.2)) o'→itemP s n col' lead (deep+1) q o':=fun o' h'=>by
      unfold itemP fieldP
      rw[if_pos (.inr hs),if_neg hd,if_neg hq,if_pos hs];exact h'
     have hsn:signB s q (nearN voidN)=true:=hs
     rcases h with ⟨q',c,h3,rfl⟩|⟨v,h3,rfl⟩
     ·refine ⟨(fun f e=>by cases e),fun q2 c2 e=>?_⟩
      injection e with e1 e2;subst e1 e2
      rcases (value_to hcol hc hk (r:=fresh q) (key:=voidN) h3 hp rfl rfl hsn).2 q' c rfl with h4|⟨x,r',h4,h5⟩
      ·exact .inl (go _ (.bad h4))
      ·exact .inr ⟨_,_,r',go _ (.ok h4 rfl),h5⟩
     ·refine ⟨fun e he=>?_,fun q c e=>by cases e⟩
      injection he with he;subst he
      obtain ⟨r',h4,h5⟩:=(value_to hcol hc hk (r:=fresh q) (key:=voidN) h3 hp rfl rfl hsn).1 v rfl
      exact ⟨_,_,r',v.2,go _ (.ok h4 rfl),h5,rfl,rfl,rfl,.inr rfl⟩
  ·rw[if_neg hs] at h
   have go:∀ o',andR (nodeP s n col' (deep+1) p) (fun x=>andR (skipP s n x.2) (fun r o=>
     if signB s r.at' (nearN x.1)=true then
      (if sameRow s p r.at'=true then
       (if 40≤deep+1+x.1.htP then o=.bad p 6 else andR (valueP s n col' x.1 (deep+1+1) r) (fun v o=>o=.ok (lead,[x.1,v.1],v.2)) o)
       else o=.bad r.at' 5)
     else o=.ok (lead,[x.1],r))) o'→itemP s n col' lead (deep+1) p o':=fun o' h'=>by
    unfold itemP
    rw[if_neg (by rintro (e|e);exact hq e;exact hs e)]
    exact h'
   rcases h with ⟨q,c,h1,rfl⟩|⟨f,h1,h⟩
   ·refine ⟨(fun f e=>by cases e),fun q' c' e=>?_⟩
    injection e with e1 e2;subst e1 e2
    rcases (some_to hcol hk h1 hpl).2 q c rfl with h2|⟨rfl,h2,x,r',h3,h4⟩
    ·exact .inl (go _ (.bad h2))
    ·obtain ⟨r2,h5,h6⟩:=star_skip (n:=n) (r:=r') (by rw[h4];exact h2)
     refine .inr ⟨lead,[x],r2,go _ (.ok h3 (.ok h5 ?_)),end_star h2 (h6.trans h4)⟩
     show if signB s r2.at' (nearN x)=true then _ else _
     rw[if_neg]
     unfold signB
     rw[h6,h4,isB_ne h2 (by decide),Bool.false_and]
     decide
   ·obtain ⟨r0,h2,h0⟩:=(some_to hcol hk h1 hpl).1 f rfl
    have hf:=some_far hc h1 hpl
    have hok:=some_ok hc hk h1 hpl
    have hht:=wf_ht _ hok.wf
    obtain ⟨t,q,ht,hqq,h⟩:=h
    by_cases hcase:f.one=true∧signB s q f.near=true
    ·rw[if_pos (.inl hcase)] at h
     obtain ⟨hone,hsg⟩:=hcase
     rw[hok.one] at hone
     rw[hok.near] at hsg
     have hb58:isB s q 58=true:=by unfold signB at hsg;rw[Bool.and_eq_true] at hsg;exact hsg.1
     have hbt:=betw_sign (n:=n) hf.1 hone ht hqq hb58
     have hsk:skipP s n r0 (.ok ⟨[],false,f.fin,q⟩):=aft_skip hf.2.1 h0 hbt
     have hrow:sameRow s p q=true:=by
      rw[row_join (a:=p) (b:=f.fin) (c:=q) (Nat.le_of_lt hf.1) hqq.1,hone,Bool.true_and,sameRow_iff]
      intro j j1 j2
      have h9:=hqq.2.2.1 j j1 j2
      intro e;rw[e] at h9;exact absurd h9 (by decide)
     have go2:∀ o',(if 40≤deep+1+f.x.htP then o'=.bad p 6 else andR (valueP s n col' f.x (deep+1+1) ⟨[],false,f.fin,q⟩) (fun v o=>o=.ok (lead,[f.x,v.1],v.2)) o')→itemP s n col' lead (deep+1) p o':=fun o' h'=>go _ (.ok h2 (.ok hsk (by
      show if signB s q (nearN f.x)=true then (if sameRow s p q=true then _ else _) else _
      rw[if_pos hsg,if_pos hrow]
      exact h')))
     by_cases hd:40≤deep+1+f.x.htP
     ·rw[if_pos (by rw[←hht];by_cases hz:40≤deep+1;exact .inl hz;exact .inr ⟨by omega,hd⟩)] at h
      subst h
      exact ⟨(fun e he=>by cases he),fun q c e=>by injection e with e1 e2;subst e1 e2;exact .inl (go2 _ (by rw[if_pos hd]))⟩
     ·rw[if_neg (by rw[←hht];rintro (e|⟨_,e⟩);omega;exact hd e)] at h
      rcases h with ⟨q',c,h3,rfl⟩|⟨v,h3,rfl⟩
      ·refine ⟨(fun f e=>by cases e),fun q2 c2 e=>?_⟩
       injection e with e1 e2;subst e1 e2
       rcases (value_to hcol hc hk (r:=⟨[],false,f.fin,q⟩) (key:=f.x) h3 (sign_lt hsg) rfl rfl hsg).2 q' c rfl with h4|⟨x,r',h4,h5⟩
       ·exact .inl (go2 _ (by rw[if_neg hd];exact .bad h4))
       ·exact .inr ⟨_,_,r',go2 _ (by rw[if_neg hd];exact .ok h4 rfl),h5⟩
      ·refine ⟨fun e he=>?_,fun q c e=>by cases e⟩
       injection he with he;subst he
       obtain ⟨r',h4,h5⟩:=(value_to hcol hc hk (r:=⟨[],false,f.fin,q⟩) (key:=f.x) h3 (sign_lt hsg) rfl rfl hsg).1 v rfl
       exact ⟨_,_,r',v.2,go2 _ (by rw[if_neg hd];exact .ok h4 rfl),h5,rfl,rfl,rfl,.inr rfl⟩
    ·rw[if_neg (by rintro (e|e);exact hcase e;rw[hf.2.2] at e;cases e)] at h
     rcases h with ⟨q',c,hb,rfl⟩|⟨b,hb,h⟩
     ·exact ⟨(fun f e=>by cases e),fun q2 c2 e=>by injection e with e1 e2;subst e1 e2;exact .inl (go _ (.ok h2 (.bad (aft_skip hf.2.1 h0 hb))))⟩
     ·have hsk:=aft_skip hf.2.1 h0 hb
      have hbf:=betw_far hb hf.2.1
      obtain ⟨hst,hsm⟩:=betw_stays hb hf.2.1
      by_cases hsg:signB s b.2.2 f.near=true
      ·rw[if_pos hsg] at h
       subst h
       rw[hok.near] at hsg
       have hrow:¬ sameRow s p b.2.2=true:=by
        intro hr
        rw[row_join (a:=p) (b:=f.fin) (c:=b.2.2) (Nat.le_of_lt hf.1) hbf.1,Bool.and_eq_true] at hr
        have hb58:isB s b.2.2 58=true:=by unfold signB at hsg;rw[Bool.and_eq_true] at hsg;exact hsg.1
        have:=betw_toSign hb hf.2.1 hb58 hr.2 ht hqq
        exact hcase ⟨by rw[hok.one];exact hr.1,by rw[this,hok.near];exact hsg⟩
       refine ⟨(fun f e=>by cases e),fun q2 c2 e=>?_⟩
       injection e with e1 e2;subst e1 e2
       refine .inl (go _ (.ok h2 (.ok hsk ?_)))
       show if signB s b.2.2 (nearN f.x)=true then (if sameRow s p b.2.2=true then _ else _) else _
       rw[if_pos hsg,if_neg hrow]
      ·rw[if_neg hsg] at h
       subst h
       rw[hok.near] at hsg
       refine ⟨fun e he=>?_,fun q c e=>by cases e⟩
       injection he with he;subst he
       refine ⟨lead,[f.x],⟨b.1,b.2.1,f.fin,b.2.2⟩,⟨b.1,b.2.1,f.fin,b.2.2⟩,go _ (.ok h2 (.ok hsk ?_)),stay_skip hst hsm,rfl,rfl,rfl,.inl rfl⟩
       show if signB s b.2.2 (nearN f.x)=true then _ else _
       rw[if_neg hsg]
theorem entry_to (hcol:∀ deep p o,p<s.size→col deep p o→col' deep p o) (hc:GoesC s col) (hk:ColOK col) {lead:Coms} {deep p:Nat} {o:Rd (List NT × Bool × Rst)} (hp:p<s.size) (h:entryR s n col lead deep p o) :
  ∃ k m,Abv s p k m∧ERel s n (fieldP s n col' lead (deep+1) p) (fun e l ks rest=>e.1=nodesK false p m l ks∧e.2.1=false∧e.2.2=rest∧ks.length=2) o:=by
 obtain ⟨k,m,hA,h⟩:=h
 refine ⟨k,m,hA,?_⟩
 rcases h with ⟨q,c,h1,rfl⟩|⟨a,h1,h2⟩
 ·have hb2:=field_to (o:=(.bad q c:Rd (Coms × NT × NT × Rst))) (deep:=deep+1) (lead:=lead) hcol hc hk hp (.bad h1)
  exact ⟨(fun f e=>by cases e),fun q' c' e=>by injection e with e1 e2;subst e1 e2;exact hb2.2 q c rfl⟩
 ·rcases h2 with ⟨q,c,h3,rfl⟩|⟨v,h3,rfl⟩
  ·have hb2:=field_to (o:=(.bad q c:Rd (Coms × NT × NT × Rst))) (deep:=deep+1) (lead:=lead) hcol hc hk hp (.ok h1 (.bad h3))
   exact ⟨(fun f e=>by cases e),fun q' c' e=>by injection e with e1 e2;subst e1 e2;exact hb2.2 q c rfl⟩
  ·have hb2:=field_to (o:=(.ok (a.1,a.2.1.x,v):Rd (Coms × NT × NT × Rst))) (deep:=deep+1) (lead:=lead) hcol hc hk hp (.ok h1 (.ok h3 rfl))
   refine ⟨fun e he=>?_,fun q c e=>by cases e⟩
   injection he with he;subst he
   obtain ⟨l,ks,r',rest,h5,h6,rfl,rfl,rfl⟩:=hb2.1 _ rfl
   exact ⟨_,_,r',_,h5,h6,rfl,rfl,rfl,rfl⟩
theorem trail_nodes (seq:Bool) (p:Nat) (m:Int) (l:Coms) (ks:List NT) (b:Rst) (h:ks.length=1∨ks.length=2):trailed (seq&&decide (ks.length=2)) (nodesK seq p m l ks) b.l b.same=nodesK seq p m l (trailK b ks):=by
 obtain ⟨bl,bs,bf,ba⟩:=b
 cases bl with
 | nil=>rfl
 | cons c bl=>
  cases bs with
  | false=>rfl
  | true=>
   match ks,h with
   | [x],_=>cases seq <;> rfl
   | [k,v],_=>cases seq <;> rfl
   | [],h=>simp at h
   | x :: y :: z :: l,h=>simp at h
theorem step_of (hc:GoesC s col) {seq:Bool} {closing deep p:Nat} {lead:Coms} {o:Rd (List NT × Coms × Nat)} {k:Nat} {m:Nat} {o1:Rd (List NT × Bool × Rst)} (hcl:closing=93∨closing=125) (hp:p<s.size) (hA:Abv s p k m)
  (h1:if seq=true then itemR s n col lead deep p o1 else entryR s n col lead deep p o1)
  (hE:ERel s n (if seq=true then itemP s n col' lead (deep+1) p else fieldP s n col' lead (deep+1) p) (fun e l ks rest=>e.1=nodesK seq p m l ks∧e.2.1=(seq&&decide (ks.length=2))∧e.2.2=rest∧(ks.length=1∨ks.length=2)) o1)
  (h2:(∃ q c,o1=.bad q c∧o=.bad q c)∨∃ e,o1=.ok e∧(if isB s e.2.2.at' 44=true then
   andR (betwR s n (e.2.2.at'+1)) (fun b o=>∃ sm,sm=(if e.2.2.l=[] then b.2.1&&sameRow s e.2.2.fin e.2.2.at' else e.2.2.same) ∧
    o=.ok (trailed e.2.1 e.1 (e.2.2.l++b.1) sm,left (e.2.2.l++b.1) sm,b.2.2)) o
  else if isB s e.2.2.at' closing=true then o=.ok (trailed e.2.1 e.1 e.2.2.l e.2.2.same,left e.2.2.l e.2.2.same,e.2.2.at')
  else o=.bad e.2.2.at' 5)):stepP s n col' seq closing deep lead p o:=by
 rcases h2 with ⟨q,c,rfl,rfl⟩|⟨e,rfl,h2⟩
 ·rcases hE.2 q c rfl with h3|⟨l,ks,r',h3,h4⟩
  ·exact .bad h3
  ·exact .ok h3 (.bad (h4 closing hcl))
 ·obtain ⟨l,ks,r',rest,h3,h4,e1,e2,rfl,e4⟩:=hE.1 e rfl
  have hfar:e.2.2.fin≤e.2.2.at'∧e.2.2.at'≤s.size:=by
   split at h1
   ·exact (item_far hc h1 hp).2
   ·exact (entry_far hc h1 hp).2
  rw[e1,e2] at h2
  by_cases h44:isB s e.2.2.at' 44=true
  ·rw[if_pos h44] at h2
   have hncl:isB s e.2.2.at' closing=false:=isB_ne h44 (by omega)
   have hlt:=isB_lt h44
   have hrow:sameRow s e.2.2.fin (e.2.2.at'+1)=sameRow s e.2.2.fin e.2.2.at':=by
    rw[row_join (a:=e.2.2.fin) (b:=e.2.2.at') (c:=e.2.2.at'+1) hfar.1 (Nat.le_succ _),row_step (Nat.le_refl _) (by rw[hlt.2];decide),row_self,Bool.and_true]
   have go:∀ o',skipP s n ⟨e.2.2.l,e.2.2.same,e.2.2.fin,e.2.2.at'+1⟩ o'→behindP s n closing r' o':=fun o' h'=>.ok h4 (by
    rw[if_neg (by rw[hncl];decide),if_pos h44];exact h')
   rcases h2 with ⟨q,c,hb,rfl⟩|⟨b,hb,sm,hsm,rfl⟩
   ·obtain ⟨L,S,E,C,hZ,hb⟩:=hb
    split at hb
    ·cases hb
    ·rename_i hC
     injection hb with hb1 hb2
     exact .ok h3 (.bad (go _ ⟨L,S,E,C,hZ,by rw[if_neg hC,hb1,hb2]⟩))
   ·obtain ⟨L,S,E,C,hZ,hb⟩:=hb
    split at hb
    ·rename_i hC
     injection hb with hb;subst hb
     refine .ok h3 (.ok (go _ ⟨L,S,E,C,hZ,by rw[if_pos hC]⟩) ⟨k,m,hA,?_⟩)
     have hsm2:(if e.2.2.l.length=0 then S&&sameRow s e.2.2.fin (e.2.2.at'+1) else e.2.2.same)=sm:=by
      rw[hsm,hrow]
      by_cases hl:e.2.2.l=[]
      ·rw[if_pos (by rw[hl];rfl),if_pos hl]
      ·rw[if_neg hl,if_neg (fun h=>hl (List.eq_nil_of_length_eq_zero h))]
     have:=trail_nodes seq p m l ks ⟨e.2.2.l++L,sm,e.2.2.fin,E.toNat⟩ e4
     show _=Rd.ok (nodesK seq p m l (trailK ⟨e.2.2.l++L,if e.2.2.l.length=0 then S&&sameRow s e.2.2.fin (e.2.2.at'+1) else e.2.2.same,e.2.2.fin,E.toNat⟩ ks),left (e.2.2.l++L) (if e.2.2.l.length=0 then S&&sameRow s e.2.2.fin (e.2.2.at'+1) else e.2.2.same),E.toNat)
     rw[hsm2,←this]
    ·cases hb
  ·rw[if_neg h44] at h2
   by_cases hcl2:isB s e.2.2.at' closing=true
   ·rw[if_pos hcl2] at h2
    subst h2
    refine .ok h3 (.ok (.ok h4 (by rw[if_pos hcl2])) ⟨k,m,hA,?_⟩)
    rw[←trail_nodes seq p m l ks e.2.2 e4]
   ·rw[if_neg hcl2] at h2
    subst h2
    exact .ok h3 (.bad (.ok h4 (by rw[if_neg hcl2,if_neg h44])))
theorem step_to (hcol:∀ deep p o,p<s.size→col deep p o→col' deep p o) (hc:GoesC s col) (hk:ColOK col) {seq:Bool} {closing deep p:Nat} {lead:Coms} {o:Rd (List NT × Coms × Nat)} (hcl:closing=93∨closing=125) (hp:p<s.size) (h:stepR s n col seq closing deep lead p o):stepP s n col' seq closing deep lead p o:=by
 cases seq with
 | true=>
  have conv:∀ o1,itemR s n col lead deep p o1→∃ k m,Abv s p k m∧ERel s n (itemP s n col' lead (deep+1) p) (fun e l ks rest=>e.1=nodesK true p m l ks∧e.2.1=(true&&decide (ks.length=2))∧e.2.2=rest∧(ks.length=1∨ks.length=2)) o1:=fun o1 h1=>by
   simpa only [Bool.true_and] using item_to hcol hc hk hp h1
  unfold stepR at h
  rw[if_pos rfl] at h
  rcases h with ⟨q,c,h1,rfl⟩|⟨e,h1,h2⟩
  ·obtain ⟨k,m,hA,hE⟩:=conv _ h1
   exact step_of hc hcl hp hA (by rw[if_pos rfl];exact h1) (by rw[if_pos rfl];exact hE) (.inl ⟨q,c,rfl,rfl⟩)
  ·obtain ⟨k,m,hA,hE⟩:=conv _ h1
   exact step_of hc hcl hp hA (by rw[if_pos rfl];exact h1) (by rw[if_pos rfl];exact hE) (.inr ⟨e,rfl,h2⟩)
 | false=>
  have conv:∀ o1,entryR s n col lead deep p o1→∃ k m,Abv s p k m∧ERel s n (fieldP s n col' lead (deep+1) p) (fun e l ks rest=>e.1=nodesK false p m l ks∧e.2.1=(false&&decide (ks.length=2))∧e.2.2=rest∧(ks.length=1∨ks.length=2)) o1:=fun o1 h1=>by
   obtain ⟨k,m,hA,hE⟩:=entry_to hcol hc hk hp h1
   refine ⟨k,m,hA,fun e he=>?_,hE.2⟩
   obtain ⟨l,ks,r',rest,a1,a2,a3,a4,a5,a6⟩:=hE.1 e he
   exact ⟨l,ks,r',rest,a1,a2,a3,a4.trans (Bool.false_and _).symm,a5,.inr a6⟩
  unfold stepR at h
  rw[if_neg (by decide)] at h
  rcases h with ⟨q,c,h1,rfl⟩|⟨e,h1,h2⟩
  ·obtain ⟨k,m,hA,hE⟩:=conv _ h1
   exact step_of hc hcl hp hA (by rw[if_neg (by decide)];exact h1) (by rw[if_neg (by decide)];exact hE) (.inl ⟨q,c,rfl,rfl⟩)
  ·obtain ⟨k,m,hA,hE⟩:=conv _ h1
   exact step_of hc hcl hp hA (by rw[if_neg (by decide)];exact h1) (by rw[if_neg (by decide)];exact hE) (.inr ⟨e,rfl,h2⟩)
theorem node_none {deep p:Nat} (h:s.size≤p∨lacksB s p=true):nodeP s n col' deep p (.bad p 5)∧queryB s p=false∧signB s p false=false:=by
 have hb:∀ c,c≠44→c≠93→c≠125→isB s p c=false:=fun c h1 h2 h3=>by
  cases hh:isB s p c with
  | false=>rfl
  | true=>
   have g:=isB_lt hh
   rcases h with h|h
   ·omega
   ·unfold lacksB at h
    rw[Bool.or_eq_true,Bool.or_eq_true] at h
    rcases h with h|h|h <;> have:=isB_lt h <;> omega
 have hbeg:begB s (p:Int) true=false:=by
  cases hh:begB s (p:Int) true with
  | false=>rfl
  | true=>
   have g:=(beg_in hh).2
   rw[Int.toNat_natCast] at g
   rcases h with h|h
   ·omega
   ·have hy:byt s p=44∨byt s p=93∨byt s p=125:=by
     unfold lacksB at h
     rw[Bool.or_eq_true,Bool.or_eq_true] at h
     rcases h with h|h|h
     ·exact .inl (isB_lt h).2
     ·exact .inr (.inl (isB_lt h).2)
     ·exact .inr (.inr (isB_lt h).2)
    unfold begB at hh
    rw[Bool.and_eq_true,Int.toNat_natCast] at hh
    have:=hh.2
    rcases hy with e|e|e <;> rw[e] at this
    ·exact absurd this (by rw[show U.indic ((44:Nat):Int)=true by decide,show decide ((44:Nat)=45∨(44:Nat)=63∨(44:Nat)=58)=false by decide,Bool.false_and];decide)
    ·exact absurd this (by rw[show U.indic ((93:Nat):Int)=true by decide,show decide ((93:Nat)=45∨(93:Nat)=63∨(93:Nat)=58)=false by decide,Bool.false_and];decide)
    ·exact absurd this (by rw[show U.indic ((125:Nat):Int)=true by decide,show decide ((125:Nat)=45∨(125:Nat)=63∨(125:Nat)=58)=false by decide,Bool.false_and];decide)
 refine ⟨⟨[],[],(p:Int),0,.inl ⟨Int.natCast_nonneg p,p,rfl,?_⟩,?_⟩,?_,?_⟩
 ·rw[Int.toNat_natCast]
  refine .none ?_ rfl rfl rfl rfl
  rintro ⟨h1,h2|h2⟩
  ·have:=hb 38 (by decide) (by decide) (by decide)
   unfold isB at this
   rw[decide_eq_false_iff_not] at this
   exact this ⟨h1,h2⟩
  ·have:=hb 33 (by decide) (by decide) (by decide)
   unfold isB at this
   rw[decide_eq_false_iff_not] at this
   exact this ⟨h1,h2⟩
 ·rw[if_neg (fun e=>e rfl),if_pos rfl]
  obtain ⟨T,E,O,C,hZ,rfl,rfl⟩:=plain_none (n:=n) hbeg
  have nb:∀ c,c≠44→c≠93→c≠125→¬ isB s p c=true:=fun c h1 h2 h3=>by rw[hb c h1 h2 h3];decide
  rw[contP_plain (by rintro (e|e);exact nb 91 (by decide) (by decide) (by decide) e;exact nb 123 (by decide) (by decide) (by decide) e) (nb 42 (by decide) (by decide) (by decide)) (by rintro (e|e);exact nb 39 (by decide) (by decide) (by decide) e;exact nb 34 (by decide) (by decide) (by decide) e)]
  exact ⟨T,_,O,5,hZ,by rw[if_neg (by decide),Int.toNat_natCast]⟩
 ·unfold queryB;rw[hb 63 (by decide) (by decide) (by decide),Bool.false_and]
 ·unfold signB;rw[hb 58 (by decide) (by decide) (by decide),Bool.false_and]
theorem step_none {seq:Bool} {closing deep p:Nat} {lead:Coms} (h:s.size≤p∨lacksB s p=true):stepP s n col' seq closing deep lead p (.bad p 5):=by
 refine .bad ?_
 obtain ⟨h1,h2,h3⟩:=node_none (n:=n) (col':=col') (deep:=deep+1) h
 cases seq with
 | true=>
  rw[if_pos rfl]
  unfold itemP
  rw[if_neg (by rw[h2,h3];decide)]
  exact .bad h1
 | false=>
  rw[if_neg (by decide)]
  unfold fieldP
  rw[if_neg (by rw[h2];decide),if_neg (by rw[h3];decide)]
  exact .bad h1
theorem loop_to (hcol:∀ deep p o,p<s.size→col deep p o→col' deep p o) (hc:GoesC s col) (hk:ColOK col) {seq:Bool} {closing deep:Nat} {o:Rd (List NT × Coms × Nat)} (hcl:closing=93∨closing=125) {p:Nat} {lead:Coms} {kids:List NT} (h:LoopR s n col seq closing deep o p lead kids):p≤s.size→LoopP s n col' seq closing deep o p lead kids:=by
 induction h with
 | done h1 h2=>intro _;exact .done h1 h2
 | none h1 h2 h3=>intro _;exact .bad h1 (step_none h2) h3
 | bad h1 h2 h3 h4 h5=>intro _;exact .bad h1 (step_to hcol hc hk hcl h2 h4) h5
 | go h1 h2 h3 h4 h5 ih=>intro _;exact .go h1 (step_to hcol hc hk hcl h2 h4) (ih (step_far hc h4 h2).2)
theorem value_wf (hc:GoesC s col) (hk:ColOK col) {lead:Coms} {deep p:Nat} {v:NT × Rst} (h:valueR s n col lead deep p (.ok v)) (hp:p≤s.size):v.1.wf:=by
 rcases h with ⟨q,c,_,e⟩|⟨b,hb,h⟩
 ·cases e
 ·have h1:=betw_far hb hp
  split at h
  ·injection h with e;subst e;exact wf_sc _
  ·rcases h with ⟨q,c,_,e⟩|⟨f,hf,h⟩
   ·cases e
   ·have h2:=some_ok hc hk hf h1.2
    rcases h with ⟨q,c,_,e⟩|⟨b2,hb2,e⟩
    ·cases e
    ·injection e with e;subst e
     exact wf_head h2.wf rfl
theorem behind_wf (hc:GoesC s col) (hk:ColOK col) {f:Fd} {deep p:Nat} {v:NT × Rst} (h:behindR s n col f deep p (.ok v)):v.1.wf:=by
 rcases h with ⟨q,c,_,e⟩|⟨b,hb,h⟩
 ·cases e
 ·split at h
  ·rename_i hs
   have h1:=sign_lt hs
   exact value_wf hc hk h h1
  ·injection h with e;subst e;exact wf_sc _
theorem asked_wf (hc:GoesC s col) (hk:ColOK col) {deep p:Nat} {a:Coms × Fd × Nat} (h:askedR s n col deep p (.ok a)) (hp:p<s.size):a.2.1.x.wf:=by
 rcases h with ⟨q,c,_,e⟩|⟨b,hb,h⟩
 ·cases e
 ·have h1:=betw_far hb (by omega)
  split at h
  ·injection h with e;subst e;exact wf_sc _
  ·rcases h with ⟨q,c,_,e⟩|⟨f,hf,e⟩
   ·cases e
   ·injection e with e;subst e
    exact (some_ok hc hk hf h1.2).wf
theorem wfL_two {a b:NT} (ha:a.wf) (hb:b.wf):wfL [a,b]:=by unfold wfL wfL wfL;exact ⟨ha,hb,trivial⟩
theorem wf_pair {p:Nat} {m:Int} {l:Coms} {a b:NT} (ha:a.wf) (hb:b.wf):wfL [pairN p m l a b]:=by unfold wfL wfL;exact ⟨by unfold pairN NT.wf;exact ⟨.inr (.inl rfl),wfL_two ha hb⟩,trivial⟩
theorem item_wf (hc:GoesC s col) (hk:ColOK col) {lead:Coms} {deep p:Nat} {e:List NT × Bool × Rst} (h:itemR s n col lead deep p (.ok e)) (hp:p<s.size):wfL e.1∧(e.2.1=true→∃ hd k v,e.1=[.mk hd [k,v]]∧hd.kind=4):=by
 obtain ⟨k,m,_,h⟩:=h
 split at h
 ·split at h
  ·cases h
  ·rcases h with ⟨q,c,_,e⟩|⟨a,ha,h⟩
   ·cases e
   ·rcases h with ⟨q,c,_,e⟩|⟨v,hv,e⟩
    ·cases e
    ·injection e with e;subst e
     exact ⟨wf_pair (asked_wf hc hk ha hp) (behind_wf hc hk hv),fun _=>⟨_,_,_,rfl,rfl⟩⟩
 ·rcases h with ⟨q,c,_,e⟩|⟨f,hf,h⟩
  ·cases e
  ·have hf2:f.x.wf∧f.fin≤s.size:=by
    split at hf
    ·injection hf with hf;subst hf;exact ⟨wf_sc _,Nat.le_of_lt hp⟩
    ·exact ⟨(some_ok hc hk hf (Nat.le_of_lt hp)).wf,(some_far hc hf (Nat.le_of_lt hp)).2.1⟩
   obtain ⟨t,q,ht,hq,h⟩:=h
   split at h
   ·split at h
    ·cases h
    ·rcases h with ⟨q',c,_,e⟩|⟨v,hv,e⟩
     ·cases e
     ·injection e with e;subst e
      rename_i hcase _
      have hqs:q+1≤s.size:=by
       rcases hcase with h|h
       ·exact sign_lt h.2
       ·have q2:=hq.2.1
        have t2:=ht.2.1
        refine Decidable.byContradiction fun hcn=>?_
        split at hf
        ·rename_i hsg
         injection hf with hf
         subst hf
         have:=hq.2.2.1 p (by omega) (Nat.le_refl _)
         unfold signB at hsg
         rw[Bool.and_eq_true] at hsg
         rw[(isB_lt hsg.1).2] at this
         exact absurd this (by decide)
        ·rw[(some_far hc hf (Nat.le_of_lt hp)).2.2] at h;cases h
      exact ⟨wf_pair hf2.1 (value_wf hc hk hv hqs),fun _=>⟨_,_,_,rfl,rfl⟩⟩
   ·rcases h with ⟨q',c,_,e⟩|⟨b,hb,e⟩
    ·cases e
    ·split at e
     ·cases e
     ·injection e with e;subst e
      exact ⟨by unfold wfL wfL;exact ⟨wf_head hf2.1 rfl,trivial⟩,fun e=>by cases e⟩
theorem entry_wf (hc:GoesC s col) (hk:ColOK col) {lead:Coms} {deep p:Nat} {e:List NT × Bool × Rst} (h:entryR s n col lead deep p (.ok e)) (hp:p<s.size):wfL e.1∧e.2.1=false:=by
 obtain ⟨k,m,_,h⟩:=h
 rcases h with ⟨q,c,_,e⟩|⟨a,ha,h⟩
 ·cases e
 ·have h1:a.2.1.x.wf:=by
   split at ha
   ·exact asked_wf hc hk ha hp
   ·split at ha
    ·injection ha with ha;subst ha;exact wf_sc _
    ·rcases ha with ⟨q,c,_,e⟩|⟨f,hf,e⟩
     ·cases e
     ·injection e with e;subst e
      exact (some_ok hc hk hf (Nat.le_of_lt hp)).wf
  rcases h with ⟨q,c,_,e⟩|⟨v,hv,e⟩
  ·cases e
  ·injection e with e;subst e
   exact ⟨wfL_two (wf_head h1 rfl) (behind_wf hc hk hv),rfl⟩
theorem step_wf (hc:GoesC s col) (hk:ColOK col) {seq:Bool} {closing deep p:Nat} {lead:Coms} {r:List NT × Coms × Nat} (h:stepR s n col seq closing deep lead p (.ok r)) (hp:p<s.size):wfL r.1:=by
 rcases h with ⟨q,c,_,e⟩|⟨e,he,h⟩
 ·cases e
 ·have h1:wfL e.1∧(e.2.1=true→∃ hd k v,e.1=[.mk hd [k,v]]∧hd.kind=4):=by
   split at he
   ·exact item_wf hc hk he hp
   ·obtain ⟨g1,g2⟩:=entry_wf hc hk he hp
    exact ⟨g1,fun e=>by rw[g2] at e;cases e⟩
  split at h
  ·rcases h with ⟨q,c,_,e2⟩|⟨b,hb2,sm,_,e2⟩
   ·cases e2
   ·injection e2 with e2;subst e2;exact wfL_trailed _ _ _ _ h1.1 h1.2
  ·split at h
   ·injection h with e2;subst e2;exact wfL_trailed _ _ _ _ h1.1 h1.2
   ·cases h
theorem loop_wf (hc:GoesC s col) (hk:ColOK col) {seq:Bool} {closing deep:Nat} {o:Rd (List NT × Coms × Nat)} {p:Nat} {lead:Coms} {kids:List NT} (h:LoopR s n col seq closing deep o p lead kids):wfL kids→∀ r,o=.ok r→wfL r.1:=by
 induction h with
 | done h1 h2=>intro hw r hr;rw[h2] at hr;injection hr with hr;subst hr;exact hw
 | none h1 h2 h3=>intro _ r hr;rw[h3] at hr;cases hr
 | bad h1 h2 h3 h4 h5=>intro _ r hr;rw[h5] at hr;cases hr
 | go h1 h2 h3 h4 h5 ih=>intro hw r hr;exact ih (wfL_app _ _ hw (step_wf hc hk h4 h2)) r hr
end
theorem coll_ok (s:ByteArray) (n:Int):∀ g,ColOK (collR s n g):=by
 intro g
 induction g with
 | zero=>intro deep p r h;exact h.elim
 | succ g ih=>
  intro deep p r h
  rcases h with ⟨_,e⟩|⟨_,h⟩
  ·cases e
  ·rcases h with ⟨q,c,_,e⟩|⟨b,hb,h⟩
   ·cases e
   ·rcases h with ⟨q,c,_,e⟩|⟨x,hx,e⟩
    ·cases e
    ·injection e with e;subst e
     have hkd:(if isB s p 91=true then (3:Int) else 4)=3∨(if isB s p 91=true then (3:Int) else 4)=4:=by
      split
      ·exact .inl rfl
      ·exact .inr rfl
     refine ⟨rfl,?_,hkd⟩
     unfold NT.wf
     refine ⟨?_,loop_wf (coll_far s n g) ih hx (by unfold wfL;trivial) x rfl⟩
     rcases hkd with h|h
     ·exact .inl h
     ·exact .inr (.inl h)
theorem coll_to (s:ByteArray) (n:Int):∀ g deep p o,p<s.size→collR s n g deep p o→collP s n g deep p o:=by
 intro g
 induction g with
 | zero=>intro deep p o _ h;exact h.elim
 | succ g ih=>
  intro deep p o hp h
  rcases h with ⟨h1,h2⟩|⟨h1,h⟩
  ·exact .inl ⟨h1,h2⟩
  ·refine .inr ⟨h1,?_⟩
   have hcl:(if isB s p 91=true then (93:Nat) else 125)=93∨(if isB s p 91=true then (93:Nat) else 125)=125:=by
    split
    ·exact .inl rfl
    ·exact .inr rfl
   rcases h with ⟨q,c,hb,rfl⟩|⟨b,hb,h⟩
   ·exact .bad (fresh_skip hb)
   ·have hbf:=betw_far hb hp
    refine .ok (fresh_skip hb) ?_
    rcases h with ⟨q,c,hx,rfl⟩|⟨x,hx,rfl⟩
    ·exact .bad (loop_to ih (coll_far s n g) (coll_ok s n g) hcl hx hbf.2)
    ·exact .ok (loop_to ih (coll_far s n g) (coll_ok s n g) hcl hx hbf.2) rfl
end Go.Proofs.YtncngeamdechmaaGreatDoor
