/- Parts of the proof of FlowDeep, put together from smaller texts (blanks that Lean does not want are struck). Conditions: those that each theorem writes out. -/
import Derived.Test.YtncngeamdechmaaGreatDoorEFlowDeep0
import Derived.Test.YtncngeamdechmaaGreatDoorZ15
namespace Go.Proofs.YtncngeamdechmaaGreatDoor
open Go.RowKit
theorem PlaiG.none {s:ByteArray} {n:Int} {fl:Bool} {g e t k a b i p:Nat} {R:List (List UInt8)} {one:Bool} (ht:RowE s e t) (hf:FirN s e t t) (h1:t<s.size) (hk:Blk s (t+1) k a) (h2:a<s.size)
  (hb:RowE s a b) (hi:InN s a b i) (hp:FirN s a b p) (hq:kindN s a b p=5→ParN s fl p p) :
  PlaiG s n fl (U.flowT R) e one 0 (g+1) e R one:=by
 by_cases h3:kindN s a b p≠5∨(i:Int)≤n
 ·exact PlaiG.less ht hf h1 hk h2 hb hi hp h3
 ·have h5:kindN s a b p=5:=Decidable.byContradiction fun hc=>h3 (.inl hc)
  intro t' f' ht' hf'
  obtain rfl:=ht.uniq ht'
  obtain rfl:=hf.uniq hf'
  rw[if_neg (by omega)]
  intro k' a' hk'
  obtain ⟨rfl,rfl⟩:=hk.uniq hk'
  rw[if_neg (by omega)]
  intro b' i' p' hb' hi' hp'
  obtain rfl:=hb.uniq hb'
  obtain rfl:=hi.uniq hi'
  obtain rfl:=hp.uniq hp'
  rw[if_neg h3]
  intro q' hq'
  obtain rfl:=(hq h5).uniq hq'
  rw[if_pos rfl]
  exact ⟨rfl,rfl,rfl,rfl⟩
theorem fl_nat (b:UInt8):U.flow (b.toNat:Int)=decide (b=44∨b=91∨b=93∨b=123∨b=125):=by
 have:∀ n:Fin 256,U.flow (((UInt8.ofNat n.val).toNat:Nat):Int)=decide (UInt8.ofNat n.val=44∨UInt8.ofNat n.val=91∨UInt8.ofNat n.val=93∨UInt8.ofNat n.val=123∨UInt8.ofNat n.val=125):=by decide +kernel
 have h:=this ⟨b.toNat,UInt8.toNat_lt b⟩
 rwa [show UInt8.ofNat b.toNat=b from UInt8.ofNat_toNat] at h
theorem end_nat (b:UInt8):U.endc (b.toNat:Int)=decide (b=32∨b=9∨b=10):=by
 have:∀ n:Fin 256,U.endc (((UInt8.ofNat n.val).toNat:Nat):Int)=decide (UInt8.ofNat n.val=32∨UInt8.ofNat n.val=9∨UInt8.ofNat n.val=10):=by decide +kernel
 have h:=this ⟨b.toNat,UInt8.toNat_lt b⟩
 rwa [show UInt8.ofNat b.toNat=b from UInt8.ofNat_toNat] at h
def fitL (y:UInt8):Bool:=decide (y=32∨y=9∨y=10)||decide (y=44∨y=91∨y=93∨y=123∨y=125)
theorem fitL_is {s:ByteArray} {p:Nat} {y:UInt8} {l:List UInt8} (h:Pre s p (y :: l)):fitB s true p=fitL y:=by
 obtain ⟨h1,h2,_⟩:=h.cons
 unfold fitB endsB fitL
 rw[if_neg (by omega),Int.toNat_natCast,h2,end_nat,fl_nat,Bool.true_and]
def stopL (x:UInt8) (pv:Bool) (l:List UInt8):Option Bool:=
 if x=10∨(x=35∧pv=true)∨(x=44∨x=91∨x=93∨x=123∨x=125) then some true
 else if x=58 then (match l with | []=>none|y :: _=>some (fitL y)) else some false
theorem stopL_is {s:ByteArray} {p:Nat} {x:UInt8} {pv:Bool} {l:List UInt8} {r:Bool} (h:Pre s p (x :: l)) (hpv:pv=true↔(0<p∧U.white (byt s (p-1):Int)=true)) (hr:stopL x pv l=some r):stopB s true p=r:=by
 obtain ⟨h1,h2,h3⟩:=h.cons
 have e35:(decide (0<p)&&U.white (byt s (p-1):Int))=pv:=by
  cases pv with
  | true=>obtain ⟨k1,k2⟩:=hpv.1 rfl;rw[decide_eq_true k1,k2];rfl
  | false=>
   rw[Bool.and_eq_false_iff]
   by_cases hp:0<p
   ·right;cases hw:U.white (byt s (p-1):Int) with|false=>rfl|true=>exact absurd (hpv.2 ⟨hp,hw⟩) (by decide)
   ·left;exact decide_eq_false hp
 unfold stopB
 rw[e35,h2,fl_nat,Bool.true_and,Bool.true_and]
 have d10:decide (x.toNat=10)=decide (x=10):=decide_eq_decide.2 (u8_eq (by decide))
 have d35:decide (x.toNat=35)=decide (x=35):=decide_eq_decide.2 (u8_eq (by decide))
 have d58:decide (x.toNat=58)=decide (x=58):=decide_eq_decide.2 (u8_eq (by decide))
 rw[d10,d35,d58]
 unfold stopL at hr
 by_cases c:x=10∨(x=35∧pv=true)∨(x=44∨x=91∨x=93∨x=123∨x=125)
 ·rw[if_pos c] at hr
  injection hr with hr
  subst hr
  rcases c with c|c|c
  ·rw[decide_eq_true c];rfl
  ·rw[decide_eq_true c.1,c.2];simp
  ·rw[decide_eq_true c];simp
 ·rw[if_neg c] at hr
  have n1:¬ x=10:=fun e=>c (.inl e)
  have n2:(decide (x=35)&&pv)=false:=by
   rw[Bool.and_eq_false_iff]
   by_cases e:x=35
   ·right;cases pv with|false=>rfl|true=>exact absurd (.inr (.inl ⟨e,rfl⟩)) c
   ·left;exact decide_eq_false e
  have n3:¬ (x=44∨x=91∨x=93∨x=123∨x=125):=fun e=>c (.inr (.inr e))
  rw[decide_eq_false n1,n2,decide_eq_false n3]
  by_cases c2:x=58
  ·rw[if_pos c2] at hr
   cases l with
   | nil=>cases hr
   | cons y l'=>
    injection hr with hr
    have hf:=fitL_is h3
    unfold fitB at hf
    rw[Bool.true_and] at hf
    rw[show ((p:Int)+1)=((p+1:Nat):Int) by omega,hf,hr,decide_eq_true c2]
    simp
  ·rw[if_neg c2] at hr
   injection hr with hr
   rw[decide_eq_false c2,←hr]
   rfl
def stF:List UInt8→Bool→Option Nat
 | [],_=>none
 | x :: l,pv=>match stopL x pv l with
  | none=>none
  | some true=>some 0
  | some false=>(stF l (wsp x)).map (·+1)
theorem stF_is {s:ByteArray}:∀ {l:List UInt8} {p k:Nat} {pv:Bool},Pre s p l→(pv=true↔(0<p∧U.white (byt s (p-1):Int)=true))→stF l pv=some k→StpN s true p (p+k)∧p+k<s.size∧Pre s p (l.take k++l.drop k)∧k≤l.length
 | [],p,k,pv,h,hpv,hk=>by cases hk
 | x :: l,p,k,pv,h,hpv,hk=>by
  obtain ⟨h1,h2,h3⟩:=h.cons
  unfold stF at hk
  cases hs:stopL x pv l with
  | none=>rw[hs] at hk;cases hk
  | some r=>
   have hS:=stopL_is h hpv hs
   rw[hs] at hk
   cases r with
   | true=>
    injection hk with hk
    subst hk
    exact ⟨⟨Nat.le_refl _,by omega,fun j j1 j2=>by omega,.inr hS⟩,h1,h,Nat.zero_le _⟩
   | false=>
    dsimp only at hk
    cases hr:stF l (wsp x) with
    | none=>rw[hr] at hk;cases hk
    | some k'=>
     rw[hr] at hk
     injection hk with hk
     have hk:k'+1=k:=hk
     subst hk
     obtain ⟨i1,i2,i3,i4⟩:=stF_is (p:=p+1) h3 ⟨fun e=>⟨by omega,by show U.white (byt s p:Int)=true;rw[h2,wsp_white];exact e⟩,fun e=>by have:=e.2;rw[show p+1-1=p by omega,h2,wsp_white] at this;exact this⟩ hr
     refine ⟨⟨by omega,by omega,fun j j1 j2=>?_,?_⟩,by omega,by rw[List.take_append_drop];exact h,by rw[List.length_cons];omega⟩
     ·by_cases e:j=p
      ·rw[e];exact hS
      ·exact i1.2.2.1 j (by omega) (by omega)
     ·rw[show p+(k'+1)=p+1+k' by omega];exact i1.2.2.2
def rowF:Nat→List UInt8→Bool
 | 0,_=>false
 | g+1,r=>match r.dropWhile wsp with
  | []=>false
  | x :: r'=>if x=10 then rowF g r' else if x=35 then true else decide (stopL x false r'=some true)
theorem rowF_is {s:ByteArray}:∀ (g:Nat) {r:List UInt8} {a:Nat},Pre s a r→a≤s.size→rowF g r=true→∃ k c b i p,Blk s a k c∧c<s.size∧RowE s c b∧InN s c b i∧FirN s c b p∧(kindN s c b p=5→ParN s true p p)
 | 0,r,a,h,ha,hr=>by cases hr
 | g+1,r,a,h,ha,hr=>by
  unfold rowF at hr
  obtain ⟨w1,w2⟩:=pre_white h
  cases hd:r.dropWhile wsp with
  | nil=>rw[hd] at hr;cases hr
  | cons x r'=>
   rw[hd] at hr w2
   dsimp only at hr
   obtain ⟨x1,x2,x3⟩:=w2.cons
   have hxw:wsp x=false:=dw_head hd
   obtain ⟨p,hp⟩:∃ p,a+(r.takeWhile wsp).length=p:=⟨_,rfl⟩
   rw[hp] at w1 w2 x1 x2 x3
   have hap:a≤p:=by omega
   have hq:∀ j,j<p→a≤j→byt s j≠10:=fun j j1 j2 e=>by
    have:=w1 j j1 j2
    rw[e] at this
    cases this
   have hxn:U.white (byt s p:Int)=false:=by rw[x2,wsp_white];exact hxw
   by_cases h10:x=10
   ·rw[if_pos h10] at hr
    have hb10:byt s p=10:=by rw[x2,h10];rfl
    obtain ⟨k,c,b,i,q,i1,i2⟩:=rowF_is g x3 (by omega) hr
    exact ⟨k+1,c,b,i,q,.more (by omega) ⟨hap,by omega,hq,.inr hb10⟩ ⟨hap,Nat.le_refl _,w1,.inl rfl⟩ i1,i2⟩
   ·rw[if_neg h10] at hr
    obtain ⟨b,hb⟩:=RowE.ex s a ha
    have hpb:p<b:=by
     refine Decidable.byContradiction fun hc=>?_
     rcases hb.2.2.2 with e|e
     ·omega
     ·by_cases e2:b=p
      ·rw[e2,x2] at e;exact h10 ((u8_eq (by decide)).1 e)
      ·exact hq b (by omega) hb.1 e
    have hF:FirN s a b p:=⟨hap,by omega,w1,.inr hxn⟩
    obtain ⟨i,hi⟩:=InN.ex s a b hb.1
    refine ⟨0,a,b,i,p,.text (by omega) hb hF (by omega),by omega,hb,hi,hF,fun h5=>?_⟩
    by_cases h35:x=35
    ·exfalso
     have hb0:byt s p=35:=by rw[x2,h35];rfl
     have hk:kindN s a b p≠5:=by
      unfold kindN
      split
      ·decide
      ·split
       ·decide
       ·rw[if_neg (by omega)]
        first|(rw[if_pos hb0];decide)|decide
     exact hk h5
    ·rw[if_neg h35,decide_eq_true_eq] at hr
     have hS:stopB s true p=true:=by
      by_cases hz:0<p∧U.white (byt s (p-1):Int)=true
      ·have hr2:stopL x true r'=some true:=by
        unfold stopL at hr ⊢
        split at hr
        ·rename_i hc
         rw[if_pos]
         rcases hc with hc|hc|hc
         ·exact .inl hc
         ·cases hc.2
         ·exact .inr (.inr hc)
        ·split at hr
         ·rename_i hc hc2
          rw[if_neg (fun hcc=>by
           rcases hcc with hcc|hcc|hcc
           ·exact hc (.inl hcc)
           ·exact h35 hcc.1
           ·exact hc (.inr (.inr hcc))),if_pos hc2]
          exact hr
         ·cases hr
       exact stopL_is w2 ⟨fun _=>hz,fun _=>rfl⟩ hr2
      ·exact stopL_is w2 ⟨fun e=>(by cases e),fun e=>absurd e hz⟩ hr
     exact ⟨p,⟨Nat.le_refl _,by omega,fun j j1 j2=>by omega,.inr hS⟩,⟨Nat.le_refl _,Nat.le_refl _,fun j j1 j2=>by omega,.inl rfl⟩⟩
def aftF (l:List UInt8):Bool:=match l.dropWhile wsp with
 | []=>false
 | x :: r=>if x=10 then rowF (r.length+1) r else true
def begL:List UInt8→Bool
 | []=>false
 | x :: l=>!(decide (x=32∨x=9∨x=10))&&(!(U.indic (x.toNat:Int))||(decide (x=45∨x=63∨x=58)&&match l with | []=>false|y :: _=>!(fitL y)))
theorem begL_is {s:ByteArray} {p:Nat} {l:List UInt8} (h:Pre s p l) (hb:begL l=true):begB s (p:Int) true=true:=by
 cases l with
 | nil=>cases hb
 | cons x l=>
  obtain ⟨h1,h2,h3⟩:=h.cons
  unfold begL at hb
  rw[Bool.and_eq_true,Bool.or_eq_true] at hb
  obtain ⟨hb1,hb2⟩:=hb
  unfold begB
  rw[show endsB s (p:Int)=decide (x=32∨x=9∨x=10) by unfold endsB;rw[if_neg (by omega),Int.toNat_natCast,h2,end_nat],hb1,Bool.true_and,Int.toNat_natCast,h2,Bool.or_eq_true]
  rcases hb2 with hb2|hb2
  ·exact .inl hb2
  ·right
   rw[Bool.and_eq_true] at hb2
   obtain ⟨c1,c2⟩:=hb2
   have d:decide (x.toNat=45∨x.toNat=63∨x.toNat=58)=decide (x=45∨x=63∨x=58):=decide_eq_decide.2 (by rw[u8_eq (by decide),u8_eq (by decide),u8_eq (by decide)];exact Iff.rfl)
   rw[d,c1,Bool.true_and]
   cases l with
   | nil=>cases c2
   | cons y l'=>
    have hf:=fitL_is h3
    dsimp only at c2
    rw[←hf,Bool.not_eq_true'] at c2
    unfold fitB at c2
    rw[Bool.or_eq_false_iff] at c2
    rw[show ((p:Int)+1)=((p+1:Nat):Int) by omega,c2.1,c2.2]
    rfl
def plainF (l:List UInt8):Option Nat:=if begL l=true then (match stF l false with
 | none=>none
 | some k=>if aftF (l.drop (rtr (l.take k)).length)=true then some (rtr (l.take k)).length else none) else none
theorem begL_35 {x:UInt8} {l:List UInt8} (h:begL (x :: l)=true):x≠35:=by
 intro e
 subst e
 unfold begL at h
 dsimp only at h
 revert h
 have:U.indic ((35:UInt8).toNat:Int)=true:=by decide
 rw[this]
 simp
theorem stF_35 {x:UInt8} {l:List UInt8} (h:x≠35) (pv:Bool):stF (x :: l) pv=stF (x :: l) false:=by
 have:stopL x pv l=stopL x false l:=by
  unfold stopL
  have e:(x=10∨(x=35∧pv=true)∨(x=44∨x=91∨x=93∨x=123∨x=125))↔(x=10∨(x=35∧false=true)∨(x=44∨x=91∨x=93∨x=123∨x=125)):=by
   constructor
   ·intro hc;rcases hc with hc|hc|hc
    ·exact .inl hc
    ·exact absurd hc.1 h
    ·exact .inr (.inr hc)
   ·intro hc;rcases hc with hc|hc|hc
    ·exact .inl hc
    ·exact absurd hc.1 h
    ·exact .inr (.inr hc)
  by_cases c:(x=10∨(x=35∧pv=true)∨(x=44∨x=91∨x=93∨x=123∨x=125))
  ·rw[if_pos c,if_pos (e.1 c)]
  ·rw[if_neg c,if_neg (fun hc=>c (e.2 hc))]
 unfold stF
 rw[this]
theorem plain_of {s:ByteArray} {n:Int} {p k:Nat} {l:List UInt8} (hl:Pre s p l) (h:plainF l=some k):PlaiZ s (p:Int) n true (l.take k) ((p+k:Nat):Int) true 0∧begB s (p:Int) true=true:=by
 unfold plainF at h
 split at h
 ·rename_i hb
  have hB:=begL_is hl hb
  refine ⟨?_,hB⟩
  cases l with
  | nil=>cases hb
  | cons x l0=>
   have h35:=begL_35 hb
   obtain ⟨pv,hpv⟩:∃ pv:Bool,pv=true↔(0<p∧U.white (byt s (p-1):Int)=true):=⟨decide (0<p∧U.white (byt s (p-1):Int)=true),by rw[decide_eq_true_eq]⟩
   rw[←stF_35 h35 pv] at h
   cases hs:stF (x :: l0) pv with
   | none=>rw[hs] at h;cases h
   | some q=>
    rw[hs] at h
    dsimp only at h
    obtain ⟨s1,s2,s3,s4⟩:=stF_is hl hpv hs
    obtain ⟨w,e1,e2,e3⟩:=rtr_spec ((x :: l0).take q)
    obtain ⟨c,hc⟩:∃ c,(x :: l0).take q=c:=⟨_,rfl⟩
    have hcl:c.length=q:=by rw[←hc,List.length_take];omega
    rw[hc] at h s3 e1 e3
    split at h
    ·rename_i haf
     injection h with h
     obtain ⟨L,hL⟩:∃ L,x :: l0=L:=⟨_,rfl⟩
     rw[hL] at hl hc s3 haf s4 ⊢
     have hwl:c.length=k+w.length:=by rw[←h,←List.length_append,←e1]
     have hpc:Pre s p (rtr c++(w++L.drop q)):=by rw[←List.append_assoc,←e1];exact s3
     have hLe:L=rtr c++(w++L.drop q):=by rw[←List.append_assoc,←e1,←hc,List.take_append_drop]
     have hLk:L.take k=rtr c:=by rw[hLe,←h,List.take_left]
     have hLd:L.drop k=w++L.drop q:=by
      conv=>lhs;rw[hLe,←h,List.drop_left]
     have hPar:ParN s true p (p+k):=⟨p+q,s1,by omega,by omega,fun j j1 j2=>by
      have hb:=hpc.app.2.app.1.byte (j-(p+k)) (by omega)
      rw[h,show p+k+(j-(p+k))=j by omega] at hb
      rw[hb,wsp_white]
      refine e2 _ ?_
      simp only[List.getD]
      rw[List.getElem?_eq_getElem (by omega),Option.getD_some]
      exact List.getElem_mem _,by
      rcases e3 with e3|⟨y',t',e3,e4⟩
      ·left;rw[←h,e3];rfl
      ·right
       have hb:=hpc.app.1.byte t'.length (by rw[e3];simp)
       have hk:k=t'.length+1:=by rw[←h,e3,List.length_append];rfl
       rw[e3] at hb
       rw[hk,show p+(t'.length+1)-1=p+t'.length by omega,hb]
       have:(t'++[y']).getD t'.length 0=y':=by simp[List.getD]
       rw[this,wsp_white]
       exact e4⟩
     have hpk:p+k≤s.size:=by omega
     have hA:Pre s (p+k) (L.drop k):=by rw[hLd,←h];exact hpc.app.2
     refine PlaiZ.of hB hPar ?_
     have hpiece:pieceL s p (p+k)=L.take k:=by rw[hLk,←h];exact hpc.piece
     have hT:U.flowT [L.take k]=L.take k:=(congrArg (fun z=>L.take k++z) (U.flowGo_nil 0)).trans (List.append_nil _)
     rw[hpiece]
     refine Eq.mp (congrArg (fun T=>PlaiG s n true T (p+k) true 0 (s.size+1) (p+k) [L.take k] true) hT) ?_
     rw[h] at haf
     unfold aftF at haf
     obtain ⟨w1,w2⟩:=pre_white hA
     cases hd:(L.drop k).dropWhile wsp with
     | nil=>rw[hd] at haf;cases haf
     | cons y r=>
      rw[hd] at haf w2
      dsimp only at haf
      obtain ⟨f,hf⟩:∃ f,p+k+((L.drop k).takeWhile wsp).length=f:=⟨_,rfl⟩
      rw[hf] at w1 w2
      obtain ⟨y1,y2,y3⟩:=w2.cons
      have hyw:wsp y=false:=dw_head hd
      have hq:∀ j,j<f→p+k≤j→byt s j≠10:=fun j j1 j2 e=>by
       have:=w1 j j1 j2
       rw[e] at this
       cases this
      obtain ⟨t,ht⟩:=RowE.ex s (p+k) hpk
      have hft:f≤t:=by
       refine Decidable.byContradiction fun hcc=>?_
       rcases ht.2.2.2 with e|e
       ·omega
       ·exact hq t (by omega) ht.1 e
      have hF:FirN s (p+k) t f:=⟨by omega,hft,w1,.inr (by rw[y2,wsp_white];exact hyw)⟩
      by_cases h10:y=10
      ·rw[if_pos h10] at haf
       have hb10:byt s f=10:=by rw[y2,h10];rfl
       have htf:t=f:=by
        refine Decidable.byContradiction fun hcc=>?_
        exact ht.2.2.1 f (by omega) (by omega) hb10
       subst htf
       obtain ⟨k',c',b,i,p',i1,i2,i3,i4,i5,i6⟩:=rowF_is _ y3 (by omega) haf
       exact PlaiG.none ht hF y1 i1 i2 i3 i4 i5 i6
      ·refine PlaiG.stop ht hF (.inl ?_)
       refine Decidable.byContradiction fun hcc=>?_
       have e:t=f:=by omega
       rcases ht.2.2.2 with e2|e2
       ·omega
       ·rw[e,y2] at e2;exact h10 ((u8_eq (by decide)).1 e2)
    ·cases h
 ·cases h
end Go.Proofs.YtncngeamdechmaaGreatDoor
namespace Go.Proofs.YtncngeamdechmaaGreatDoor
open Go.RowKit
theorem isB_of {s:ByteArray} {p c:Nat} {x:UInt8} {l:List UInt8} (h:Pre s p (x :: l)):isB s p c=decide (x.toNat=c):=by
 obtain ⟨h1,h2,_⟩:=h.cons
 unfold isB
 rw[←h2]
 exact decide_eq_decide.2 ⟨fun e=>e.2,fun e=>⟨h1,e⟩⟩
theorem sign_of {s:ByteArray} {p:Nat} {near:Bool} {x:UInt8} {l:List UInt8} (h:Pre s p (x :: l)):(x≠58→signB s p near=false)∧(near=true→x=58→signB s p near=true)∧(∀ y t,l=y :: t→signB s p near=(decide (x=58)&&(near||fitL y))):=by
 have hx:=isB_of (c:=58) h
 have d:decide (x.toNat=58)=decide (x=58):=decide_eq_decide.2 (u8_eq (by decide))
 rw[d] at hx
 unfold signB
 rw[hx]
 refine ⟨fun e=>by rw[decide_eq_false e];rfl,fun e1 e2=>by rw[decide_eq_true e2,e1];rfl,fun y t e=>?_⟩
 subst e
 rw[fitL_is h.cons.2.2]
theorem query_of {s:ByteArray} {p:Nat} {x:UInt8} {l:List UInt8} (h:Pre s p (x :: l)) (hx:x≠63):queryB s p=false:=by
 unfold queryB
 rw[isB_of (c:=63) h,decide_eq_false (fun e=>hx ((u8_eq (by decide)).1 e))]
 rfl
theorem query_yes {s:ByteArray} {p:Nat} {y:UInt8} {l:List UInt8} (h:Pre s p (63 :: y :: l)) (hy:y=32∨y=9∨y=10):queryB s p=true:=by
 obtain ⟨h1,h2,h3⟩:=h.cons
 obtain ⟨g1,g2,_⟩:=h3.cons
 unfold queryB
 rw[isB_of (c:=63) h,show endsB s ((p+1:Nat):Int)=decide (y=32∨y=9∨y=10) by unfold endsB;rw[if_neg (by omega),Int.toNat_natCast,g2,end_nat],decide_eq_true hy]
 rfl
theorem lacks_of {s:ByteArray} {p:Nat} {x:UInt8} {l:List UInt8} (h:Pre s p (x :: l)):lacksB s p=decide (x=44∨x=93∨x=125):=by
 unfold lacksB
 rw[isB_of (c:=44) h,isB_of (c:=93) h,isB_of (c:=125) h]
 have d44:decide (x.toNat=44)=decide (x=44):=decide_eq_decide.2 (u8_eq (by decide))
 have d93:decide (x.toNat=93)=decide (x=93):=decide_eq_decide.2 (u8_eq (by decide))
 have d125:decide (x.toNat=125)=decide (x=125):=decide_eq_decide.2 (u8_eq (by decide))
 rw[d44,d93,d125]
 by_cases e1:x=44 <;> by_cases e2:x=93 <;> by_cases e3:x=125 <;> simp[e1,e2,e3]
theorem sameRow_self (s:ByteArray) (p:Nat):sameRow s p p=true:=by
 unfold sameRow
 exact decide_eq_true fun j h1 h2=>by omega
theorem prop_none {s:ByteArray} {p:Nat} {x:UInt8} {l:List UInt8} (h:Pre s p (x :: l)) (h1:x≠38) (h2:x≠33):PropZ s (p:Int) true [] [] (p:Int) 0:=by
 obtain ⟨g1,g2,_⟩:=h.cons
 refine .inl ⟨by omega,p,rfl,?_⟩
 rw[Int.toNat_natCast]
 refine .none ?_ rfl rfl rfl rfl
 rintro ⟨_,e|e⟩
 ·rw[g2] at e;exact h1 ((u8_eq (by decide)).1 e)
 ·rw[g2] at e;exact h2 ((u8_eq (by decide)).1 e)
section
variable {s:ByteArray} {n:Int} {col:Nat→Nat→Rd (NT × Nat)→Prop}
theorem node_of {deep p:Nat} {f:Fd} {x:UInt8} {l:List UInt8} (h:Pre s p (x :: l)) (h1:x≠38) (h2:x≠33) (hf:contR s n col deep p false (.ok f)) (ha:f.any=true):nodeR s n col deep p (.ok ⟨f.x.withProps [] [] p [],true,f.near,f.one,f.fin⟩):=by
 refine ⟨[],[],(p:Int),0,prop_none h h1 h2,?_⟩
 rw[if_neg (by decide),Int.toNat_natCast,if_neg (by omega)]
 refine .ok (x:=([],false,p)) rfl (.ok (x:=f) ?_ ?_)
 ·rw[decide_eq_false (by omega)];exact hf
 ·rw[if_pos ha,sameRow_self,Bool.and_true]
theorem some_of {deep p:Nat} {f:Fd} (h:nodeR s n col deep p (.ok f)) (ha:f.any=true):someR s n col deep p (.ok f):=.ok (x:=f) h (by rw[if_pos ha])
def leafN (st:Int) (p:Nat) (T:List UInt8):NT:=.mk ⟨1,st,p,0,[],[],T,[],[],false,[]⟩ []
theorem beg_first {x:UInt8} {l:List UInt8} (h:begL (x :: l)=true):x≠38∧x≠33∧x≠42∧x≠34∧x≠39∧x≠91∧x≠123:=by
 have key:∀ y:UInt8,(y=38∨y=33∨y=42∨y=34∨y=39∨y=91∨y=123)→begL (y :: l)=false:=by
  intro y hy
  unfold begL
  dsimp only
  have hi:U.indic (y.toNat:Int)=true:=by rcases hy with rfl|rfl|rfl|rfl|rfl|rfl|rfl <;> decide
  have hd:decide (y=45∨y=63∨y=58)=false:=by rcases hy with rfl|rfl|rfl|rfl|rfl|rfl|rfl <;> decide
  rw[hi,hd]
  simp
 refine ⟨?_,?_,?_,?_,?_,?_,?_⟩ <;> intro e <;> rw[key x (by simp[e])] at h <;> cases h
theorem node_plain {deep p k:Nat} {l:List UInt8} (h:Pre s p l) (hl:plainF l=some k):someR s n col deep p (.ok ⟨leafN 1 p (l.take k),true,false,true,p+k⟩):=by
 obtain ⟨h1,h2⟩:=plain_of (n:=n) h hl
 cases l with
 | nil=>cases hl
 | cons x l=>
  have hb:begL (x :: l)=true:=by
   unfold plainF at hl
   split at hl
   ·assumption
   ·cases hl
  obtain ⟨b1,b2,b3,b4,b5,b6,b7⟩:=beg_first hb
  refine some_of (node_of (f:=⟨leafN 1 p ((x :: l).take k),true,false,true,p+k⟩) h b1 b2 ?_ rfl) rfl
  unfold contR
  rw[isB_of (c:=42) h,isB_of (c:=34) h,isB_of (c:=39) h,isB_of (c:=91) h,isB_of (c:=123) h]
  rw[decide_eq_false (fun e=>b3 ((u8_eq (by decide)).1 e)),decide_eq_false (fun e=>b4 ((u8_eq (by decide)).1 e)),decide_eq_false (fun e=>b5 ((u8_eq (by decide)).1 e)),decide_eq_false (fun e=>b6 ((u8_eq (by decide)).1 e)),decide_eq_false (fun e=>b7 ((u8_eq (by decide)).1 e))]
  rw[if_neg (by decide),if_neg (by decide),if_neg (by decide),if_pos h2]
  exact ⟨_,_,_,_,h1,by rw[if_pos rfl,Int.toNat_natCast];rfl⟩
theorem node_coll {deep p:Nat} {x:UInt8} {l:List UInt8} {r:NT × Nat} (h:Pre s p (x :: l)) (hx:x=91∨x=123) (hc:col deep p (.ok r)):someR s n col deep p (.ok ⟨r.1.withProps [] [] p [],true,true,sameRow s p r.2,r.2⟩):=by
 refine some_of (node_of (f:=⟨r.1,true,true,sameRow s p r.2,r.2⟩) h (by rcases hx with rfl|rfl <;> decide) (by rcases hx with rfl|rfl <;> decide) ?_ rfl) rfl
 unfold contR
 rw[isB_of (c:=42) h,isB_of (c:=34) h,isB_of (c:=39) h,isB_of (c:=91) h,isB_of (c:=123) h]
 have e1:decide (x.toNat=42)=false:=by rcases hx with rfl|rfl <;> decide
 have e2:decide (x.toNat=34)=false:=by rcases hx with rfl|rfl <;> decide
 have e3:decide (x.toNat=39)=false:=by rcases hx with rfl|rfl <;> decide
 rw[e1,e2,e3,if_neg (by decide),if_neg (by decide),if_pos (by rcases hx with rfl|rfl <;> decide)]
 exact .ok (x:=r) hc rfl
theorem nosign_of {p:Nat} {l:List UInt8} {x:UInt8} {t:List UInt8} (h:Pre s p l) (hd:l.dropWhile wsp=x :: t) (hx:x≠58) (near:Bool):∀ b q,RowE s p b→FirN s p b q→signB s q near=false:=by
 intro b q hb hq
 obtain ⟨w1,w2⟩:=pre_white h
 rw[hd] at w2
 obtain ⟨x1,x2,_⟩:=w2.cons
 have hxw:wsp x=false:=dw_head hd
 have hq2:q≤p+(l.takeWhile wsp).length:=by
  refine Decidable.byContradiction fun hc=>?_
  have:=hq.2.2.1 (p+(l.takeWhile wsp).length) (by omega) (by omega)
  rw[x2,wsp_white,hxw] at this
  cases this
 unfold signB isB
 by_cases e:q=p+(l.takeWhile wsp).length
 ·rw[e,x2,decide_eq_false (fun e=>hx ((u8_eq (by decide)).1 e.2))];rfl
 ·have hw:=w1 q (by omega) hq.1
  rw[decide_eq_false (fun e=>by rw[e.2] at hw;exact absurd hw (by decide))]
  rfl
theorem item_of {lead:Coms} {deep p:Nat} {f:Fd} {L:Coms} {S:Bool} {q:Nat} {x:UInt8} {l l2:List UInt8} {y:UInt8} {t:List UInt8} (h:Pre s p (x :: l)) (hx:x≠63∧x≠58) (hf:someR s n col (deep+1) p (.ok f)) (ha:f.any=true) (hfin:f.fin≤s.size)
  (h2:Pre s f.fin l2) (hd:l2.dropWhile wsp=y :: t) (hy:y≠58) (hb:betwR s n f.fin (.ok (L,S,q))) (hq:signB s q f.near=false) :
  ∃ m:Nat,itemR s n col lead deep p (.ok ([f.x.withTop (lead++f.x.h.lead) m],false,⟨L,S,f.fin,q⟩)):=by
 obtain ⟨k,m,hk⟩:=Abv.ex s p
 refine ⟨m,k,m,hk,?_⟩
 rw[query_of h hx.1,if_neg (by decide)]
 refine .ok (x:=f) ?_ ?_
 ·rw[(sign_of h).1 hx.2,if_neg (by decide)];exact hf
 ·obtain ⟨b,hb1⟩:=RowE.ex s f.fin hfin
  obtain ⟨r,hr⟩:=FirN.ex s f.fin b hb1.1
  refine ⟨b,r,hb1,hr,?_⟩
  rw[if_neg (by rw[nosign_of h2 hd hy f.near b r hb1 hr,ha];simp)]
  exact .ok (x:=(L,S,q)) hb (by dsimp only;rw[hq,if_neg (by decide)])
theorem step_comma {seq:Bool} {closing deep p:Nat} {lead:Coms} {e:List NT × Bool × Rst} (h:if seq=true then itemR s n col lead deep p (.ok e) else entryR s n col lead deep p (.ok e)) {l:List UInt8} (hc:Pre s e.2.2.at' (44 :: l)) {L:Coms} {S:Bool} {q:Nat} (hb:betwR s n (e.2.2.at'+1) (.ok (L,S,q))) :
  ∃ sm,(sm=(if e.2.2.l=[] then S&&sameRow s e.2.2.fin e.2.2.at' else e.2.2.same))∧stepR s n col seq closing deep lead p (.ok (trailed e.2.1 e.1 (e.2.2.l++L) sm,left (e.2.2.l++L) sm,q)):=by
 refine ⟨_,rfl,.ok (x:=e) ?_ ?_⟩
 ·cases seq <;> exact h
 ·rw[isB_of (c:=44) hc,if_pos (by decide)]
  exact .ok (x:=(L,S,q)) hb ⟨_,rfl,rfl⟩
theorem step_last {seq:Bool} {closing deep p:Nat} {lead:Coms} {e:List NT × Bool × Rst} (h:if seq=true then itemR s n col lead deep p (.ok e) else entryR s n col lead deep p (.ok e)) {x:UInt8} {l:List UInt8} (hc:Pre s e.2.2.at' (x :: l)) (hx:x.toNat=closing) (hx2:x≠44) :
  stepR s n col seq closing deep lead p (.ok (trailed e.2.1 e.1 e.2.2.l e.2.2.same,left e.2.2.l e.2.2.same,e.2.2.at')):=by
 refine .ok (x:=e) ?_ ?_
 ·cases seq <;> exact h
 ·rw[isB_of (c:=44) hc,if_neg (by rw[decide_eq_true_eq];exact fun e=>hx2 ((u8_eq (by decide)).1 e)),isB_of (c:=closing) hc,if_pos (decide_eq_true hx)]
theorem value_of {lead:Coms} {deep p:Nat} {f:Fd} {L L2:Coms} {S S2:Bool} {q q2:Nat} {x:UInt8} {l:List UInt8} (hb:betwR s n p (.ok (L,S,q))) (h:Pre s q (x :: l)) (hx:x≠44∧x≠93∧x≠125) (hf:someR s n col deep q (.ok f)) (hb2:betwR s n f.fin (.ok (L2,S2,q2))) :
  valueR s n col lead deep p (.ok (f.x.withLead (lead++L++f.x.h.lead),⟨L2,S2,f.fin,q2⟩)):=by
 refine .ok (x:=(L,S,q)) hb ?_
 rw[lacks_of h,if_neg (by rw[decide_eq_true_eq];rintro (e|e|e);exact hx.1 e;exact hx.2.1 e;exact hx.2.2 e)]
 exact .ok (x:=f) hf (.ok (x:=(L2,S2,q2)) hb2 rfl)
theorem asked_of {deep p:Nat} {f:Fd} {L:Coms} {S:Bool} {q:Nat} {x:UInt8} {l:List UInt8} (hb:betwR s n (p+1) (.ok (L,S,q))) (h:Pre s q (x :: l)) (hx:x≠44∧x≠93∧x≠125∧x≠58) (hf:someR s n col deep q (.ok f)):askedR s n col deep p (.ok (L,f,f.fin)):=by
 refine .ok (x:=(L,S,q)) hb ?_
 rw[lacks_of h,(sign_of h).1 hx.2.2.2,if_neg (by rw[decide_eq_true_eq];rintro ((e|e|e)|e);exact hx.1 e;exact hx.2.1 e;exact hx.2.2.1 e;cases e)]
 exact .ok (x:=f) hf rfl
theorem behind_of {f:Fd} {deep p:Nat} {L:Coms} {S:Bool} {q:Nat} {v:NT × Rst} (ha:f.any=true) (hb:betwR s n f.fin (.ok (L,S,q))) (hs:signB s q f.near=true) (hv:valueR s n col L deep (q+1) (.ok v)):behindR s n col f deep p (.ok v):=by
 refine .ok (x:=(L,S,q)) (by rw[if_pos ha];exact hb) ?_
 rw[if_pos hs]
 exact hv
theorem pair_of {lead:Coms} {deep p:Nat} {a:Coms × Fd × Nat} {v:NT × Rst} (hq:queryB s p=true) (hd:deep+1<40) (ha:askedR s n col (deep+2) p (.ok a)) (hv:behindR s n col a.2.1 (deep+2) a.2.2 (.ok v)) :
  ∃ m:Nat,itemR s n col lead deep p (.ok ([pairN p m (lead++a.1) a.2.1.x v.1],true,v.2)):=by
 obtain ⟨k,m,hk⟩:=Abv.ex s p
 refine ⟨m,k,m,hk,?_⟩
 rw[if_pos hq,if_neg (by omega)]
 exact .ok (x:=a) ha (.ok (x:=v) hv rfl)
end
theorem coll_of {s:ByteArray} {n:Int} {g deep p:Nat} {x:UInt8} {l:List UInt8} (h:Pre s p (x :: l)) (hx:x=91∨x=123) (hd:deep<40) {L:Coms} {S:Bool} {q:Nat} (hb:betwR s n (p+1) (.ok (L,S,q))) {kids:List NT} {foot:Coms} {e:Nat}
  (hl:LoopR s n (collR s n g) (decide (x=91)) (if x=91 then 93 else 125) deep (.ok (kids,foot,e)) q L []) :
  collR s n (g+1) deep p (.ok (.mk ⟨if x=91 then 3 else 4,7,p,0,[],[],[],[],foot,false,[]⟩ kids,e)):=by
 refine .inr ⟨hd,.ok (x:=(L,S,q)) hb (.ok (x:=(kids,foot,e)) ?_ ?_)⟩
 ·rw[isB_of (c:=91) h]
  rcases hx with rfl|rfl <;> exact hl
 ·rw[isB_of (c:=91) h]
  rcases hx with rfl|rfl <;> rfl
end Go.Proofs.YtncngeamdechmaaGreatDoor
namespace Go.Proofs.YtncngeamdechmaaGreatDoor
open Go.RowKit
section
variable {s:ByteArray} {n:Int} {col:Nat→Nat→Rd (NT × Nat)→Prop}
theorem item_key {lead:Coms} {deep p:Nat} {f:Fd} {v:NT × Rst} {x:UInt8} {l l2 t:List UInt8} (h:Pre s p (x :: l)) (hx:x≠63∧x≠58) (hf:someR s n col (deep+1) p (.ok f)) (ho:f.one=true) (hd:deep+1<40) (hh:f.x.ht=0)
  (h2:Pre s f.fin l2) (h3:l2.dropWhile wsp=58 :: t) (hs:signB s (f.fin+(l2.takeWhile wsp).length) f.near=true) (hv:valueR s n col [] (deep+2) (f.fin+(l2.takeWhile wsp).length+1) (.ok v)) :
  ∃ m:Nat,itemR s n col lead deep p (.ok ([pairN p m lead f.x v.1],true,v.2)):=by
 obtain ⟨k,m,hk⟩:=Abv.ex s p
 refine ⟨m,k,m,hk,?_⟩
 rw[query_of h hx.1,if_neg (by decide)]
 refine .ok (x:=f) (by rw[(sign_of h).1 hx.2,if_neg (by decide)];exact hf) ?_
 obtain ⟨w1,w2⟩:=pre_white h2
 rw[h3] at w2
 obtain ⟨x1,x2,_⟩:=w2.cons
 obtain ⟨b,hb⟩:=RowE.ex s f.fin (by omega)
 have hq:∀ j,j<f.fin+(l2.takeWhile wsp).length→f.fin≤j→byt s j≠10:=fun j j1 j2 e=>by
  have:=w1 j j1 j2
  rw[e] at this
  cases this
 have hqb:f.fin+(l2.takeWhile wsp).length≤b:=by
  refine Decidable.byContradiction fun hc=>?_
  rcases hb.2.2.2 with e|e
  ·omega
  ·exact hq b (by omega) hb.1 e
 refine ⟨b,_,hb,⟨by omega,hqb,w1,.inr (by rw[x2];decide)⟩,?_⟩
 rw[if_pos (.inl ⟨ho,hs⟩),if_neg (by omega)]
 exact .ok (x:=v) hv rfl
end
def awakeA:ByteArray:=⟨#[91,97,44,32,98,58,32,99,93]⟩
def awakeB:ByteArray:=⟨#[91,97,44,44,98,93]⟩
instance (s:ByteArray) (p:Nat) (l:List UInt8):Decidable (Pre s p l):=by unfold Pre;infer_instance
theorem betw_at {s:ByteArray} {n:Int} (p:Nat) (l:List UInt8) (k:Nat) (h0:0<p) (hl:Pre s p l) (hb:byt s (p-1)≠10) (hw:U.white (byt s (p-1):Int)=false) (h:betwF n l false=some ([],false,k)) (hp:p≤s.size):betwR s n p (.ok ([],false,p+k)):=by
 obtain ⟨L,hL,hB⟩:=betw_of h0 hl hb hw h hp
 rwa [List.map_eq_nil_iff.1 hL] at hB
theorem awakeF1:∃ m:Nat,∃ m2:Nat,FlowZ awakeA 0 (-1) 0 (some (.mk ⟨3,7,0,0,[],[],[],[],[],false,[]⟩ [(leafN 1 1 [97]).withTop [] m,pairN 4 m2 [] (leafN 1 4 [98]) ((leafN 1 7 [99]).withLead [])])) 9 0:=by
 have s1:=node_plain (s:=awakeA) (n:=-1) (col:=collR awakeA (-1) 1) (deep:=1) (p:=1) (k:=1) (l:=[97,44]) (by decide +kernel) (by decide +kernel)
 obtain ⟨m,i1⟩:=item_of (lead:=[]) (deep:=0) (p:=1) (x:=97) (l:=[]) (by decide +kernel) (by decide) s1 rfl (by decide) (l2:=[44]) (y:=44) (t:=[]) (by decide +kernel) (by decide +kernel) (by decide) (betw_at 2 [44] 0 (by decide) (by decide +kernel) (by decide +kernel) (by decide +kernel) (by decide +kernel) (by decide)) (by decide +kernel)
 obtain ⟨sm,hsm,t1⟩:=step_comma (seq:=true) (closing:=93) i1 (l:=[]) (show Pre awakeA 2 [44] by decide +kernel) (betw_at 3 [32,98] 1 (by decide) (by decide +kernel) (by decide +kernel) (by decide +kernel) (by decide +kernel) (by decide))
 have hs0:sm=false:=by rw[hsm];rfl
 subst hs0
 have s2:=node_plain (s:=awakeA) (n:=-1) (col:=collR awakeA (-1) 1) (deep:=1) (p:=4) (k:=1) (l:=[98,58,32]) (by decide +kernel) (by decide +kernel)
 have s3:=node_plain (s:=awakeA) (n:=-1) (col:=collR awakeA (-1) 1) (deep:=2) (p:=7) (k:=1) (l:=[99,93]) (by decide +kernel) (by decide +kernel)
 have v1:=value_of (lead:=[]) (p:=6) (betw_at (s:=awakeA) (n:=-1) 6 [32,99] 1 (by decide) (by decide +kernel) (by decide +kernel) (by decide +kernel) (by decide +kernel) (by decide)) (x:=99) (l:=[]) (by decide +kernel) (by decide) s3 (betw_at 8 [93] 0 (by decide) (by decide +kernel) (by decide +kernel) (by decide +kernel) (by decide +kernel) (by decide))
 obtain ⟨m2,i2⟩:=item_key (lead:=[]) (deep:=0) (p:=4) (x:=98) (l:=[]) (by decide +kernel) (by decide) s2 rfl (by decide) (by decide +kernel) (l2:=[58]) (t:=[]) (by decide +kernel) (by decide +kernel) (by decide +kernel) v1
 have t2:=step_last (seq:=true) (closing:=93) i2 (x:=93) (l:=[]) (show Pre awakeA 8 [93] by decide +kernel) rfl (by decide)
 refine ⟨m,m2,?_⟩
 unfold FlowZ
 rw[if_pos ⟨by decide,.inl (by decide +kernel)⟩]
 refine ⟨2,.ok (_,9),coll_of (g:=1) (deep:=0) (p:=0) (x:=91) (l:=[]) (by decide +kernel) (.inl rfl) (by decide) (betw_at (s:=awakeA) (n:=-1) 1 [97] 0 (by decide) (by decide +kernel) (by decide +kernel) (by decide +kernel) (by decide +kernel) (by decide)) (kids:=[(leafN 1 1 [97]).withTop [] m,pairN 4 m2 [] (leafN 1 4 [98]) ((leafN 1 7 [99]).withLead [])]) (foot:=[]) (e:=9) ?_,rfl,rfl,rfl⟩
 refine .go (by decide +kernel) (by decide) (by decide +kernel) t1 (.go (by decide +kernel) (by decide) (by decide +kernel) t2 (.done (show isB awakeA 8 93=true by decide +kernel) ?_))
 rfl
theorem awakeF2:FlowZ awakeB 0 (-1) 0 none 3 5:=by
 have s1:=node_plain (s:=awakeB) (n:=-1) (col:=collR awakeB (-1) 1) (deep:=1) (p:=1) (k:=1) (l:=[97,44]) (by decide +kernel) (by decide +kernel)
 obtain ⟨m,i1⟩:=item_of (lead:=[]) (deep:=0) (p:=1) (x:=97) (l:=[]) (by decide +kernel) (by decide) s1 rfl (by decide) (l2:=[44]) (y:=44) (t:=[]) (by decide +kernel) (by decide +kernel) (by decide) (betw_at 2 [44] 0 (by decide) (by decide +kernel) (by decide +kernel) (by decide +kernel) (by decide +kernel) (by decide)) (by decide +kernel)
 obtain ⟨sm,hsm,t1⟩:=step_comma (seq:=true) (closing:=93) i1 (l:=[]) (show Pre awakeB 2 [44] by decide +kernel) (betw_at 3 [44] 0 (by decide) (by decide +kernel) (by decide +kernel) (by decide +kernel) (by decide +kernel) (by decide))
 unfold FlowZ
 rw[if_pos ⟨by decide,.inl (by decide +kernel)⟩]
 refine ⟨2,.bad 3 5,.inr ⟨by decide,.ok (x:=([],false,1)) (betw_at 1 [97] 0 (by decide) (by decide +kernel) (by decide +kernel) (by decide +kernel) (by decide +kernel) (by decide)) (.bad ?_)⟩,rfl,rfl,rfl⟩
 exact .go (by decide +kernel) (by decide) (by decide +kernel) t1 (.none (by decide +kernel) (.inr (by decide +kernel)) rfl)
end Go.Proofs.YtncngeamdechmaaGreatDoor
