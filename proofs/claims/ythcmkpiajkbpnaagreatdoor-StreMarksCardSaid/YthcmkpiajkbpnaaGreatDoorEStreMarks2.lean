/- Parts of the proof of StreMarks, put together from smaller texts (blanks that Lean does not want are struck). Conditions: those that each theorem writes out. -/
import Derived.Laws.Cover4
import Derived.Lib.MapLaws
import Derived.Shelf.GgClosure.StringsIndexFunc
import Derived.Shelf.GgClosure.StringsTrimFunc
import Derived.Shelf.LaysC
import Derived.Shelf.LaysM
import Derived.Shelf.Small.Strs
import Derived.Shelf.Small.Utf8
import Derived.Shelf.Small.Wraps
import Derived.Shelf.Strconv.Clone
import Derived.Shelf.Strconv.Itoa0
import Derived.Shelf.Strconv.SyntaxError
import Derived.Shelf.Strconv.ToError
import Derived.Shelf.Strings.AsciiSet
import Derived.Shelf.Strings.Builder1
import Derived.Shelf.Strings.Builder2
import Derived.Shelf.Strings.BuilderF
import Derived.Shelf.Strings.BuilderK
import Derived.Shelf.Strings.BuilderRune
import Derived.Shelf.Strings.Count
import Derived.Shelf.Strings.LastIndex
import Derived.Shelf.Strings.OnBuilder
import Derived.Shelf.Strings.Prefix
import Derived.Shelf.Strings.Runes
import Derived.Shelf.Strings.Search1
import Derived.Shelf.Strings.Search2
import Derived.Shelf.Strings.Search3
import Derived.Shelf.Strings.Shaped
import Derived.Shelf.Strings.Split
import Derived.Shelf.Strings.Trim
import Derived.Shelf.Unicode.DecodeAny
import Derived.Shelf.Unicode.DecodeLast
import Derived.Shelf.Unicode.DecodeSlow
import Derived.Test.YthcmkpiajkbpnaaGreatDoorEStreMarks0
import Derived.Test.YthcmkpiajkbpnaaGreatDoorEStreMarks1
import Derived.Test.YthcmkpiajkbpnaaGreatDoorProg
import Derived.Test.YthcmkpiajkbpnaaGreatDoorZ00
import Derived.Test.YthcmkpiajkbpnaaGreatDoorZ01
import Derived.Test.YthcmkpiajkbpnaaGreatDoorZ02
import Derived.Test.YthcmkpiajkbpnaaGreatDoorZ03
import Derived.Test.YthcmkpiajkbpnaaGreatDoorZ05
import Derived.Test.YthcmkpiajkbpnaaGreatDoorZ06
import Derived.Test.YthcmkpiajkbpnaaGreatDoorZ08
import Derived.Test.YthcmkpiajkbpnaaGreatDoorZ10
import Derived.Test.YthcmkpiajkbpnaaGreatDoorZ11
import Derived.Test.YthcmkpiajkbpnaaGreatDoorZ12
import Derived.Test.YthcmkpiajkbpnaaGreatDoorZ32
namespace Go.Proofs.YthcmkpiajkbpnaaGreatDoor
open Go.RowKit
def endU (y:UInt8):Bool:=decide (y=32∨y=9∨y=10)
theorem endU_is {s:ByteArray} {p:Nat} {y:UInt8} {l:List UInt8} (h:Pre s p (y :: l)):endsB s (p:Int)=endU y:=by
 obtain ⟨h1,h2,_⟩:=h.cons
 unfold endsB endU
 rw[if_neg (by omega),Int.toNat_natCast,h2,end_nat]
theorem endU_over {s:ByteArray} {p:Nat} (h:s.size≤p):endsB s (p:Int)=true:=by
 unfold endsB
 rw[if_pos (by omega)]
def stopK (fin:Bool) (x:UInt8) (pv:Bool) (l:List UInt8):Option Bool:=
 if x=10∨(x=35∧pv=true) then some true
 else if x=58 then (match l with | []=>(if fin=true then some true else none)|y :: _=>some (endU y)) else some false
theorem stopK_is {s:ByteArray} {fin:Bool} {p:Nat} {x:UInt8} {pv:Bool} {l:List UInt8} {r:Bool} (h:Pre s p (x :: l)) (hf:fin=true→s.size=p+1+l.length) (hpv:pv=true↔(0<p∧U.white (byt s (p-1):Int)=true)) (hr:stopK fin x pv l=some r):stopB s false p=r:=by
 obtain ⟨h1,h2,h3⟩:=h.cons
 have e35:(decide (0<p)&&U.white (byt s (p-1):Int))=pv:=by
  cases pv with
  | true=>obtain ⟨k1,k2⟩:=hpv.1 rfl;rw[decide_eq_true k1,k2];rfl
  | false=>
   rw[Bool.and_eq_false_iff]
   by_cases hp:0<p
   ·right;cases hw:U.white (byt s (p-1):Int) with|false=>rfl|true=>exact absurd (hpv.2 ⟨hp,hw⟩) (by decide)
   ·left;exact decide_eq_false hp
 unfold stopB
 rw[e35,h2,Bool.false_and,Bool.false_and,Bool.or_false,Bool.false_or]
 have d10:decide (x.toNat=10)=decide (x=10):=decide_eq_decide.2 (u8_eq (by decide))
 have d35:decide (x.toNat=35)=decide (x=35):=decide_eq_decide.2 (u8_eq (by decide))
 have d58:decide (x.toNat=58)=decide (x=58):=decide_eq_decide.2 (u8_eq (by decide))
 rw[d10,d35,d58]
 unfold stopK at hr
 by_cases c:x=10∨(x=35∧pv=true)
 ·rw[if_pos c] at hr
  injection hr with hr
  subst hr
  rcases c with c|c
  ·rw[decide_eq_true c];rfl
  ·rw[decide_eq_true c.1,c.2];simp
 ·rw[if_neg c] at hr
  have n1:¬ x=10:=fun e=>c (.inl e)
  have n2:(decide (x=35)&&pv)=false:=by
   rw[Bool.and_eq_false_iff]
   by_cases e:x=35
   ·right;cases pv with|false=>rfl|true=>exact absurd (.inr ⟨e,rfl⟩) c
   ·left;exact decide_eq_false e
  rw[decide_eq_false n1,n2]
  by_cases c2:x=58
  ·rw[if_pos c2] at hr
   cases l with
   | nil=>
    dsimp only at hr
    split at hr
    ·rename_i hfin
     injection hr with hr
     have hsz:=hf hfin
     simp at hsz
     rw[show ((p:Int)+1)=((p+1:Nat):Int) by omega,endU_over (by omega),decide_eq_true c2,←hr]
     rfl
    ·cases hr
   | cons y l'=>
    injection hr with hr
    rw[show ((p:Int)+1)=((p+1:Nat):Int) by omega,endU_is h3,hr,decide_eq_true c2]
    simp
  ·rw[if_neg c2] at hr
   injection hr with hr
   rw[decide_eq_false c2,←hr]
   rfl
def stK (fin:Bool):List UInt8→Bool→Option Nat
 | [],_=>if fin=true then some 0 else none
 | x :: l,pv=>match stopK fin x pv l with
  | none=>none
  | some true=>some 0
  | some false=>(stK fin l (wsp x)).map (·+1)
theorem stK_is {s:ByteArray} {fin:Bool}:∀ {l:List UInt8} {p k:Nat} {pv:Bool},Pre s p l→p≤s.size→(fin=true→s.size=p+l.length)→(pv=true↔(0<p∧U.white (byt s (p-1):Int)=true))→stK fin l pv=some k→StpN s false p (p+k)∧p+k≤s.size∧Pre s p (l.take k++l.drop k)∧k≤l.length
 | [],p,k,pv,h,hp,hf,hpv,hk=>by
  unfold stK at hk
  split at hk
  ·rename_i hfin
   injection hk with hk
   subst hk
   have hsz:=hf hfin
   simp at hsz
   exact ⟨⟨Nat.le_refl _,by omega,fun j j1 j2=>by omega,.inl (by omega)⟩,by omega,h,Nat.zero_le _⟩
  ·cases hk
 | x :: l,p,k,pv,h,hp,hf,hpv,hk=>by
  obtain ⟨h1,h2,h3⟩:=h.cons
  have hf':fin=true→s.size=p+1+l.length:=fun e=>by have:=hf e;simp at this;omega
  unfold stK at hk
  cases hs:stopK fin x pv l with
  | none=>rw[hs] at hk;cases hk
  | some r=>
   have hS:=stopK_is h hf' hpv hs
   rw[hs] at hk
   cases r with
   | true=>
    injection hk with hk
    subst hk
    exact ⟨⟨Nat.le_refl _,by omega,fun j j1 j2=>by omega,.inr hS⟩,by omega,h,Nat.zero_le _⟩
   | false=>
    dsimp only at hk
    cases hr:stK fin l (wsp x) with
    | none=>rw[hr] at hk;cases hk
    | some k'=>
     rw[hr] at hk
     injection hk with hk
     have hk:k'+1=k:=hk
     subst hk
     obtain ⟨i1,i2,i3,i4⟩:=stK_is (p:=p+1) h3 (by omega) hf' ⟨fun e=>⟨by omega,by show U.white (byt s p:Int)=true;rw[h2,wsp_white];exact e⟩,fun e=>by have:=e.2;rw[show p+1-1=p by omega,h2,wsp_white] at this;exact this⟩ hr
     refine ⟨⟨by omega,by omega,fun j j1 j2=>?_,?_⟩,by omega,by rw[List.take_append_drop];exact h,by rw[List.length_cons];omega⟩
     ·by_cases e:j=p
      ·rw[e];exact hS
      ·exact i1.2.2.1 j (by omega) (by omega)
     ·rw[show p+(k'+1)=p+1+k' by omega];exact i1.2.2.2
def rowK (n:Int) (fin:Bool):Nat→List UInt8→Bool
 | 0,_=>false
 | g+1,r=>match r.dropWhile wsp with
  | []=>fin
  | x :: r'=>if x=10 then rowK n fin g r' else if x=35 then true else marK fin r||decide (((r.takeWhile (·=32)).length:Int)≤n)
theorem rowK_is {s:ByteArray} {n:Int} {fin:Bool}:∀ (g:Nat) {r:List UInt8} {a:Nat},Pre s a r→a≤s.size→(fin=true→s.size=a+r.length)→rowK n fin g r=true→∃ k c,Blk s a k c∧(s.size≤c∨∃ b i p,c<s.size∧RowE s c b∧InN s c b i∧FirN s c b p∧(kindN s c b p≠5∨(i:Int)≤n))
 | 0,r,a,h,ha,hf,hr=>by cases hr
 | g+1,r,a,h,ha,hf,hr=>by
  unfold rowK at hr
  obtain ⟨w1,w2⟩:=pre_white h
  cases hd:r.dropWhile wsp with
  | nil=>
   rw[hd] at hr
   have hsz:=hf hr
   have htw:(r.takeWhile wsp).length=r.length:=by
    have:=List.takeWhile_append_dropWhile (p:=wsp) (l:=r)
    rw[hd,List.append_nil] at this
    rw[this]
   rw[htw] at w1
   by_cases has:s.size≤a
   ·exact ⟨0,a,.over has,.inl has⟩
   ·have hE:RowE s a s.size:=⟨ha,Nat.le_refl _,(fun j j1 j2 e=>by
     have:=w1 j (by omega) j2
     rw[e] at this
     cases this),.inl rfl⟩
    have hF:FirN s a s.size s.size:=⟨ha,Nat.le_refl _,(fun j j1 j2=>w1 j (by omega) j2),.inl rfl⟩
    exact ⟨1,s.size+1,.more (by omega) hE hF (.over (by omega)),.inl (by omega)⟩
  | cons x r'=>
   rw[hd] at hr w2
   dsimp only at hr
   obtain ⟨x1,x2,x3⟩:=w2.cons
   have hxw:wsp x=false:=dw_head hd
   have hlen:r.length=(r.takeWhile wsp).length+(r'.length+1):=by
    have:=List.takeWhile_append_dropWhile (p:=wsp) (l:=r)
    rw[hd] at this
    rw[←this,List.length_append,List.length_cons,this]
   obtain ⟨p,hp⟩:∃ p,a+(r.takeWhile wsp).length=p:=⟨_,rfl⟩
   rw[hp] at w1 w2 x1 x2 x3
   have hap:a≤p:=by omega
   have hq:∀ j,j<p→a≤j→byt s j≠10:=fun j j1 j2 e=>by
    have:=w1 j j1 j2
    rw[e] at this
    cases this
   have hxn:U.white (byt s p:Int)=false:=by rw[x2,wsp_white];exact hxw
   by_cases h10:x=10
   ·rw[if_pos h10] at hr
    have hb10:byt s p=10:=by rw[x2,h10];rfl
    obtain ⟨k,c,i1,i2⟩:=rowK_is g x3 (by omega) (fun e=>by have:=hf e;omega) hr
    exact ⟨k+1,c,.more (by omega) ⟨hap,by omega,hq,.inr hb10⟩ ⟨hap,Nat.le_refl _,w1,.inl rfl⟩ i1,i2⟩
   ·rw[if_neg h10] at hr
    obtain ⟨b,hb⟩:=RowE.ex s a ha
    have hpb:p<b:=by
     refine Decidable.byContradiction fun hc=>?_
     rcases hb.2.2.2 with e|e
     ·omega
     ·by_cases e2:b=p
      ·rw[e2,x2] at e;exact h10 ((u8_eq (by decide)).1 e)
      ·exact hq b (by omega) hb.1 e
    have hF:FirN s a b p:=⟨hap,by omega,w1,.inr hxn⟩
    obtain ⟨i,hi⟩:=InN.ex s a b hb.1
    refine ⟨0,a,.text (by omega) hb hF (by omega),.inr ⟨b,i,p,by omega,hb,hi,hF,?_⟩⟩
    by_cases h35:x=35
    ·left
     have hb0:byt s p=35:=by rw[x2,h35];rfl
     unfold kindN
     split
     ·decide
     ·split
      ·decide
      ·rw[if_neg (by omega)]
       first|(rw[if_pos hb0];decide)|decide
    ·by_cases hmk:marK fin r=true
     ·left
      rcases mark_kind (q:=p) h hf hmk hb with e|e <;> rw[e] <;> decide
     right
     have hmk:marK fin r=false:=by simpa using hmk
     rw[if_neg h35,hmk,Bool.false_or,decide_eq_true_eq] at hr
     obtain ⟨q1,q2⟩:=pre_blank h
     obtain ⟨i1,i2,i3⟩:=hi
     have hle:i≤(r.takeWhile (·=32)).length:=by
      refine Decidable.byContradiction fun hc=>?_
      have hi32:=i2 (r.takeWhile (·=32)).length (by omega)
      cases hd3:r.dropWhile (·=32) with
      | nil=>
       have h3:=List.takeWhile_append_dropWhile (p:=(·=32)) (l:=r)
       rw[hd3,List.append_nil] at h3
       have hxr:x∈r:=by
        rw[←List.takeWhile_append_dropWhile (p:=wsp) (l:=r),hd]
        simp
       rw[←h3] at hxr
       have hx32:=tw_mem hxr
       have hx32:x=32:=by simpa using hx32
       rw[hx32] at hxw
       exact absurd hxw (by decide)
      | cons y t=>exact q2 y t hd3 hi32
     omega
def aftK (n:Int) (fin:Bool) (l:List UInt8):Bool:=match l.dropWhile wsp with
 | []=>fin
 | x :: r=>if x=10 then rowK n fin (r.length+1) r else true
def begK:List UInt8→Bool
 | []=>false
 | x :: l=>!(endU x)&&(!(U.indic (x.toNat:Int))||(decide (x=45∨x=63∨x=58)&&match l with | []=>false|y :: _=>!(endU y)))
theorem begK_is {s:ByteArray} {p:Nat} {l:List UInt8} (h:Pre s p l) (hb:begK l=true):begB s (p:Int) false=true:=by
 cases l with
 | nil=>cases hb
 | cons x l=>
  obtain ⟨h1,h2,h3⟩:=h.cons
  unfold begK at hb
  rw[Bool.and_eq_true,Bool.or_eq_true] at hb
  obtain ⟨hb1,hb2⟩:=hb
  unfold begB
  rw[endU_is h,hb1,Bool.true_and,Int.toNat_natCast,h2,Bool.or_eq_true]
  rcases hb2 with hb2|hb2
  ·exact .inl hb2
  ·right
   rw[Bool.and_eq_true] at hb2
   obtain ⟨c1,c2⟩:=hb2
   have d:decide (x.toNat=45∨x.toNat=63∨x.toNat=58)=decide (x=45∨x=63∨x=58):=decide_eq_decide.2 (by rw[u8_eq (by decide),u8_eq (by decide),u8_eq (by decide)];exact Iff.rfl)
   rw[d,c1,Bool.true_and]
   cases l with
   | nil=>cases c2
   | cons y l'=>
    dsimp only at c2
    rw[show ((p:Int)+1)=((p+1:Nat):Int) by omega,endU_is h3,c2]
    rfl
def plainK (n:Int) (fin:Bool) (l:List UInt8):Option Nat:=if begK l=true then (match stK fin l false with
 | none=>none
 | some k=>if aftK n fin (l.drop (rtr (l.take k)).length)=true then some (rtr (l.take k)).length else none) else none
theorem begK_35 {x:UInt8} {l:List UInt8} (h:begK (x :: l)=true):x≠35:=by
 intro e
 subst e
 unfold begK at h
 dsimp only at h
 revert h
 have:U.indic ((35:UInt8).toNat:Int)=true:=by decide
 rw[this]
 simp
theorem stK_35 {fin:Bool} {x:UInt8} {l:List UInt8} (h:x≠35) (pv:Bool):stK fin (x :: l) pv=stK fin (x :: l) false:=by
 have:stopK fin x pv l=stopK fin x false l:=by
  unfold stopK
  have e:(x=10∨(x=35∧pv=true))↔(x=10∨(x=35∧false=true)):=by
   constructor
   ·intro hc;rcases hc with hc|hc
    ·exact .inl hc
    ·exact absurd hc.1 h
   ·intro hc;rcases hc with hc|hc
    ·exact .inl hc
    ·exact absurd hc.1 h
  by_cases c:(x=10∨(x=35∧pv=true))
  ·rw[if_pos c,if_pos (e.1 c)]
  ·rw[if_neg c,if_neg (fun hc=>c (e.2 hc))]
 unfold stK
 rw[this]
theorem PlaiG.over {s:ByteArray} {n:Int} {fl:Bool} {g e t k a:Nat} {R:List (List UInt8)} {one:Bool} (ht:RowE s e t) (hf:FirN s e t t) (hk:Blk s (t+1) k a) (h2:s.size≤a) :
  PlaiG s n fl (U.flowT R) e one 0 (g+1) e R one:=by
 intro t' f' ht' hf'
 obtain rfl:=ht.uniq ht'
 obtain rfl:=hf.uniq hf'
 split
 ·exact ⟨rfl,rfl,rfl,rfl⟩
 ·intro k' a' hk'
  obtain ⟨rfl,rfl⟩:=hk.uniq hk'
  rw[if_pos h2]
  exact ⟨rfl,rfl,rfl,rfl⟩
theorem plain_ofK {s:ByteArray} {n:Int} {fin:Bool} {p k:Nat} {l:List UInt8} (hl:Pre s p l) (hps:p≤s.size) (hfin:fin=true→s.size=p+l.length) (h:plainK n fin l=some k):PlaiZ s (p:Int) n false (l.take k) ((p+k:Nat):Int) true 0∧begB s (p:Int) false=true∧ParN s false p (p+k):=by
 unfold plainK at h
 split at h
 ·rename_i hb
  have hB:=begK_is hl hb
  cases l with
  | nil=>cases hb
  | cons x l0=>
   have h35:=begK_35 hb
   obtain ⟨pv,hpv⟩:∃ pv:Bool,pv=true↔(0<p∧U.white (byt s (p-1):Int)=true):=⟨decide (0<p∧U.white (byt s (p-1):Int)=true),by rw[decide_eq_true_eq]⟩
   rw[←stK_35 h35 pv] at h
   cases hs:stK fin (x :: l0) pv with
   | none=>rw[hs] at h;cases h
   | some q=>
    rw[hs] at h
    dsimp only at h
    obtain ⟨s1,s2,s3,s4⟩:=stK_is hl hps hfin hpv hs
    obtain ⟨w,e1,e2,e3⟩:=rtr_spec ((x :: l0).take q)
    obtain ⟨c,hc⟩:∃ c,(x :: l0).take q=c:=⟨_,rfl⟩
    have hcl:c.length=q:=by rw[←hc,List.length_take];omega
    rw[hc] at h s3 e1 e3
    split at h
    ·rename_i haf
     injection h with h
     obtain ⟨L,hL⟩:∃ L,x :: l0=L:=⟨_,rfl⟩
     rw[hL] at hl hc s3 haf s4 hfin ⊢
     have hwl:c.length=k+w.length:=by rw[←h,←List.length_append,←e1]
     have hpc:Pre s p (rtr c++(w++L.drop q)):=by rw[←List.append_assoc,←e1];exact s3
     have hLe:L=rtr c++(w++L.drop q):=by rw[←List.append_assoc,←e1,←hc,List.take_append_drop]
     have hLk:L.take k=rtr c:=by rw[hLe,←h,List.take_left]
     have hLd:L.drop k=w++L.drop q:=by
      conv=>lhs;rw[hLe,←h,List.drop_left]
     have hPar:ParN s false p (p+k):=⟨p+q,s1,by omega,by omega,fun j j1 j2=>by
      have hb:=hpc.app.2.app.1.byte (j-(p+k)) (by omega)
      rw[h,show p+k+(j-(p+k))=j by omega] at hb
      rw[hb,wsp_white]
      refine e2 _ ?_
      simp only[List.getD]
      rw[List.getElem?_eq_getElem (by omega),Option.getD_some]
      exact List.getElem_mem _,by
      rcases e3 with e3|⟨y',t',e3,e4⟩
      ·left;rw[←h,e3];rfl
      ·right
       have hb:=hpc.app.1.byte t'.length (by rw[e3];simp)
       have hk:k=t'.length+1:=by rw[←h,e3,List.length_append];rfl
       rw[e3] at hb
       rw[hk,show p+(t'.length+1)-1=p+t'.length by omega,hb]
       have:(t'++[y']).getD t'.length 0=y':=by simp[List.getD]
       rw[this,wsp_white]
       exact e4⟩
     refine ⟨?_,hB,hPar⟩
     have hpk:p+k≤s.size:=by omega
     have hA:Pre s (p+k) (L.drop k):=by rw[hLd,←h];exact hpc.app.2
     have hfA:fin=true→s.size=p+k+(L.drop k).length:=fun e=>by
      have:=hfin e
      rw[List.length_drop]
      have:k≤L.length:=by omega
      omega
     refine PlaiZ.of hB hPar ?_
     have hpiece:pieceL s p (p+k)=L.take k:=by rw[hLk,←h];exact hpc.piece
     have hT:U.flowT [L.take k]=L.take k:=(congrArg (fun z=>L.take k++z) (U.flowGo_nil 0)).trans (List.append_nil _)
     rw[hpiece]
     refine Eq.mp (congrArg (fun T=>PlaiG s n false T (p+k) true 0 (s.size+1) (p+k) [L.take k] true) hT) ?_
     rw[h] at haf
     unfold aftK at haf
     obtain ⟨w1,w2⟩:=pre_white hA
     cases hd:(L.drop k).dropWhile wsp with
     | nil=>
      rw[hd] at haf
      have hsz:=hfA haf
      have htw:((L.drop k).takeWhile wsp).length=(L.drop k).length:=by
       have:=List.takeWhile_append_dropWhile (p:=wsp) (l:=L.drop k)
       rw[hd,List.append_nil] at this
       rw[this]
      rw[htw] at w1
      have hE:RowE s (p+k) s.size:=⟨hpk,Nat.le_refl _,(fun j j1 j2 e=>by
       have:=w1 j (by omega) j2
       rw[e] at this
       cases this),.inl rfl⟩
      have hF:FirN s (p+k) s.size s.size:=⟨hpk,Nat.le_refl _,(fun j j1 j2=>w1 j (by omega) j2),.inl rfl⟩
      exact PlaiG.stop hE hF (.inr (Nat.le_refl _))
     | cons y r=>
      rw[hd] at haf w2
      dsimp only at haf
      have hlen:(L.drop k).length=((L.drop k).takeWhile wsp).length+(r.length+1):=by
       have:=List.takeWhile_append_dropWhile (p:=wsp) (l:=L.drop k)
       rw[hd] at this
       have h2:=congrArg List.length this
       rw[List.length_append,List.length_cons] at h2
       omega
      obtain ⟨f,hf⟩:∃ f,p+k+((L.drop k).takeWhile wsp).length=f:=⟨_,rfl⟩
      rw[hf] at w1 w2
      obtain ⟨y1,y2,y3⟩:=w2.cons
      have hyw:wsp y=false:=dw_head hd
      have hq:∀ j,j<f→p+k≤j→byt s j≠10:=fun j j1 j2 e=>by
       have:=w1 j j1 j2
       rw[e] at this
       cases this
      obtain ⟨t,ht⟩:=RowE.ex s (p+k) hpk
      have hft:f≤t:=by
       refine Decidable.byContradiction fun hcc=>?_
       rcases ht.2.2.2 with e|e
       ·omega
       ·exact hq t (by omega) ht.1 e
      have hF:FirN s (p+k) t f:=⟨by omega,hft,w1,.inr (by rw[y2,wsp_white];exact hyw)⟩
      by_cases h10:y=10
      ·rw[if_pos h10] at haf
       have hb10:byt s f=10:=by rw[y2,h10];rfl
       have htf:t=f:=by
        refine Decidable.byContradiction fun hcc=>?_
        exact ht.2.2.1 f (by omega) (by omega) hb10
       subst htf
       obtain ⟨k',c',i1,i2⟩:=rowK_is _ y3 (by omega) (fun e=>by have:=hfA e;omega) haf
       rcases i2 with i2|⟨b,i,p',i2,i3,i4,i5,i6⟩
       ·exact PlaiG.over ht hF i1 i2
       ·exact PlaiG.less ht hF y1 i1 i2 i3 i4 i5 i6
      ·refine PlaiG.stop ht hF (.inl ?_)
       refine Decidable.byContradiction fun hcc=>?_
       have e:t=f:=by omega
       rcases ht.2.2.2 with e2|e2
       ·omega
       ·rw[e,y2] at e2;exact h10 ((u8_eq (by decide)).1 e2)
    ·cases h
 ·cases h
end Go.Proofs.YthcmkpiajkbpnaaGreatDoor
namespace Go.Proofs.YthcmkpiajkbpnaaGreatDoor
open Go.RowKit
section
variable {s:ByteArray} {n:Int} {col:Nat→Nat→Rd (NT × Nat)→Prop}
def leafN (st:Int) (p:Nat) (T:List UInt8):NT:=.mk ⟨1,st,p,0,[],[],T,[],[],false,[]⟩ []
end
end Go.Proofs.YthcmkpiajkbpnaaGreatDoor
namespace Go.Proofs.YthcmkpiajkbpnaaGreatDoor
open Go.RowKit
theorem prop_beg {s:ByteArray} {p:Nat} (h:begB s (p:Int) false=true):PropZ s (p:Int) false [] [] (p:Int) 0:=by
 obtain ⟨h1,h2,_,h3,_⟩:=beg_not h
 refine .inl ⟨by omega,p,rfl,?_⟩
 rw[Int.toNat_natCast]
 refine .none ?_ rfl rfl rfl rfl
 rintro ⟨_,e|e⟩
 ·exact h3 38 (.inl rfl) e
 ·exact h3 33 (.inr (.inl rfl)) e
theorem row_back {s:ByteArray} {q e t:Nat} (hqe:q≤e) (h10:∀ j,j<e→q≤j→byt s j≠10) (ht:RowE s e t):RowE s q t:=⟨Nat.le_trans hqe ht.1,ht.2.1,fun j j1 j2=>by
 by_cases h:j<e
 ·exact h10 j h j2
 ·exact ht.2.2.1 j j1 (by omega),ht.2.2.2⟩
theorem par_row {s:ByteArray} {q e:Nat} (h:ParN s false q e):q≤e∧e≤s.size∧∀ j,j<e→q≤j→byt s j≠10:=by
 obtain ⟨p,hS,hB⟩:=h
 refine ⟨hB.1,Nat.le_trans hB.2.1 hS.2.1,fun j j1 j2 e10=>?_⟩
 have:=hS.2.2.1 j (Nat.lt_of_lt_of_le j1 hB.2.1) j2
 unfold stopB at this
 rw[decide_eq_true e10] at this
 cases this
theorem key_plain {s:ByteArray} {q e t f:Nat} (hb:begB s (q:Int) false=true) (hP:ParN s false q e) (ht:RowE s e t) (hf:FirN s e t f):KeyR s q (if markB s f 58=true then some f else none):=by
 obtain ⟨h1,h2,h3,h4,h5⟩:=beg_not hb
 obtain ⟨p1,p2,p3⟩:=par_row hP
 have hqe:=beg_part hb hP
 have hte:=ht.1
 unfold KeyR
 rw[if_neg (by omega)]
 refine ⟨t,[],[],(q:Int),0,row_back p1 p3 ht,prop_beg hb,?_⟩
 rw[if_neg (by decide),Int.toNat_natCast]
 refine ⟨q,by rw[if_neg (by omega)],?_⟩
 rw[if_neg (by rintro (h|h);omega;rw[h5 58 (.inr (.inr rfl))] at h;cases h),isB_no (h4 42 (by simp)),isB_no (h4 34 (by simp)),isB_no (h4 39 (by simp)),isB_no (h4 91 (by simp)),isB_no (h4 123 (by simp)),if_neg (by decide),if_neg (by decide),if_neg (by decide),if_pos hb]
 refine ⟨e,hP,?_⟩
 unfold colonR
 rw[if_neg (by omega)]
 exact ⟨f,hf,rfl⟩
theorem open_plain {s:ByteArray} {q e t f:Nat} (hb:begB s (q:Int) false=true) (hP:ParN s false q e) (ht:RowE s e t) (hf:FirN s e t f) (hm:markB s f 58=false):OpenR s q false:=by
 obtain ⟨_,_,_,_,h5⟩:=beg_not hb
 unfold OpenR
 rw[if_neg (by rintro (h|h);rw[h5 45 (by simp)] at h;cases h;rw[h5 63 (by simp)] at h;cases h)]
 have:=key_plain hb hP ht hf
 rw[hm,if_neg (by decide)] at this
 exact ⟨none,this,rfl⟩
theorem leaf_plain {s:ByteArray} {n:Int} {deep q k:Nat} {prop:Bool} {T:List UInt8} (hb:begB s (q:Int) false=true) (hZ:PlaiZ s (q:Int) n false T ((q+k:Nat):Int) true 0):leafR s n deep prop q (.ok (leafN 1 q T,q+k)):=by
 obtain ⟨h1,h2,h3,h4,h5⟩:=beg_not hb
 unfold leafR
 rw[isB_no (h4 42 (by simp)),isB_no (h4 34 (by simp)),isB_no (h4 39 (by simp)),isB_no (h4 91 (by simp)),isB_no (h4 123 (by simp)),isB_no (h4 124 (by simp)),isB_no (h4 62 (by simp)),if_neg (by decide),if_neg (by decide),if_neg (by decide),if_neg (by decide),if_pos hb]
 refine ⟨T,_,true,0,hZ,?_⟩
 rw[if_pos rfl,Int.toNat_natCast]
 rfl
theorem cont_plain {s:ByteArray} {k:Spt} {prop:Bool} {q m t f:Nat} {T:List UInt8} {b:Coms × Bool × Nat} (hb:begB s (q:Int) false=true) (hZ:PlaiZ s (q:Int) k.n false T ((q+m:Nat):Int) true 0) (ht:RowE s (q+m) t) (hf:FirN s (q+m) t f) (hq:f=t∨(byt s f=35∧f≠q+m)) (hp:passR s (q+m) (.ok b)) :
  contT s k prop q (.ok (trailT (leafN 1 q T) b.1 b.2.1 b.2.2)):=by
 refine .ok (leaf_plain hb hZ) ⟨t,f,⟨ht,hf⟩,?_⟩
 rw[if_neg (by
  rintro ⟨_,h1,h2⟩
  rcases hq with h|h
  ·omega
  ·rcases h2 with h2|h2
   ·exact h2 h.1
   ·exact h.2 h2)]
 exact .ok (x:=b) hp ⟨fun e=>(by cases e),rfl⟩
section
variable {s:ByteArray} {blk:Nat→Nat→Rd Tre→Prop}
theorem nod_plain {k:Spt} {p q m t f:Nat} {T:List UInt8} {L:Coms} {S:Bool} {b:Coms × Bool × Nat} (hp:passR s p (.ok (L,S,q))) (hn:noneB s k.n k.bare k.flat p q=false) (hb:begB s (q:Int) false=true) (hP:ParN s false q (q+m)) (hZ:PlaiZ s (q:Int) k.n false T ((q+m:Nat):Int) true 0) (ht:RowE s (q+m) t) (hf:FirN s (q+m) t f) (hq:f=t∨(byt s f=35∧f≠q+m)) (hb2:passR s (q+m) (.ok b)) :
  nodT s blk k p (.ok ((trailT (leafN 1 q T) b.1 b.2.1 b.2.2).1.withLead L,(trailT (leafN 1 q T) b.1 b.2.1 b.2.2).2)):=by
 have hm:markB s f 58=false:=by
  unfold markB
  rw[Bool.and_eq_false_iff]
  left
  rcases hq with h|h
  ·rw[h]
   rcases ht.2.2.2 with e|e
   ·unfold isB;rw[decide_eq_false_iff_not];omega
   ·exact isB_no (by rw[e];decide)
  ·exact isB_no (by rw[h.1];decide)
 refine .ok (x:=(L,S,q)) hp ?_
 rw[if_neg (by rw[hn];decide)]
 refine .ok (x:=trailT (leafN 1 q T) b.1 b.2.1 b.2.2) ⟨false,open_plain hb hP ht hf hm,?_⟩ ?_
 ·rw[if_neg (by decide)]
  refine ⟨[],[],(q:Int),0,prop_beg hb,?_⟩
  rw[if_neg (by decide),if_pos rfl]
  exact cont_plain hb hZ ht hf hq hb2
 ·have hl:(trailT (leafN 1 q T) b.1 b.2.1 b.2.2).1.h.lead=[]:=by
   unfold trailT
   split <;> rfl
  rw[hl,List.append_nil]
theorem nod_none {k:Spt} {p q:Nat} {L:Coms} {S:Bool} (hp:passR s p (.ok (L,S,q))) (hn:noneB s k.n k.bare k.flat p q=true):nodT s blk k p (.ok (emptyT k.key L (S&&!k.bare) q)):=by
 refine .ok (x:=(L,S,q)) hp ?_
 rw[if_pos hn]
end
theorem over_in {s:ByteArray} {p:Nat} (hp:p<s.size) (h:row0B s p=false∨(m3B s p 45=false∧m3B s p 46=false)):overB s p=false:=by
 unfold overB
 rw[decide_eq_false (by omega),Bool.false_or]
 rcases h with h|⟨h1,h2⟩
 ·rw[h];rfl
 ·rw[h1,h2];simp
theorem m3_not {s:ByteArray} {p c:Nat} (h:isB s p c=false∨isB s (p+1) c=false):m3B s p c=false:=by
 unfold m3B
 rcases h with h|h <;> rw[h] <;> simp
end Go.Proofs.YthcmkpiajkbpnaaGreatDoor
namespace Go.Proofs.YthcmkpiajkbpnaaGreatDoor
open Go.RowKit
theorem vw_first:∀ w∈wordL,w≠[]∧w.getD 0 0≠63∧w.getD 0 0≠58∧w.getD 0 0≠44∧w.getD 0 0≠93∧w.getD 0 0≠125∧w.getD (w.length-1) 0≠10∧wsp (w.getD (w.length-1) 0)=false:=by decide +kernel
section
variable {s:ByteArray} {col:Nat→Nat→Rd (NT × Nat)→Prop}
theorem last_byte {p:Nat} {w l:List UInt8} (h:Pre s p (w++l)) (hw:w∈wordL):byt s (p+w.length-1)≠10∧U.white (byt s (p+w.length-1):Int)=false∧0<w.length:=by
 obtain ⟨h0,_,_,_,_,_,h1,h2⟩:=vw_first w hw
 have hl:=List.length_pos_iff.2 h0
 have hb:=h.app.1.byte (w.length-1) (by omega)
 rw[show p+(w.length-1)=p+w.length-1 by omega] at hb
 rw[hb]
 exact ⟨fun e=>h1 ((u8_eq (by decide)).1 e),by rw[wsp_white];exact h2,hl⟩
end
end Go.Proofs.YthcmkpiajkbpnaaGreatDoor
namespace Go.Proofs.YthcmkpiajkbpnaaGreatDoor
open Go.RowKit
theorem ti_end:wS true (2*[(10:UInt8)].length+2) [10] false false true [] false=some ([],false,1):=by decide +kernel
theorem ti_ne:∀ w∈wordL,w≠[]∧(∀ x∈w,x≠10)∧w.getD 0 0≠45∧w.getD 0 0≠46:=by decide +kernel
theorem row_lfT {s:ByteArray} {e:Nat} (h:e<s.size) (h10:byt s e=10):RowE s e e∧FirN s e e e:=⟨⟨Nat.le_refl _,Nat.le_of_lt h,fun j h1 h2=>by omega,.inr h10⟩,⟨Nat.le_refl _,Nat.le_refl _,fun j h1 h2=>by omega,.inl rfl⟩⟩
section
variable {s:ByteArray} {blk:Nat→Nat→Rd Tre→Prop}
end
theorem over_end (s:ByteArray):overB s s.size=true:=by
 unfold overB
 rw[decide_eq_true (Nat.le_refl _)]
 rfl
end Go.Proofs.YthcmkpiajkbpnaaGreatDoor
