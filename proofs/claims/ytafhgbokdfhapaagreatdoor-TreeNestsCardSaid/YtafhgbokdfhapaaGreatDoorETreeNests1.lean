/- Parts of the proof of TreeNests, put together from smaller texts (blanks that Lean does not want are struck). Conditions: those that each theorem writes out. -/
import Derived.BigQuiet
import Derived.Deep.DrawnRows
import Derived.Deep.RegionWith
import Derived.Laws.Cover4
import Derived.Lib.MapLaws
import Derived.Shelf.LaysC
import Derived.Shelf.LaysM
import Derived.Shelf.Small.Strs
import Derived.Shelf.Small.Utf8
import Derived.Shelf.Small.Wraps
import Derived.Shelf.Strconv.Clone
import Derived.Shelf.Strconv.SyntaxError
import Derived.Shelf.Strconv.ToError
import Derived.Shelf.Strings.AsciiSet
import Derived.Shelf.Strings.Builder1
import Derived.Shelf.Strings.BuilderF
import Derived.Shelf.Strings.BuilderK
import Derived.Shelf.Strings.BuilderRune
import Derived.Shelf.Strings.Count
import Derived.Shelf.Strings.LastIndex
import Derived.Shelf.Strings.Prefix
import Derived.Shelf.Strings.Runes
import Derived.Shelf.Strings.Search1
import Derived.Shelf.Strings.Search2
import Derived.Shelf.Strings.Search3
import Derived.Shelf.Strings.Shaped
import Derived.Shelf.Strings.Split
import Derived.Shelf.Strings.Trim
import Derived.Shelf.Unicode.DecodeSlow
import Derived.Test.YtafhgbokdfhapaaGreatDoorETreeNests0
import Derived.Test.YtafhgbokdfhapaaGreatDoorProg
import Derived.Test.YtafhgbokdfhapaaGreatDoorZ00
import Derived.Test.YtafhgbokdfhapaaGreatDoorZ01
import Derived.Test.YtafhgbokdfhapaaGreatDoorZ02
import Derived.Test.YtafhgbokdfhapaaGreatDoorZ03
import Derived.Test.YtafhgbokdfhapaaGreatDoorZ04
import Derived.Test.YtafhgbokdfhapaaGreatDoorZ10
namespace Go.Proofs.YtafhgbokdfhapaaGreatDoor
open Go.RowKit
def endU (y:UInt8):Bool:=decide (y=32∨y=9∨y=10)
theorem endU_is {s:ByteArray} {p:Nat} {y:UInt8} {l:List UInt8} (h:Pre s p (y :: l)):endsB s (p:Int)=endU y:=by
 obtain ⟨h1,h2,_⟩:=h.cons
 unfold endsB endU
 rw[if_neg (by omega),Int.toNat_natCast,h2,end_nat]
theorem endU_over {s:ByteArray} {p:Nat} (h:s.size≤p):endsB s (p:Int)=true:=by
 unfold endsB
 rw[if_pos (by omega)]
def stopK (fin:Bool) (x:UInt8) (pv:Bool) (l:List UInt8):Option Bool:=
 if x=10∨(x=35∧pv=true) then some true
 else if x=58 then (match l with | []=>(if fin=true then some true else none)|y :: _=>some (endU y)) else some false
theorem stopK_is {s:ByteArray} {fin:Bool} {p:Nat} {x:UInt8} {pv:Bool} {l:List UInt8} {r:Bool} (h:Pre s p (x :: l)) (hf:fin=true→s.size=p+1+l.length) (hpv:pv=true↔(0<p∧U.white (byt s (p-1):Int)=true)) (hr:stopK fin x pv l=some r):stopB s false p=r:=by
 obtain ⟨h1,h2,h3⟩:=h.cons
 have e35:(decide (0<p)&&U.white (byt s (p-1):Int))=pv:=by
  cases pv with
  | true=>obtain ⟨k1,k2⟩:=hpv.1 rfl;rw[decide_eq_true k1,k2];rfl
  | false=>
   rw[Bool.and_eq_false_iff]
   by_cases hp:0<p
   ·right;cases hw:U.white (byt s (p-1):Int) with|false=>rfl|true=>exact absurd (hpv.2 ⟨hp,hw⟩) (by decide)
   ·left;exact decide_eq_false hp
 unfold stopB
 rw[e35,h2,Bool.false_and,Bool.false_and,Bool.or_false,Bool.false_or]
 have d10:decide (x.toNat=10)=decide (x=10):=decide_eq_decide.2 (u8_eq (by decide))
 have d35:decide (x.toNat=35)=decide (x=35):=decide_eq_decide.2 (u8_eq (by decide))
 have d58:decide (x.toNat=58)=decide (x=58):=decide_eq_decide.2 (u8_eq (by decide))
 rw[d10,d35,d58]
 unfold stopK at hr
 by_cases c:x=10∨(x=35∧pv=true)
 ·rw[if_pos c] at hr
  injection hr with hr
  subst hr
  rcases c with c|c
  ·rw[decide_eq_true c];rfl
  ·rw[decide_eq_true c.1,c.2];simp
 ·rw[if_neg c] at hr
  have n1:¬ x=10:=fun e=>c (.inl e)
  have n2:(decide (x=35)&&pv)=false:=by
   rw[Bool.and_eq_false_iff]
   by_cases e:x=35
   ·right;cases pv with|false=>rfl|true=>exact absurd (.inr ⟨e,rfl⟩) c
   ·left;exact decide_eq_false e
  rw[decide_eq_false n1,n2]
  by_cases c2:x=58
  ·rw[if_pos c2] at hr
   cases l with
   | nil=>
    dsimp only at hr
    split at hr
    ·rename_i hfin
     injection hr with hr
     have hsz:=hf hfin
     simp at hsz
     rw[show ((p:Int)+1)=((p+1:Nat):Int) by omega,endU_over (by omega),decide_eq_true c2,←hr]
     rfl
    ·cases hr
   | cons y l'=>
    injection hr with hr
    rw[show ((p:Int)+1)=((p+1:Nat):Int) by omega,endU_is h3,hr,decide_eq_true c2]
    simp
  ·rw[if_neg c2] at hr
   injection hr with hr
   rw[decide_eq_false c2,←hr]
   rfl
def stK (fin:Bool):List UInt8→Bool→Option Nat
 | [],_=>if fin=true then some 0 else none
 | x :: l,pv=>match stopK fin x pv l with
  | none=>none
  | some true=>some 0
  | some false=>(stK fin l (wsp x)).map (·+1)
theorem stK_is {s:ByteArray} {fin:Bool}:∀ {l:List UInt8} {p k:Nat} {pv:Bool},Pre s p l→p≤s.size→(fin=true→s.size=p+l.length)→(pv=true↔(0<p∧U.white (byt s (p-1):Int)=true))→stK fin l pv=some k→StpN s false p (p+k)∧p+k≤s.size∧Pre s p (l.take k++l.drop k)∧k≤l.length
 | [],p,k,pv,h,hp,hf,hpv,hk=>by
  unfold stK at hk
  split at hk
  ·rename_i hfin
   injection hk with hk
   subst hk
   have hsz:=hf hfin
   simp at hsz
   exact ⟨⟨Nat.le_refl _,by omega,fun j j1 j2=>by omega,.inl (by omega)⟩,by omega,h,Nat.zero_le _⟩
  ·cases hk
 | x :: l,p,k,pv,h,hp,hf,hpv,hk=>by
  obtain ⟨h1,h2,h3⟩:=h.cons
  have hf':fin=true→s.size=p+1+l.length:=fun e=>by have:=hf e;simp at this;omega
  unfold stK at hk
  cases hs:stopK fin x pv l with
  | none=>rw[hs] at hk;cases hk
  | some r=>
   have hS:=stopK_is h hf' hpv hs
   rw[hs] at hk
   cases r with
   | true=>
    injection hk with hk
    subst hk
    exact ⟨⟨Nat.le_refl _,by omega,fun j j1 j2=>by omega,.inr hS⟩,by omega,h,Nat.zero_le _⟩
   | false=>
    dsimp only at hk
    cases hr:stK fin l (wsp x) with
    | none=>rw[hr] at hk;cases hk
    | some k'=>
     rw[hr] at hk
     injection hk with hk
     have hk:k'+1=k:=hk
     subst hk
     obtain ⟨i1,i2,i3,i4⟩:=stK_is (p:=p+1) h3 (by omega) hf' ⟨fun e=>⟨by omega,by show U.white (byt s p:Int)=true;rw[h2,wsp_white];exact e⟩,fun e=>by have:=e.2;rw[show p+1-1=p by omega,h2,wsp_white] at this;exact this⟩ hr
     refine ⟨⟨by omega,by omega,fun j j1 j2=>?_,?_⟩,by omega,by rw[List.take_append_drop];exact h,by rw[List.length_cons];omega⟩
     ·by_cases e:j=p
      ·rw[e];exact hS
      ·exact i1.2.2.1 j (by omega) (by omega)
     ·rw[show p+(k'+1)=p+1+k' by omega];exact i1.2.2.2
def rowK (n:Int) (fin:Bool):Nat→List UInt8→Bool
 | 0,_=>false
 | g+1,r=>match r.dropWhile wsp with
  | []=>fin
  | x :: r'=>if x=10 then rowK n fin g r' else if x=35 then true else decide (((r.takeWhile (·=32)).length:Int)≤n)
theorem rowK_is {s:ByteArray} {n:Int} {fin:Bool}:∀ (g:Nat) {r:List UInt8} {a:Nat},Pre s a r→a≤s.size→(fin=true→s.size=a+r.length)→rowK n fin g r=true→∃ k c,Blk s a k c∧(s.size≤c∨∃ b i p,c<s.size∧RowE s c b∧InN s c b i∧FirN s c b p∧(kindN s c b p≠5∨(i:Int)≤n))
 | 0,r,a,h,ha,hf,hr=>by cases hr
 | g+1,r,a,h,ha,hf,hr=>by
  unfold rowK at hr
  obtain ⟨w1,w2⟩:=pre_white h
  cases hd:r.dropWhile wsp with
  | nil=>
   rw[hd] at hr
   have hsz:=hf hr
   have htw:(r.takeWhile wsp).length=r.length:=by
    have:=List.takeWhile_append_dropWhile (p:=wsp) (l:=r)
    rw[hd,List.append_nil] at this
    rw[this]
   rw[htw] at w1
   by_cases has:s.size≤a
   ·exact ⟨0,a,.over has,.inl has⟩
   ·have hE:RowE s a s.size:=⟨ha,Nat.le_refl _,(fun j j1 j2 e=>by
     have:=w1 j (by omega) j2
     rw[e] at this
     cases this),.inl rfl⟩
    have hF:FirN s a s.size s.size:=⟨ha,Nat.le_refl _,(fun j j1 j2=>w1 j (by omega) j2),.inl rfl⟩
    exact ⟨1,s.size+1,.more (by omega) hE hF (.over (by omega)),.inl (by omega)⟩
  | cons x r'=>
   rw[hd] at hr w2
   dsimp only at hr
   obtain ⟨x1,x2,x3⟩:=w2.cons
   have hxw:wsp x=false:=dw_head hd
   have hlen:r.length=(r.takeWhile wsp).length+(r'.length+1):=by
    have:=List.takeWhile_append_dropWhile (p:=wsp) (l:=r)
    rw[hd] at this
    rw[←this,List.length_append,List.length_cons,this]
   obtain ⟨p,hp⟩:∃ p,a+(r.takeWhile wsp).length=p:=⟨_,rfl⟩
   rw[hp] at w1 w2 x1 x2 x3
   have hap:a≤p:=by omega
   have hq:∀ j,j<p→a≤j→byt s j≠10:=fun j j1 j2 e=>by
    have:=w1 j j1 j2
    rw[e] at this
    cases this
   have hxn:U.white (byt s p:Int)=false:=by rw[x2,wsp_white];exact hxw
   by_cases h10:x=10
   ·rw[if_pos h10] at hr
    have hb10:byt s p=10:=by rw[x2,h10];rfl
    obtain ⟨k,c,i1,i2⟩:=rowK_is g x3 (by omega) (fun e=>by have:=hf e;omega) hr
    exact ⟨k+1,c,.more (by omega) ⟨hap,by omega,hq,.inr hb10⟩ ⟨hap,Nat.le_refl _,w1,.inl rfl⟩ i1,i2⟩
   ·rw[if_neg h10] at hr
    obtain ⟨b,hb⟩:=RowE.ex s a ha
    have hpb:p<b:=by
     refine Decidable.byContradiction fun hc=>?_
     rcases hb.2.2.2 with e|e
     ·omega
     ·by_cases e2:b=p
      ·rw[e2,x2] at e;exact h10 ((u8_eq (by decide)).1 e)
      ·exact hq b (by omega) hb.1 e
    have hF:FirN s a b p:=⟨hap,by omega,w1,.inr hxn⟩
    obtain ⟨i,hi⟩:=InN.ex s a b hb.1
    refine ⟨0,a,.text (by omega) hb hF (by omega),.inr ⟨b,i,p,by omega,hb,hi,hF,?_⟩⟩
    by_cases h35:x=35
    ·left
     have hb0:byt s p=35:=by rw[x2,h35];rfl
     unfold kindN
     split
     ·decide
     ·split
      ·decide
      ·rw[if_neg (by omega)]
       first|(rw[if_pos hb0];decide)|decide
    ·right
     rw[if_neg h35,decide_eq_true_eq] at hr
     obtain ⟨q1,q2⟩:=pre_blank h
     obtain ⟨i1,i2,i3⟩:=hi
     have hle:i≤(r.takeWhile (·=32)).length:=by
      refine Decidable.byContradiction fun hc=>?_
      have hi32:=i2 (r.takeWhile (·=32)).length (by omega)
      cases hd3:r.dropWhile (·=32) with
      | nil=>
       have h3:=List.takeWhile_append_dropWhile (p:=(·=32)) (l:=r)
       rw[hd3,List.append_nil] at h3
       have hxr:x∈r:=by
        rw[←List.takeWhile_append_dropWhile (p:=wsp) (l:=r),hd]
        simp
       rw[←h3] at hxr
       have hx32:=tw_mem hxr
       have hx32:x=32:=by simpa using hx32
       rw[hx32] at hxw
       exact absurd hxw (by decide)
      | cons y t=>exact q2 y t hd3 hi32
     omega
def aftK (n:Int) (fin:Bool) (l:List UInt8):Bool:=match l.dropWhile wsp with
 | []=>fin
 | x :: r=>if x=10 then rowK n fin (r.length+1) r else true
def begK:List UInt8→Bool
 | []=>false
 | x :: l=>!(endU x)&&(!(U.indic (x.toNat:Int))||(decide (x=45∨x=63∨x=58)&&match l with | []=>false|y :: _=>!(endU y)))
theorem begK_is {s:ByteArray} {p:Nat} {l:List UInt8} (h:Pre s p l) (hb:begK l=true):begB s (p:Int) false=true:=by
 cases l with
 | nil=>cases hb
 | cons x l=>
  obtain ⟨h1,h2,h3⟩:=h.cons
  unfold begK at hb
  rw[Bool.and_eq_true,Bool.or_eq_true] at hb
  obtain ⟨hb1,hb2⟩:=hb
  unfold begB
  rw[endU_is h,hb1,Bool.true_and,Int.toNat_natCast,h2,Bool.or_eq_true]
  rcases hb2 with hb2|hb2
  ·exact .inl hb2
  ·right
   rw[Bool.and_eq_true] at hb2
   obtain ⟨c1,c2⟩:=hb2
   have d:decide (x.toNat=45∨x.toNat=63∨x.toNat=58)=decide (x=45∨x=63∨x=58):=decide_eq_decide.2 (by rw[u8_eq (by decide),u8_eq (by decide),u8_eq (by decide)];exact Iff.rfl)
   rw[d,c1,Bool.true_and]
   cases l with
   | nil=>cases c2
   | cons y l'=>
    dsimp only at c2
    rw[show ((p:Int)+1)=((p+1:Nat):Int) by omega,endU_is h3,c2]
    rfl
def plainK (n:Int) (fin:Bool) (l:List UInt8):Option Nat:=if begK l=true then (match stK fin l false with
 | none=>none
 | some k=>if aftK n fin (l.drop (rtr (l.take k)).length)=true then some (rtr (l.take k)).length else none) else none
theorem begK_35 {x:UInt8} {l:List UInt8} (h:begK (x :: l)=true):x≠35:=by
 intro e
 subst e
 unfold begK at h
 dsimp only at h
 revert h
 have:U.indic ((35:UInt8).toNat:Int)=true:=by decide
 rw[this]
 simp
theorem stK_35 {fin:Bool} {x:UInt8} {l:List UInt8} (h:x≠35) (pv:Bool):stK fin (x :: l) pv=stK fin (x :: l) false:=by
 have:stopK fin x pv l=stopK fin x false l:=by
  unfold stopK
  have e:(x=10∨(x=35∧pv=true))↔(x=10∨(x=35∧false=true)):=by
   constructor
   ·intro hc;rcases hc with hc|hc
    ·exact .inl hc
    ·exact absurd hc.1 h
   ·intro hc;rcases hc with hc|hc
    ·exact .inl hc
    ·exact absurd hc.1 h
  by_cases c:(x=10∨(x=35∧pv=true))
  ·rw[if_pos c,if_pos (e.1 c)]
  ·rw[if_neg c,if_neg (fun hc=>c (e.2 hc))]
 unfold stK
 rw[this]
theorem PlaiG.over {s:ByteArray} {n:Int} {fl:Bool} {g e t k a:Nat} {R:List (List UInt8)} {one:Bool} (ht:RowE s e t) (hf:FirN s e t t) (hk:Blk s (t+1) k a) (h2:s.size≤a) :
  PlaiG s n fl (U.flowT R) e one 0 (g+1) e R one:=by
 intro t' f' ht' hf'
 obtain rfl:=ht.uniq ht'
 obtain rfl:=hf.uniq hf'
 split
 ·exact ⟨rfl,rfl,rfl,rfl⟩
 ·intro k' a' hk'
  obtain ⟨rfl,rfl⟩:=hk.uniq hk'
  rw[if_pos h2]
  exact ⟨rfl,rfl,rfl,rfl⟩
theorem plain_ofK {s:ByteArray} {n:Int} {fin:Bool} {p k:Nat} {l:List UInt8} (hl:Pre s p l) (hps:p≤s.size) (hfin:fin=true→s.size=p+l.length) (h:plainK n fin l=some k):PlaiZ s (p:Int) n false (l.take k) ((p+k:Nat):Int) true 0∧begB s (p:Int) false=true∧ParN s false p (p+k):=by
 unfold plainK at h
 split at h
 ·rename_i hb
  have hB:=begK_is hl hb
  cases l with
  | nil=>cases hb
  | cons x l0=>
   have h35:=begK_35 hb
   obtain ⟨pv,hpv⟩:∃ pv:Bool,pv=true↔(0<p∧U.white (byt s (p-1):Int)=true):=⟨decide (0<p∧U.white (byt s (p-1):Int)=true),by rw[decide_eq_true_eq]⟩
   rw[←stK_35 h35 pv] at h
   cases hs:stK fin (x :: l0) pv with
   | none=>rw[hs] at h;cases h
   | some q=>
    rw[hs] at h
    dsimp only at h
    obtain ⟨s1,s2,s3,s4⟩:=stK_is hl hps hfin hpv hs
    obtain ⟨w,e1,e2,e3⟩:=rtr_spec ((x :: l0).take q)
    obtain ⟨c,hc⟩:∃ c,(x :: l0).take q=c:=⟨_,rfl⟩
    have hcl:c.length=q:=by rw[←hc,List.length_take];omega
    rw[hc] at h s3 e1 e3
    split at h
    ·rename_i haf
     injection h with h
     obtain ⟨L,hL⟩:∃ L,x :: l0=L:=⟨_,rfl⟩
     rw[hL] at hl hc s3 haf s4 hfin ⊢
     have hwl:c.length=k+w.length:=by rw[←h,←List.length_append,←e1]
     have hpc:Pre s p (rtr c++(w++L.drop q)):=by rw[←List.append_assoc,←e1];exact s3
     have hLe:L=rtr c++(w++L.drop q):=by rw[←List.append_assoc,←e1,←hc,List.take_append_drop]
     have hLk:L.take k=rtr c:=by rw[hLe,←h,List.take_left]
     have hLd:L.drop k=w++L.drop q:=by
      conv=>lhs;rw[hLe,←h,List.drop_left]
     have hPar:ParN s false p (p+k):=⟨p+q,s1,by omega,by omega,fun j j1 j2=>by
      have hb:=hpc.app.2.app.1.byte (j-(p+k)) (by omega)
      rw[h,show p+k+(j-(p+k))=j by omega] at hb
      rw[hb,wsp_white]
      refine e2 _ ?_
      simp only[List.getD]
      rw[List.getElem?_eq_getElem (by omega),Option.getD_some]
      exact List.getElem_mem _,by
      rcases e3 with e3|⟨y',t',e3,e4⟩
      ·left;rw[←h,e3];rfl
      ·right
       have hb:=hpc.app.1.byte t'.length (by rw[e3];simp)
       have hk:k=t'.length+1:=by rw[←h,e3,List.length_append];rfl
       rw[e3] at hb
       rw[hk,show p+(t'.length+1)-1=p+t'.length by omega,hb]
       have:(t'++[y']).getD t'.length 0=y':=by simp[List.getD]
       rw[this,wsp_white]
       exact e4⟩
     refine ⟨?_,hB,hPar⟩
     have hpk:p+k≤s.size:=by omega
     have hA:Pre s (p+k) (L.drop k):=by rw[hLd,←h];exact hpc.app.2
     have hfA:fin=true→s.size=p+k+(L.drop k).length:=fun e=>by
      have:=hfin e
      rw[List.length_drop]
      have:k≤L.length:=by omega
      omega
     refine PlaiZ.of hB hPar ?_
     have hpiece:pieceL s p (p+k)=L.take k:=by rw[hLk,←h];exact hpc.piece
     have hT:U.flowT [L.take k]=L.take k:=(congrArg (fun z=>L.take k++z) (U.flowGo_nil 0)).trans (List.append_nil _)
     rw[hpiece]
     refine Eq.mp (congrArg (fun T=>PlaiG s n false T (p+k) true 0 (s.size+1) (p+k) [L.take k] true) hT) ?_
     rw[h] at haf
     unfold aftK at haf
     obtain ⟨w1,w2⟩:=pre_white hA
     cases hd:(L.drop k).dropWhile wsp with
     | nil=>
      rw[hd] at haf
      have hsz:=hfA haf
      have htw:((L.drop k).takeWhile wsp).length=(L.drop k).length:=by
       have:=List.takeWhile_append_dropWhile (p:=wsp) (l:=L.drop k)
       rw[hd,List.append_nil] at this
       rw[this]
      rw[htw] at w1
      have hE:RowE s (p+k) s.size:=⟨hpk,Nat.le_refl _,(fun j j1 j2 e=>by
       have:=w1 j (by omega) j2
       rw[e] at this
       cases this),.inl rfl⟩
      have hF:FirN s (p+k) s.size s.size:=⟨hpk,Nat.le_refl _,(fun j j1 j2=>w1 j (by omega) j2),.inl rfl⟩
      exact PlaiG.stop hE hF (.inr (Nat.le_refl _))
     | cons y r=>
      rw[hd] at haf w2
      dsimp only at haf
      have hlen:(L.drop k).length=((L.drop k).takeWhile wsp).length+(r.length+1):=by
       have:=List.takeWhile_append_dropWhile (p:=wsp) (l:=L.drop k)
       rw[hd] at this
       have h2:=congrArg List.length this
       rw[List.length_append,List.length_cons] at h2
       omega
      obtain ⟨f,hf⟩:∃ f,p+k+((L.drop k).takeWhile wsp).length=f:=⟨_,rfl⟩
      rw[hf] at w1 w2
      obtain ⟨y1,y2,y3⟩:=w2.cons
      have hyw:wsp y=false:=dw_head hd
      have hq:∀ j,j<f→p+k≤j→byt s j≠10:=fun j j1 j2 e=>by
       have:=w1 j j1 j2
       rw[e] at this
       cases this
      obtain ⟨t,ht⟩:=RowE.ex s (p+k) hpk
      have hft:f≤t:=by
       refine Decidable.byContradiction fun hcc=>?_
       rcases ht.2.2.2 with e|e
       ·omega
       ·exact hq t (by omega) ht.1 e
      have hF:FirN s (p+k) t f:=⟨by omega,hft,w1,.inr (by rw[y2,wsp_white];exact hyw)⟩
      by_cases h10:y=10
      ·rw[if_pos h10] at haf
       have hb10:byt s f=10:=by rw[y2,h10];rfl
       have htf:t=f:=by
        refine Decidable.byContradiction fun hcc=>?_
        exact ht.2.2.1 f (by omega) (by omega) hb10
       subst htf
       obtain ⟨k',c',i1,i2⟩:=rowK_is _ y3 (by omega) (fun e=>by have:=hfA e;omega) haf
       rcases i2 with i2|⟨b,i,p',i2,i3,i4,i5,i6⟩
       ·exact PlaiG.over ht hF i1 i2
       ·exact PlaiG.less ht hF y1 i1 i2 i3 i4 i5 i6
      ·refine PlaiG.stop ht hF (.inl ?_)
       refine Decidable.byContradiction fun hcc=>?_
       have e:t=f:=by omega
       rcases ht.2.2.2 with e2|e2
       ·omega
       ·rw[e,y2] at e2;exact h10 ((u8_eq (by decide)).1 e2)
    ·cases h
 ·cases h
end Go.Proofs.YtafhgbokdfhapaaGreatDoor
namespace Go.Proofs.YtafhgbokdfhapaaGreatDoor
open Go.RowKit
theorem sameRow_of {s:ByteArray} {p:Nat} {l:List UInt8} (h:Pre s p l) (h10:∀ x∈l,x≠10):sameRow s p (p+l.length)=true:=by
 unfold sameRow
 refine decide_eq_true fun j h1 h2=>?_
 have hb:=h.byte (j-p) (by omega)
 rw[show p+(j-p)=j by omega] at hb
 rw[hb]
 intro e
 have e2:=(u8_eq (by decide)).1 e
 refine h10 (l.getD (j-p) 0) ?_ e2
 simp only[List.getD]
 rw[List.getElem?_eq_getElem (by omega),Option.getD_some]
 exact List.getElem_mem _
section
variable {s:ByteArray} {n:Int} {col:Nat→Nat→Rd (NT × Nat)→Prop}
def leafN (st:Int) (p:Nat) (T:List UInt8):NT:=.mk ⟨1,st,p,0,[],[],T,[],[],false,[]⟩ []
end
theorem AlikeT.of_head {x y:NT} {h:NH} (hh:headE h x.h) (ha:AlikeT x y):AlikeT (.mk h x.kids) y:=by
 cases x
 unfold AlikeT at ha ⊢
 obtain ⟨h1,h2⟩:=ha
 exact ⟨⟨hh.1.trans h1.1,hh.2.1.trans h1.2.1,hh.2.2.1.trans h1.2.2.1,hh.2.2.2.1.trans h1.2.2.2.1,hh.2.2.2.2.trans h1.2.2.2.2⟩,h2⟩
theorem AlikeT.lead {x y:NT} (l:Coms) (h:AlikeT x y):AlikeT (x.withLead l) y:=.of_head ⟨rfl,rfl,rfl,rfl,rfl⟩ h
theorem AlikeT.top {x y:NT} (l:Coms) (m:Int) (h:AlikeT x y):AlikeT (x.withTop l m) y:=.of_head ⟨rfl,rfl,rfl,rfl,rfl⟩ h
theorem AlikeL.app:∀ {a b c d:List NT},AlikeL a b→AlikeL c d→AlikeL (a++c) (b++d)
 | [],b,c,d,h,h2=>by unfold AlikeL at h;subst h;exact h2
 | x :: a,b,c,d,h,h2=>by
  unfold AlikeL at h
  obtain ⟨u,us,rfl,h1,h3⟩:=h
  rw[List.cons_append,List.cons_append]
  unfold AlikeL
  exact ⟨u,us++d,rfl,h1,AlikeL.app h3 h2⟩
mutual
theorem AlikeT.both:∀ (x y z:NT),AlikeT x z→AlikeT y z→AlikeT x y
 | .mk h k,y,z,h1,h2=>by
  cases y with
  | mk hy ky=>
   unfold AlikeT at h1 h2 ⊢
   obtain ⟨a1,a2⟩:=h1
   obtain ⟨b1,b2⟩:=h2
   exact ⟨⟨a1.1.trans b1.1.symm,a1.2.1.trans b1.2.1.symm,a1.2.2.1.trans b1.2.2.1.symm,a1.2.2.2.1.trans b1.2.2.2.1.symm,a1.2.2.2.2.trans b1.2.2.2.2.symm⟩,AlikeL.both k ky z.kids a2 b2⟩
theorem AlikeL.both:∀ (x y z:List NT),AlikeL x z→AlikeL y z→AlikeL x y
 | [],y,z,h1,h2=>by
  unfold AlikeL at h1 ⊢
  subst h1
  have:=h2.len
  exact List.eq_nil_of_length_eq_zero (by simpa using this)
 | t :: ts,y,z,h1,h2=>by
  unfold AlikeL at h1
  obtain ⟨u,us,rfl,h3,h4⟩:=h1
  cases y with
  | nil=>have:=h2.len;simp at this
  | cons y ys=>
   unfold AlikeL at h2
   obtain ⟨u2,us2,e,h5,h6⟩:=h2
   injection e with e1 e2
   subst e1 e2
   unfold AlikeL
   exact ⟨y,ys,rfl,AlikeT.both t y u h3 h5,AlikeL.both ts ys us h4 h6⟩
end
end Go.Proofs.YtafhgbokdfhapaaGreatDoor
namespace Go.Proofs.YtafhgbokdfhapaaGreatDoor
open Go.RowKit
theorem prop_beg {s:ByteArray} {p:Nat} (h:begB s (p:Int) false=true):PropZ s (p:Int) false [] [] (p:Int) 0:=by
 obtain ⟨h1,h2,_,h3,_⟩:=beg_not h
 refine .inl ⟨by omega,p,rfl,?_⟩
 rw[Int.toNat_natCast]
 refine .none ?_ rfl rfl rfl rfl
 rintro ⟨_,e|e⟩
 ·exact h3 38 (.inl rfl) e
 ·exact h3 33 (.inr (.inl rfl)) e
theorem row_back {s:ByteArray} {q e t:Nat} (hqe:q≤e) (h10:∀ j,j<e→q≤j→byt s j≠10) (ht:RowE s e t):RowE s q t:=⟨Nat.le_trans hqe ht.1,ht.2.1,fun j j1 j2=>by
 by_cases h:j<e
 ·exact h10 j h j2
 ·exact ht.2.2.1 j j1 (by omega),ht.2.2.2⟩
theorem par_row {s:ByteArray} {q e:Nat} (h:ParN s false q e):q≤e∧e≤s.size∧∀ j,j<e→q≤j→byt s j≠10:=by
 obtain ⟨p,hS,hB⟩:=h
 refine ⟨hB.1,Nat.le_trans hB.2.1 hS.2.1,fun j j1 j2 e10=>?_⟩
 have:=hS.2.2.1 j (Nat.lt_of_lt_of_le j1 hB.2.1) j2
 unfold stopB at this
 rw[decide_eq_true e10] at this
 cases this
theorem key_plain {s:ByteArray} {q e t f:Nat} (hb:begB s (q:Int) false=true) (hP:ParN s false q e) (ht:RowE s e t) (hf:FirN s e t f):KeyR s q (if markB s f 58=true then some f else none):=by
 obtain ⟨h1,h2,h3,h4,h5⟩:=beg_not hb
 obtain ⟨p1,p2,p3⟩:=par_row hP
 have hqe:=beg_part hb hP
 have hte:=ht.1
 unfold KeyR
 rw[if_neg (by omega)]
 refine ⟨t,[],[],(q:Int),0,row_back p1 p3 ht,prop_beg hb,?_⟩
 rw[if_neg (by decide),Int.toNat_natCast]
 refine ⟨q,by rw[if_neg (by omega)],?_⟩
 rw[if_neg (by rintro (h|h);omega;rw[h5 58 (.inr (.inr rfl))] at h;cases h),isB_no (h4 42 (by simp)),isB_no (h4 34 (by simp)),isB_no (h4 39 (by simp)),isB_no (h4 91 (by simp)),isB_no (h4 123 (by simp)),if_neg (by decide),if_neg (by decide),if_neg (by decide),if_pos hb]
 refine ⟨e,hP,?_⟩
 unfold colonR
 rw[if_neg (by omega)]
 exact ⟨f,hf,rfl⟩
theorem open_plain {s:ByteArray} {q e t f:Nat} (hb:begB s (q:Int) false=true) (hP:ParN s false q e) (ht:RowE s e t) (hf:FirN s e t f) (hm:markB s f 58=false):OpenR s q false:=by
 obtain ⟨_,_,_,_,h5⟩:=beg_not hb
 unfold OpenR
 rw[if_neg (by rintro (h|h);rw[h5 45 (by simp)] at h;cases h;rw[h5 63 (by simp)] at h;cases h)]
 have:=key_plain hb hP ht hf
 rw[hm,if_neg (by decide)] at this
 exact ⟨none,this,rfl⟩
theorem open_key {s:ByteArray} {q e t f:Nat} (hb:begB s (q:Int) false=true) (hP:ParN s false q e) (ht:RowE s e t) (hf:FirN s e t f) (hm:markB s f 58=true):OpenR s q true:=by
 unfold OpenR
 split
 ·rfl
 ·have:=key_plain hb hP ht hf
  rw[hm,if_pos rfl] at this
  exact ⟨some f,this,rfl⟩
theorem leaf_plain {s:ByteArray} {n:Int} {deep q k:Nat} {prop:Bool} {T:List UInt8} (hb:begB s (q:Int) false=true) (hZ:PlaiZ s (q:Int) n false T ((q+k:Nat):Int) true 0):leafR s n deep prop q (.ok (leafN 1 q T,q+k)):=by
 obtain ⟨h1,h2,h3,h4,h5⟩:=beg_not hb
 unfold leafR
 rw[isB_no (h4 42 (by simp)),isB_no (h4 34 (by simp)),isB_no (h4 39 (by simp)),isB_no (h4 91 (by simp)),isB_no (h4 123 (by simp)),isB_no (h4 124 (by simp)),isB_no (h4 62 (by simp)),if_neg (by decide),if_neg (by decide),if_neg (by decide),if_neg (by decide),if_pos hb]
 refine ⟨T,_,true,0,hZ,?_⟩
 rw[if_pos rfl,Int.toNat_natCast]
 rfl
theorem cont_plain {s:ByteArray} {k:Spt} {prop:Bool} {q m t f:Nat} {T:List UInt8} {b:Coms × Bool × Nat} (hb:begB s (q:Int) false=true) (hZ:PlaiZ s (q:Int) k.n false T ((q+m:Nat):Int) true 0) (ht:RowE s (q+m) t) (hf:FirN s (q+m) t f) (hq:f=t∨(byt s f=35∧f≠q+m)) (hp:passR s (q+m) (.ok b)) :
  contT s k prop q (.ok (trailT (leafN 1 q T) b.1 b.2.1 b.2.2)):=by
 refine .ok (leaf_plain hb hZ) ⟨t,f,⟨ht,hf⟩,?_⟩
 rw[if_neg (by
  rintro ⟨_,h1,h2⟩
  rcases hq with h|h
  ·omega
  ·rcases h2 with h2|h2
   ·exact h2 h.1
   ·exact h.2 h2)]
 exact .ok (x:=b) hp ⟨fun e=>(by cases e),rfl⟩
section
variable {s:ByteArray} {blk:Nat→Nat→Rd Tre→Prop}
theorem nod_plain {k:Spt} {p q m t f:Nat} {T:List UInt8} {L:Coms} {S:Bool} {b:Coms × Bool × Nat} (hp:passR s p (.ok (L,S,q))) (hn:noneB s k.n k.bare k.flat p q=false) (hb:begB s (q:Int) false=true) (hP:ParN s false q (q+m)) (hZ:PlaiZ s (q:Int) k.n false T ((q+m:Nat):Int) true 0) (ht:RowE s (q+m) t) (hf:FirN s (q+m) t f) (hq:f=t∨(byt s f=35∧f≠q+m)) (hb2:passR s (q+m) (.ok b)) :
  nodT s blk k p (.ok ((trailT (leafN 1 q T) b.1 b.2.1 b.2.2).1.withLead L,(trailT (leafN 1 q T) b.1 b.2.1 b.2.2).2)):=by
 have hm:markB s f 58=false:=by
  unfold markB
  rw[Bool.and_eq_false_iff]
  left
  rcases hq with h|h
  ·rw[h]
   rcases ht.2.2.2 with e|e
   ·unfold isB;rw[decide_eq_false_iff_not];omega
   ·exact isB_no (by rw[e];decide)
  ·exact isB_no (by rw[h.1];decide)
 refine .ok (x:=(L,S,q)) hp ?_
 rw[if_neg (by rw[hn];decide)]
 refine .ok (x:=trailT (leafN 1 q T) b.1 b.2.1 b.2.2) ⟨false,open_plain hb hP ht hf hm,?_⟩ ?_
 ·rw[if_neg (by decide)]
  refine ⟨[],[],(q:Int),0,prop_beg hb,?_⟩
  rw[if_neg (by decide),if_pos rfl]
  exact cont_plain hb hZ ht hf hq hb2
 ·have hl:(trailT (leafN 1 q T) b.1 b.2.1 b.2.2).1.h.lead=[]:=by
   unfold trailT
   split <;> rfl
  rw[hl,List.append_nil]
theorem nod_block {k:Spt} {p q:Nat} {L:Coms} {S:Bool} {x:Tre} (hp:passR s p (.ok (L,S,q))) (hn:noneB s k.n k.bare k.flat p q=false) (ho:OpenR s q true) (hk:k.bare=true∨sameRow s p q=false∨(k.opens=true∧NoTab s p q)) (hx:blk k.deep q (.ok x)):nodT s blk k p (.ok (x.1.withLead (L++x.1.h.lead),x.2)):=by
 refine .ok (x:=(L,S,q)) hp ?_
 rw[if_neg (by rw[hn];decide)]
 refine .ok (x:=x) ⟨true,ho,?_⟩ rfl
 rw[if_pos rfl]
 by_cases h:k.bare=true∨sameRow s p q=false
 ·rw[if_pos h];exact hx
 ·rw[if_neg h]
  rcases hk with hk|hk|⟨h1,h2⟩
  ·exact absurd (.inl hk) h
  ·exact absurd (.inr hk) h
  ·rw[if_neg (by rw[h1];decide)]
   exact .inr ⟨h2,hx⟩
theorem open_mark {p c:Nat} (hc:c=45∨c=63) (h:markB s p c=true):OpenR s p true:=by
 unfold OpenR
 rw[if_pos (by rcases hc with rfl|rfl;exact .inl h;exact .inr h)]
theorem impl_plain {deep p m t f:Nat} {T:List UInt8} (hb:begB s (p:Int) false=true) (hP:ParN s false p (p+m)) (hT:pieceL s p (p+m)=T) (ht:RowE s (p+m) t) (hf:FirN s (p+m) t f) (hm:markB s f 58=true):implR s deep p (.ok (leafN 1 p T,f)):=by
 have hK:=key_plain hb hP ht hf
 rw[hm,if_pos rfl] at hK
 have hpm:=beg_part hb hP
 have hfm:=hf.1
 refine ⟨f,[],[],(p:Int),0,p,hK,prop_beg hb,by rw[Int.toNat_natCast,if_neg (by omega)],fun _=>(beg_not hb).2.2.2.2 58 (by simp),fun h=>absurd h (by rw[Int.toNat_natCast];omega),?_⟩
 refine .ok (x:=leafN 1 p T) ?_ ?_
 ·rw[if_pos (by omega),if_pos hb]
  exact ⟨p+m,hP,⟨hfm,hf.2.2.1⟩,by rw[hT];rfl⟩
 ·rw[Int.toNat_natCast,if_neg (by omega)]
theorem pair_plain {c deep p m t f:Nat} {T:List UInt8} {v:Tre} (hb:begB s (p:Int) false=true) (hP:ParN s false p (p+m)) (hT:pieceL s p (p+m)=T) (ht:RowE s (p+m) t) (hf:FirN s (p+m) t f) (hm:markB s f 58=true) (hv:nodT s blk ⟨c,false,false,true,deep,false⟩ (f+1) (.ok v)) :
  pairQ s blk c deep p (.ok (leafN 1 p T,v.1,v.2)):=by
 obtain ⟨_,_,_,_,h5⟩:=beg_not hb
 unfold pairQ
 rw[if_neg (by rw[h5 63 (by simp)];decide)]
 exact .ok (impl_plain hb hP hT ht hf hm) (.ok hv rfl)
end
theorem colF_at {s:ByteArray} {a:Nat} (h0:a=0∨byt s (a-1)=10):∀ (c:Nat),(∀ j,j<c→byt s (a+j)≠10)→colF s (a+c)=c
 | 0,_=>by
  cases a with
  | zero=>rfl
  | succ a=>
   rcases h0 with h|h
   ·cases h
   ·have h':byt s a=10:=h
    show (if byt s a=10 then 0 else colF s a+1)=0
    rw[if_pos h']
 | c+1,h=>by
  show (if byt s (a+c)=10 then 0 else colF s (a+c)+1)=c+1
  rw[if_neg (h c (Nat.lt_succ_self _)),colF_at h0 c (fun j hj=>h j (Nat.lt_succ_of_lt hj))]
theorem row0_in {s:ByteArray} {p:Nat} (h0:0<p) (h:byt s (p-1)≠10):row0B s p=false:=by
 unfold row0B
 rw[decide_eq_false_iff_not]
 rintro (e|e)
 ·omega
 ·exact h e
theorem over_in {s:ByteArray} {p:Nat} (hp:p<s.size) (h:row0B s p=false∨(m3B s p 45=false∧m3B s p 46=false)):overB s p=false:=by
 unfold overB
 rw[decide_eq_false (by omega),Bool.false_or]
 rcases h with h|⟨h1,h2⟩
 ·rw[h];rfl
 ·rw[h1,h2];simp
theorem m3_not {s:ByteArray} {p c:Nat} (h:isB s p c=false∨isB s (p+1) c=false):m3B s p c=false:=by
 unfold m3B
 rcases h with h|h <;> rw[h] <;> simp
end Go.Proofs.YtafhgbokdfhapaaGreatDoor
namespace Go.Proofs.YtafhgbokdfhapaaGreatDoor
open Go.RowKit
def mkB (l:List UInt8):ByteArray:=⟨l.toArray⟩
end Go.Proofs.YtafhgbokdfhapaaGreatDoor
namespace Go.Proofs.YtafhgbokdfhapaaGreatDoor
open Go.RowKit
theorem IsInts.at {B:Nat} {w:World} {ao:Option Addr} {n cap:Nat} {xs:List Int} (h:IsInts .i64 B w (.slice ao n cap) xs) (hn:xs.length=n) (hp:0<n):∃ b o,ao=some ⟨b,o,none⟩∧b<B∧∀ j,j<n→w.cell? ⟨b,o+j,none⟩=some (.int .i64 (xs.getD j 0)):=by
 obtain ⟨ao',cap',e,h1,h2,h3,h4⟩:=h
 rw[hn] at e h4
 injection e with e1 e2 e3
 subst e1
 exact h4 hp
theorem IsInts.slice {k:IntKind} {B:Nat} {w:World} {v:Value} {xs:List Int} (h:IsInts k B w v xs):∃ ao cap,v=.slice ao xs.length cap∧xs.length≤cap∧cap≤maxLen:=by
 obtain ⟨ao,cap,rfl,h1,h2,_⟩:=h
 exact ⟨ao,cap,rfl,h1,h2⟩
end Go.Proofs.YtafhgbokdfhapaaGreatDoor
namespace Go.Proofs.YtafhgbokdfhapaaGreatDoor
open Go.RowKit
theorem mkB_size (m:List UInt8):(mkB m).size=m.length:=by simp[mkB,ByteArray.size]
theorem mkB_append (a b:List UInt8):mkB a++mkB b=mkB (a++b):=by unfold mkB;rw[ByteArray.mk_append_mk]
end Go.Proofs.YtafhgbokdfhapaaGreatDoor
namespace Go.Proofs.YtafhgbokdfhapaaGreatDoor
open Go.RowKit
theorem size_list (l:List UInt8):(⟨l.toArray⟩:ByteArray).size=l.length:=by simp[ByteArray.size]
set_option maxHeartbeats 400000 in
theorem lawBlanks_is (n:Nat) (z:Int) (w:World) (hz:z=(n:Int)) (hn:n≤1000000000) :
  Calls Tryz.prog 13 #[.int .i64 z] w fun e w'=>e=.returned (.string ⟨(List.replicate n (32:UInt8)).toArray⟩)∧w=w':=by
 subst hz
 go_enter Tryz.func13,Tryz.ntmps13
 go_wp2
 go_loop [3,4] (fun s i=>∃ (k:Nat) (l:List UInt8),i=.int .i64 (k:Int)∧s=.string ⟨l.toArray⟩∧k≤n∧l.length=k∧Hid (l=List.replicate k (32:UInt8))) (fun _ i=>n-(intOf i).toNat)
 case atStart=>exact ⟨0,[],rfl,rfl,Nat.zero_le _,rfl,rfl⟩
 case round=>
  obtain ⟨k,l,rfl,rfl,hk,hl,H⟩:=hrel
  have hl2:=size_list l
  rw[hl] at hl2
  by_cases hk2:k<n
  ·go_wp2
   go_round
   case rel=>exact ⟨k+1,l++[32],by go_num,congrArg Value.string (ByteArray.mk_append_mk l [32]),by omega,by simp[hl],by show _=_;rw[H.out,List.replicate_succ']⟩
   case measure=>simp[intOf];omega
  ·obtain rfl:k=n:=by omega
   have HE:=H.out
   subst HE
   go_wp2
   go_ret
   exact ⟨rfl,rfl⟩
end Go.Proofs.YtafhgbokdfhapaaGreatDoor
namespace Go.Proofs.YtafhgbokdfhapaaGreatDoor
open Go.RowKit
attribute [local go_sem ↓] Go.wp_at_zero Go.wp_at_succ
mutual
def NT.sz:NT→Nat
 | .mk _ k=>szL k+1
def szL:List NT→Nat
 | []=>0
 | t :: ts=>t.sz+szL ts
end
theorem szL_at:∀ (l:List NT) (j:Nat) (hj:j<l.length),l[j].sz≤szL l
 | [],j,hj=>absurd hj (Nat.not_lt_zero _)
 | t :: ts,0,hj=>by unfold szL;exact Nat.le_add_right _ _
 | t :: ts,j+1,hj=>by unfold szL;exact Nat.le_trans (szL_at ts j (by simpa using hj)) (Nat.le_add_left _ _)
theorem sz_kids (t:NT):szL t.kids+1=t.sz:=by cases t;unfold NT.sz;rfl
theorem kid_cells {R:Nat→Prop} {w:World} {b o:Nat} {ts:List NT} (hk:IsKids R w b o ts) {j:Nat} (hj:j<ts.length) :
  ∃ v0 v1 v2 v3 v4 v5 v6 v7 v8 v9 v10 v11,IsN R w ts[j] [v0,v1,v2,v3,v4,v5,v6,v7,v8,v9,v10,v11]∧w.cell? ⟨b,o+j*12,none⟩=some v0∧w.cell? ⟨b,o+j*12+1,none⟩=some v1∧w.cell? ⟨b,o+j*12+2,none⟩=some v2∧w.cell? ⟨b,o+j*12+3,none⟩=some v3∧w.cell? ⟨b,o+j*12+4,none⟩=some v4∧w.cell? ⟨b,o+j*12+5,none⟩=some v5∧w.cell? ⟨b,o+j*12+6,none⟩=some v6∧w.cell? ⟨b,o+j*12+7,none⟩=some v7∧w.cell? ⟨b,o+j*12+8,none⟩=some v8∧w.cell? ⟨b,o+j*12+9,none⟩=some v9∧w.cell? ⟨b,o+j*12+10,none⟩=some v10∧w.cell? ⟨b,o+j*12+11,none⟩=some v11:=by
 obtain ⟨cs,h1,h2⟩:=IsKids.at ts o j hj hk
 obtain ⟨kv,lv,fv,e,_⟩:=h2.open
 subst e
 exact ⟨_,_,_,_,_,_,_,_,_,_,_,_,h2,h1 0 (by decide),h1 1 (by decide),h1 2 (by decide),h1 3 (by decide),h1 4 (by decide),h1 5 (by decide),h1 6 (by decide),h1 7 (by decide),h1 8 (by decide),h1 9 (by decide),h1 10 (by decide),h1 11 (by decide)⟩
set_option maxRecDepth 100000 in
set_option maxHeartbeats 3200000 in
theorem Alike_in:∀ (d:Nat) (a b:NT),a.sz≤d→AlikeT a b→∀ (ca cb:List Value) (w:World),IsN (Lo w.heap.size) w a ca→IsN (Lo w.heap.size) w b cb →
  Calls Tryz.prog 15 #[.agg ca.toArray,.agg cb.toArray] w fun e w'=>e=.returned (.bool true)∧Below w.heap.size w w':=by
 intro d
 induction d with
 | zero=>intro a b h;rw[←sz_kids] at h;omega
 | succ d ih=>
  intro a b hd hal ca cb w ha hb
  rw[←sz_kids] at hd
  have hIa:=ha
  have hIb:=hb
  obtain ⟨kva,lva,fva,rfl,-,-,aoa,capa,rfl,a1,a2,a3⟩:=ha.open
  obtain ⟨kvb,lvb,fvb,rfl,-,-,aob,capb,rfl,b1,b2,b3⟩:=hb.open
  have hal2:headE a.h b.h∧AlikeL a.kids b.kids:=by cases a;unfold AlikeT at hal;exact hal
  obtain ⟨⟨e1,e2,e3,e4,e5⟩,hkl⟩:=hal2
  have hn:=hkl.len
  obtain ⟨n,hN⟩:∃ n,a.kids.length=n:=⟨_,rfl⟩
  rw[←hn] at b1 b3 ⊢
  have HK:=Lib.hid hkl
  have A3:=Lib.hid a3
  have B3:=Lib.hid b3
  have HN:=Lib.hid hN
  rw[hN] at a1 b1 ⊢
  have HD:=Lib.hid hd
  unfold maxLen at a2 b2
  unfold headC
  rw[←e1,←e2,←e3,←e4,←e5]
  generalize a.h.kind=x1
  generalize a.h.style=x2
  generalize (⟨a.h.anchor.toArray⟩:ByteArray)=s1
  generalize (⟨a.h.tag.toArray⟩:ByteArray)=s2
  generalize (⟨a.h.text.toArray⟩:ByteArray)=s3
  generalize a.h.at'=y1
  generalize a.h.blank=y2
  generalize a.h.ht=y3
  generalize (⟨a.h.trail.toArray⟩:ByteArray)=y4
  generalize b.h.at'=z1
  generalize b.h.blank=z2
  generalize b.h.ht=z3
  generalize (⟨b.h.trail.toArray⟩:ByteArray)=z4
  clear hal hkl hn a3 b3 hN hd ha hb e1 e2 e3 e4 e5
  go_enter Tryz.func15,Tryz.ntmps15
  go_wp2
  obtain ⟨W2,hW2⟩:∃ W2:World,W2=(w.alloc (.cells #[.int .i64 x1,.int .i64 x2,.int .i64 y1,.int .i64 y2,.string s1,.string s2,.string s3,.slice aoa n capa,lva,fva,.bool y3,.string y4] 29)).alloc (.cells #[.int .i64 x1,.int .i64 x2,.int .i64 z1,.int .i64 z2,.string s1,.string s2,.string s3,.slice aob n capb,lvb,fvb,.bool z3,.string z4] 29):=⟨_,rfl⟩
  have q1:W2.cell? ⟨w.heap.size,7,none⟩=some (.slice aoa n capa):=by rw[hW2];exact (World.cell?_alloc_past _ _ _ (by simp)).trans (World.cell?_alloc_mark ..)
  have q2:W2.cell? ⟨w.heap.size+1,7,none⟩=some (.slice aob n capb):=by rw[hW2];exact World.cell?_alloc_at _ _ _ _ (by simp)
  have q3:W2.heap.size=w.heap.size+2:=by rw[hW2];simp
  have q4:Below w.heap.size w W2:=by rw[hW2];exact ((Below.refl _ _).alloc (Nat.le_refl _) _).alloc (by simp) _
  rw[←hW2]
  clear hW2
  go_loopw [5] (fun vi wr=>∃ k:Nat,vi=.int .i64 (k:Int)∧k≤n∧Below W2.heap.size W2 wr) (fun vi _=>n-(intOf vi).toNat)
  case atStart=>exact ⟨0,rfl,Nat.zero_le _,Below.refl _ _⟩
  case round=>
   obtain ⟨k,rfl,hk,hb⟩:=hrel
   have hbw:=q4.trans (hb.mono (by omega))
   have r1:wr.cell? ⟨w.heap.size,7,none⟩=some (.slice aoa n capa):=by rw[hb.cell (p:=⟨w.heap.size,7,none⟩) (by show w.heap.size<_;omega)];exact q1
   have r2:wr.cell? ⟨w.heap.size+1,7,none⟩=some (.slice aob n capb):=by rw[hb.cell (p:=⟨w.heap.size+1,7,none⟩) (by show w.heap.size+1<_;omega)];exact q2
   clear q1 q2
   by_cases hkn:k<n
   ·obtain ⟨ba,oa,rfl,hlta,hka⟩:=A3.out (by rw[HN.out];omega)
    obtain ⟨bb,ob,rfl,hltb,hkb⟩:=B3.out (by rw[HN.out];omega)
    have hja:k<a.kids.length:=by rw[HN.out];exact hkn
    have hjb:k<b.kids.length:=by rw[←HK.out.len,HN.out];exact hkn
    obtain ⟨p0,p1,p2,p3,p4,p5,p6,p7,p8,p9,p10,p11,hNa,f0,f1,f2,f3,f4,f5,f6,f7,f8,f9,f10,f11⟩:=kid_cells hka (j:=k) hja
    obtain ⟨r0,q1,q2,q3',q4',q5,q6,q7,q8,q9,q10,q11,hNb,g0,g1,g2,g3,g4,g5,g6,g7,g8,g9,g10,g11⟩:=kid_cells hkb (j:=k) hjb
    rw[←hbw.cell (p:=⟨ba,_,none⟩) hlta] at f0 f1 f2 f3 f4 f5 f6 f7 f8 f9 f10 f11
    rw[←hbw.cell (p:=⟨bb,_,none⟩) hltb] at g0 g1 g2 g3 g4 g5 g6 g7 g8 g9 g10 g11
    have NA:=IsN.below hNa hbw hbw.size
    have NB:=IsN.below hNb hbw hbw.size
    have hd2:(a.kids[k]'hja).sz≤d:=by have:=szL_at a.kids k hja;have:=HD.out;omega
    have hal2:AlikeT (a.kids[k]'hja) (b.kids[k]'hjb):=HK.out.at _ _ k hja hjb
    have CI:=fun (W:World) (hW:Below wr.heap.size wr W)=>ih _ _ hd2 hal2 _ _ W (NA.below hW hW.size) (NB.below hW hW.size)
    clear hNa hNb NA NB hka hkb A3 B3 hIa hIb ih hd2 hal2 HK HN HD hja hjb q3 q4
    go_wp2_with fail
    go_region_with (go_at_call 15;refine (CI _ (below_drewN (Below.refl _ _) 1)).mono ?_;rintro e w6 ⟨rfl,hb6⟩)
    all_goals
     have hbd:=(below_drewN hb 1).trans (hb6.mono (below_drewN hb 1).size)
     go_wp2
     go_roundw
     case rel=>exact ⟨k+1,by go_num,by omega,hbd⟩
     case measure=>simp[intOf];omega
   ·go_wp2
    go_ret
    exact ⟨rfl,hbw⟩
theorem Alike_is {a b:NT} (h:AlikeT a b) (ca cb:List Value) (w:World) (ha:IsN (Lo w.heap.size) w a ca) (hb:IsN (Lo w.heap.size) w b cb) :
  Calls Tryz.prog 15 #[.agg ca.toArray,.agg cb.toArray] w fun e w'=>e=.returned (.bool true)∧Below w.heap.size w w':=Alike_in a.sz a b (Nat.le_refl _) h ca cb w ha hb
end Go.Proofs.YtafhgbokdfhapaaGreatDoor
