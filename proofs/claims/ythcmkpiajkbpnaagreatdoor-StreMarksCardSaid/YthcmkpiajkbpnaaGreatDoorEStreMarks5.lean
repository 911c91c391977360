/- Parts of the proof of StreMarks, put together from smaller texts (blanks that Lean does not want are struck). Conditions: those that each theorem writes out. -/
import Derived.Laws.Cover4
import Derived.Lib.AppendStr
import Derived.Lib.ConvBytes
import Derived.Lib.Join
import Derived.Lib.MapLaws
import Derived.Lib.SlTrimSet
import Derived.Lib.TrimAscii
import Derived.Shelf.GgClosure.StringsIndexFunc
import Derived.Shelf.GgClosure.StringsTrimFunc
import Derived.Shelf.LaysC
import Derived.Shelf.LaysM
import Derived.Shelf.Small.Strs
import Derived.Shelf.Small.Utf8
import Derived.Shelf.Small.Wraps
import Derived.Shelf.Strconv.Clone
import Derived.Shelf.Strconv.Itoa0
import Derived.Shelf.Strconv.SyntaxError
import Derived.Shelf.Strconv.ToError
import Derived.Shelf.Strings.AsciiSet
import Derived.Shelf.Strings.Builder1
import Derived.Shelf.Strings.Builder2
import Derived.Shelf.Strings.BuilderF
import Derived.Shelf.Strings.BuilderK
import Derived.Shelf.Strings.BuilderRune
import Derived.Shelf.Strings.Count
import Derived.Shelf.Strings.LastIndex
import Derived.Shelf.Strings.OnBuilder
import Derived.Shelf.Strings.Prefix
import Derived.Shelf.Strings.Runes
import Derived.Shelf.Strings.Search1
import Derived.Shelf.Strings.Search2
import Derived.Shelf.Strings.Search3
import Derived.Shelf.Strings.Shaped
import Derived.Shelf.Strings.Split
import Derived.Shelf.Strings.Trim
import Derived.Shelf.Unicode.DecodeAny
import Derived.Shelf.Unicode.DecodeLast
import Derived.Shelf.Unicode.DecodeSlow
import Derived.Test.YthcmkpiajkbpnaaGreatDoorEStreMarks0
import Derived.Test.YthcmkpiajkbpnaaGreatDoorEStreMarks2
import Derived.Test.YthcmkpiajkbpnaaGreatDoorEStreMarks4
import Derived.Test.YthcmkpiajkbpnaaGreatDoorProg
import Derived.Test.YthcmkpiajkbpnaaGreatDoorZ00
import Derived.Test.YthcmkpiajkbpnaaGreatDoorZ01
import Derived.Test.YthcmkpiajkbpnaaGreatDoorZ02
import Derived.Test.YthcmkpiajkbpnaaGreatDoorZ03
import Derived.Test.YthcmkpiajkbpnaaGreatDoorZ04
import Derived.Test.YthcmkpiajkbpnaaGreatDoorZ05
import Derived.Test.YthcmkpiajkbpnaaGreatDoorZ06
import Derived.Test.YthcmkpiajkbpnaaGreatDoorZ10
import Derived.Test.YthcmkpiajkbpnaaGreatDoorZ11
import Derived.Test.YthcmkpiajkbpnaaGreatDoorZ19
import Derived.Test.YthcmkpiajkbpnaaGreatDoorZ32
namespace Go.Proofs.YthcmkpiajkbpnaaGreatDoor
open Go.RowKit
def smE (k:Nat):List UInt8:=if k=0∨k=4 then [32] else if k=2 then [32,35,32,99,10,32,32] else if k=5 then [10,10] else [10]
def fooL:List UInt8:=[37,70,79,79]
def yamL:List UInt8:=[37,89,65,77,76,32,49,46,50]
def dot3:List UInt8:=[46,46,46]
def smG (k:Nat):List UInt8:=if k=2 then [10,10] else [10]
def smR (k:Nat) (l:List UInt8):List UInt8:=if k=3 then dot3++([]++(10 :: l)) else if k=4 then dot3++([]++(10 :: (dot3++([]++(10 :: l))))) else if k=5 then dot3++([32,35,32,99]++(10 :: (fooL++(10 :: (yamL++(10 :: l)))))) else l
def smB:Bool→List (Nat × List UInt8)→List UInt8
 | b,[]=>if b=true then [45,45,45,10] else []
 | _,(k,w) :: r=>dsh++(smE k++(w++(smG k++smR k (smB (k==5) r))))
def smD:Bool→List (Nat × List UInt8)→List DT→Prop
 | b,[],ys=>ys.length=if b=true then 1 else 0
 | b,(k,w) :: r,ys=>∃ y ys',ys=y :: ys'∧y.mark=true∧y.root.h.kind=1∧y.root.h.text=w∧(y.dirs.length=if b=true then 2 else 0)∧smD (k==5) r ys'
section
variable {s:ByteArray}
theorem sm_pass {p:Nat} {f:Bool × List UInt8} {l:List UInt8} (hf:f∈smFol) (hfin:f.1=true→s.size=p+f.2.length) (h0:p=0∨byt s (p-1)=10) (hp:p≤s.size) (h:Pre s p (f.2++l)):∃ S,passR s p (.ok ([],S,p)):=by
 obtain ⟨S,hw⟩:=wNo_is (sm_row f hf)
 obtain ⟨L,hL,hr⟩:=pass_row (fin:=f.1) h0 h.app.1 hfin hw hp
 obtain rfl:L=[]:=List.map_eq_nil_iff.1 hL
 exact ⟨S,hr⟩
theorem cut_pre {p:Nat} {a l:List UInt8} (h:Pre s p (a++l)):Pre (cutB s (p+a.length)) p a:=by
 obtain ⟨r,hr⟩:=h
 unfold Pre cutB
 rw[ByteArray.data_extract,Array.toList_extract]
 show a <+: List.drop p (List.take (p+a.length-0) (List.drop 0 s.data.toList))
 rw[List.drop_zero,Nat.sub_zero,List.drop_take,Nat.add_sub_cancel_left,←hr,List.append_assoc,List.take_left]
 exact List.prefix_refl _
theorem sm_row_end {p:Nat} {a l:List UInt8} (ha:∀ x∈a,x≠10) (h:Pre s p (a++(10 :: l))):RowE s p (p+a.length)∧p+a.length<s.size∧byt s (p+a.length)=10:=by
 obtain ⟨a1,a2⟩:=h.app
 obtain ⟨b1,b2,_⟩:=a2.cons
 refine ⟨⟨Nat.le_add_right _ _,Nat.le_of_lt b1,fun j h1 h2=>?_,.inr b2⟩,b1,b2⟩
 have:=a1.byte (j-p) (by omega)
 rw[show p+(j-p)=j by omega] at this
 rw[this]
 intro e
 have h3:a.getD (j-p) 0∈a:=by
  rw[List.getD,List.getElem?_eq_getElem (by omega),Option.getD_some]
  exact List.getElem_mem _
 exact ha _ h3 (UInt8.toNat_inj.1 e)
variable {D:List DT} {T:Coms} {E C:Int}
theorem sm_dots {p:Nat} {e l:List UInt8} (he:e=[]∨e=[32,35,32,99]) (hp:p≤s.size) (h0:p=0∨byt s (p-1)=10) (h:Pre s p (dot3++(e++(10 :: l)))):∃ L2:Coms,∀ (D:List DT) (T:Coms) (E C:Int) (g:Nat) (H:Coms) (xs:List DT),SZ s D T E C g (p+3+e.length+1) (H++L2) [] xs→SZ s D T E C (g+1) p H [] xs:=by
 have hrow:=sm_row_end (a:=dot3++e) (by rcases he with rfl|rfl <;> decide) (by rw[List.append_assoc];exact h)
 rw[List.length_append] at hrow
 have hf:∃ f∈smFol,f.1=false∧∃ l',dot3++(e++(10 :: l))=f.2++l':=by
  rcases he with rfl|rfl
  ·exact ⟨(false,[46,46,46,10]),by decide,rfl,l,rfl⟩
  ·exact ⟨(false,[46,46,46,32]),by decide,rfl,_,rfl⟩
 obtain ⟨f,hf,hf1,l',hl'⟩:=hf
 obtain ⟨S,hpass⟩:=sm_pass hf (fun e=>by rw[hf1] at e;cases e) h0 hp (by rw[←hl'];exact h)
 have hb:bgnR s p 1:=by
  rcases he with rfl|rfl
  ·exact sm_begin (c:=46) (e:=10) (.inr rfl) (.inl rfl) h0 h
  ·exact sm_begin (c:=46) (e:=32) (.inr rfl) (.inr rfl) h0 h
 have ht:p+(dot3.length+e.length)≤s.size:=Nat.le_of_lt hrow.2.1
 have hcs:(cutB s (p+(dot3.length+e.length))).size=p+(dot3.length+e.length):=cutB_size ht
 have hN:∃ L2 S2 C2,NoteZ (cutB s (p+(dot3.length+e.length))) false 0 ((p+3:Nat):Int) L2 S2 ((p+(dot3.length+e.length):Nat):Int) C2:=by
  rcases he with rfl|rfl
  ·obtain ⟨r0,hr0⟩:=RowB.ex (cutB s (p+(dot3.length+([]:List UInt8).length))) (p+3)
   have hc:clampN ((p+3:Nat):Int) (cutB s (p+(dot3.length+([]:List UInt8).length))).size=p+3:=by rw[hcs];exact clampN_self _ _ (Nat.le_refl _)
   refine ⟨[],false,0,r0,p+3,by rw[hc];exact hr0,rfl,?_⟩
   rw[hc]
   exact .over (by rw[hcs];exact Nat.lt_irrefl _) rfl rfl rfl rfl
  ·have hpre:=cut_pre (s:=s) (p:=p+3) (a:=[32,35,32,99]) (l:=10 :: l) h.app.2
   have hbt:byt (cutB s (p+3+4)) (p+3-1)=46:=by
    rw[cutB_byt (by omega)]
    exact h.app.1.byte 2 (by decide)
   obtain ⟨L,hL,hr⟩:=pass_of (fin:=true) (ts:=[[32,99]]) (S:=true) (k:=4) (by omega) hpre (fun _=>hcs) (by show byt (cutB s (p+3+4)) _≠10;rw[hbt];decide) (by show U.white (byt (cutB s (p+3+4)) _:Int)=false;rw[hbt];rfl) (by decide +kernel) (by show _≤(cutB s (p+(3+4))).size;rw[show (cutB s (p+(3+4))).size=_ from hcs];show _≤p+(3+4);omega)
   obtain ⟨L',S',E',C',hZ,ho⟩:=hr
   split at ho
   ·injection ho with ho
    injection ho with h1 ho
    injection ho with h2 h3
    obtain ⟨r0,E2,x1,x2,x3⟩:=hZ
    refine ⟨L',S',C',r0,E2,x1,?_,x3⟩
    have:E2=p+3+4:=by rw[h3,x2];rfl
    rw[this];rfl
   ·cases ho
 obtain ⟨L2,S2,C2,hN⟩:=hN
 refine ⟨L2,fun D T E C g H xs hS=>.dots hpass hb hrow.1 hN ?_⟩
 rw[List.append_nil]
 have:p+(dot3.length+e.length)+1=p+3+e.length+1:=by show p+(3+e.length)+1=_;omega
 rw[this]
 exact hS
theorem sm_dir {g p:Nat} {d l:List UInt8} {H:Coms} {ds:List (List UInt8)} {xs:List DT} (hd:(d=fooL∧ds=[])∨(d=yamL∧ds=[fooL])) (hp:p≤s.size) (h0:p=0∨byt s (p-1)=10) (h:Pre s p (d++(10 :: l))) (hS:SZ s D T E C g (p+d.length+1) H (ds++[d]) xs):SZ s D T E C (g+1) p H ds xs:=by
 have hrow:=sm_row_end (a:=d) (by rcases hd with ⟨rfl,_⟩|⟨rfl,_⟩ <;> decide) h
 have hpass:∃ S,passR s p (.ok ([],S,p)):=by
  have hw:wNo (wS false (2*d.length+2) d true true false [] false) 0=true:=by rcases hd with ⟨rfl,_⟩|⟨rfl,_⟩ <;> decide +kernel
  obtain ⟨S,hw⟩:=wNo_is hw
  obtain ⟨L,hL,hr⟩:=pass_row (fin:=false) h0 h.app.1 (fun e=>by cases e) hw hp
  obtain rfl:L=[]:=List.map_eq_nil_iff.1 hL
  exact ⟨S,hr⟩
 obtain ⟨S,hpass⟩:=hpass
 have h37:byt s p=37:=by rcases hd with ⟨rfl,_⟩|⟨rfl,_⟩ <;> exact h.cons.2.1
 have hlt:p<s.size:=by have:=hrow.2.1;omega
 have hb:bgnR s p 2:=by
  obtain ⟨q,hq⟩:=FirN.ex s p _ hrow.1.1
  refine ⟨p,_,q,⟨Nat.le_refl _,fun j h1 h2=>by omega,h0⟩,hrow.1,hq,?_⟩
  unfold bgnN kindN
  rw[if_neg (by omega),mk3_not (by rw[h37];decide),mk3_not (by rw[h37];decide)]
  rw[if_neg (c:=(if false=true then (3:Int) else _)=4),if_pos ⟨h37,by omega⟩]
  simp only[Bool.false_eq_true,if_false]
  split
  ·decide
  ·split <;> decide
 have hr:U.tRead (pieceL s p (p+d.length))=(d,[],false,0):=by
  rw[h.piece]
  rcases hd with ⟨rfl,_⟩|⟨rfl,_⟩ <;> decide +kernel
 have ht:U.tTwice ds d=false:=by rcases hd with ⟨rfl,rfl⟩|⟨rfl,rfl⟩ <;> decide +kernel
 refine .dir hpass hb hrow.1 hr ht ?_
 rw[if_neg (by decide),List.append_nil,List.append_nil]
 exact hS
theorem sm_mark {g p:Nat} {l:List UInt8} {f:Bool × List UInt8} {H:Coms} {ds:List (List UInt8)} {xs:List DT} {x:NT} {e:Nat} (hf:f=(false,[45,45,45,10])∨f=(false,[45,45,45,32])) (hp:p≤s.size) (h0:p=0∨byt s (p-1)=10) (h:Pre s p (f.2++l)) (hx:nodT s (blkR s 0) ⟨-1,false,false,false,0,false⟩ (p+3) (.ok (x,[],e))) (ho:overB s e=true)
  (hS:SZ s D T E C g e [] [] (xs++[⟨H,ds,true,x,[]⟩])):SZ s D T E C (g+1) p H ds xs:=by
 obtain ⟨S,hpass⟩:=sm_pass (f:=f) (by rcases hf with rfl|rfl <;> decide) (fun e=>by rcases hf with rfl|rfl <;> cases e) h0 hp h
 have hb:bgnR s p 3:=by
  rcases hf with rfl|rfl
  ·exact sm_begin (c:=45) (e:=10) (.inl rfl) (.inl rfl) h0 h
  ·exact sm_begin (c:=45) (e:=32) (.inl rfl) (.inr rfl) h0 h
 have hsz:p+3≤s.size:=by
  have:=h.app.1.size hp
  rcases hf with rfl|rfl <;> simp at this <;> omega
 refine .mark hpass hb (x:=x) (F:=[]) (e:=e) ⟨0,.ok (x,[],e),?_,?_⟩ (by rw[List.append_nil];exact hS)
 ·rw[show (min ((p+3:Nat):Int) (s.size:Int)).toNat=p+3 by omega]
  exact hx
 ·show if overB s e=true then _ else _
  rw[if_pos ho]
  exact ⟨rfl,rfl,rfl,rfl⟩
theorem smB_fol (b:Bool) (r:List (Nat × List UInt8)):∃ f∈smFol,∃ l,smB b r=f.2++l∧(f.1=true→l=[])∧(f.1=false→f=(false,[45,45,45,10])∨f=(false,[45,45,45,32])):=by
 match b,r with
 | false,[]=>exact ⟨(true,[]),by decide,[],rfl,fun _=>rfl,fun e=>(by cases e)⟩
 | true,[]=>exact ⟨(false,[45,45,45,10]),by decide,[],rfl,fun e=>(by cases e),fun _=>.inl rfl⟩
 | b,(k,w) :: r=>
  unfold smB smE dsh
  split
  ·exact ⟨(false,[45,45,45,32]),by decide,_,rfl,fun e=>(by cases e),fun _=>.inr rfl⟩
  ·split
   ·exact ⟨(false,[45,45,45,32]),by decide,_,rfl,fun e=>(by cases e),fun _=>.inr rfl⟩
   ·split
    ·exact ⟨(false,[45,45,45,10]),by decide,_,rfl,fun e=>(by cases e),fun _=>.inl rfl⟩
    ·exact ⟨(false,[45,45,45,10]),by decide,_,rfl,fun e=>(by cases e),fun _=>.inl rfl⟩
theorem smR_fol (k:Nat) (r:List (Nat × List UInt8)):∃ f∈smFol,∃ l,smR k (smB (k==5) r)=f.2++l∧(f.1=true→l=[]):=by
 unfold smR
 split
 ·exact ⟨(false,[46,46,46,10]),by decide,_,rfl,fun e=>(by cases e)⟩
 ·split
  ·exact ⟨(false,[46,46,46,10]),by decide,_,rfl,fun e=>(by cases e)⟩
  ·split
   ·exact ⟨(false,[46,46,46,32]),by decide,_,rfl,fun e=>(by cases e)⟩
   ·obtain ⟨f,h1,l,h2,h3,_⟩:=smB_fol (k==5) r
    exact ⟨f,h1,l,h2,h3⟩
theorem smE_mem {k:Nat} (_hk:k<6):smE k∈smPre:=by
 unfold smE
 split
 ·decide
 ·split
  ·decide
  ·split <;> decide
theorem smG_mem (k:Nat):smG k∈smGap:=by
 unfold smG
 split <;> decide
theorem smE_fol (k:Nat) (l:List UInt8):∃ f l',(f=(false,[45,45,45,10])∨f=(false,[45,45,45,32]))∧dsh++(smE k++l)=f.2++l':=by
 unfold smE
 split
 ·exact ⟨_,_,.inr rfl,rfl⟩
 ·split
  ·exact ⟨_,_,.inr rfl,rfl⟩
  ·split
   ·exact ⟨_,_,.inl rfl,rfl⟩
   ·exact ⟨_,_,.inl rfl,rfl⟩
theorem sm_all:∀ (r:List (Nat × List UInt8)) (b:Bool) (p:Nat) (H:Coms) (ds:List (List UInt8)) (xs:List DT),(∀ x∈r,x.1<6∧x.2∈wordL)→Pre s p (smB b r)→s.size=p+(smB b r).length→(p=0∨byt s (p-1)=10)→(ds.length=if b=true then 2 else 0) →
  ∃ D T g ys,D=xs++ys∧smD b r ys∧g≤8*r.length+(if b=true then 4 else 2)∧SZ s D T 0 0 g p H ds xs
 | [],false,p,H,ds,xs,_,h,hs,h0,hd=>by
  have hd:ds=[]:=List.eq_nil_of_length_eq_zero (by simpa using hd)
  subst hd
  have hs:s.size=p:=by simpa [smB] using hs
  obtain ⟨S,hpass⟩:=sm_pass (f:=(true,[])) (l:=[]) (by decide) (fun _=>by simpa using hs) h0 (by omega) h
  have hb:bgnR s p 0:=by
   obtain ⟨a,ha⟩:=RowB.ex s p
   obtain ⟨e,he⟩:=RowE.ex s p (by omega)
   obtain ⟨q,hq⟩:=FirN.ex s a e (Nat.le_trans ha.1 he.1)
   exact ⟨a,e,q,ha,he,hq,by unfold bgnN;rw[if_pos (by omega)]⟩
  exact ⟨xs,H,1,[],by simp,rfl,by show 1≤8*0+2;omega,.over hpass hb rfl (by simp) rfl rfl⟩
 | [],true,p,H,ds,xs,_,h,hs,h0,hd=>by
  have hs:s.size=p+4:=hs
  have h:Pre s p [45,45,45,10]:=h
  have h3:Pre s (p+3) [10]:=(show Pre s p ([45,45,45]++[10]) from h).app.2
  have hb:byt s (p+3-1)=45:=h.byte 2 (by decide)
  obtain ⟨L,hL,hpass⟩:=pass_of (fin:=true) (by omega) h3 (fun _=>hs) (by rw[hb];decide) (by rw[hb];rfl) ti_end (by omega)
  obtain rfl:L=[]:=List.map_eq_nil_iff.1 hL
  have hov:overB s (p+3+1)=true:=by rw[show p+3+1=s.size by omega];exact over_end s
  have hn:=nod_none (blk:=blkR s 0) (k:=⟨-1,false,false,false,0,false⟩) hpass (by unfold noneB;rw[hov];rfl)
  have hpe:s.size=p+3+1:=by omega
  obtain ⟨D,T,g,ys,hD,hys,hg,hS⟩:=sm_all [] false (p+3+1) [] [] (xs++[⟨H,ds,true,voidN,[]⟩]) (by simp) (by show Pre s _ [];exact List.nil_prefix) (by show s.size=_+0;omega) (.inr (by show byt s (p+3)=10;exact h.byte 3 (by decide))) rfl
  have hys:ys=[]:=List.eq_nil_of_length_eq_zero hys
  subst hys
  refine ⟨D,T,g+1,[⟨H,ds,true,voidN,[]⟩],by rw[hD,List.append_nil],rfl,by have hg:g≤8*0+2:=hg;show g+1≤8*0+4;omega,sm_mark (f:=(false,[45,45,45,10])) (l:=[]) (.inl rfl) (by omega) h0 h hn hov hS⟩
 | (k,w) :: r,b,p,H,ds,xs,hr,h,hs,h0,hd=>by
  obtain ⟨hk,hw⟩:=hr (k,w) (by simp)
  have h:Pre s p (dsh++(smE k++(w++(smG k++smR k (smB (k==5) r))))):=h
  have hs:s.size=p+(dsh++(smE k++(w++(smG k++smR k (smB (k==5) r))))).length:=hs
  simp only[List.length_append] at hs
  have hd3:dsh.length=3:=rfl
  obtain ⟨f,hf,l,hfl,hfin⟩:=smR_fol k r
  obtain ⟨f0,l0,hf0,hfl0⟩:=smE_fol k (w++(smG k++smR k (smB (k==5) r)))
  have h3:=h.app.2
  have hfl':f.1=true→(smR k (smB (k==5) r)).length=f.2.length:=fun e=>by rw[hfl,hfin e,List.append_nil]
  have hfz:f.1=true→s.size=p+3+(smE k).length+w.length+(smG k).length+f.2.length:=fun e=>by
   have h1:=hfl' e
   omega
  obtain ⟨x,hx1,hx2,hx⟩:=sm_word (blk:=blkR s 0) (k:=⟨-1,false,false,false,0,false⟩) (p:=p+3) (f:=f) (l:=l) ⟨rfl,rfl⟩ (smE_mem hk) hw (smG_mem k) hf hfz (by omega) (show byt s (p+3-1)=45 from h.app.1.byte 2 (by decide)) (by omega) (by rw[←hfl];exact h3)
  have h4:=((h3.app.2).app.2).app.2
  have hgl:0<(smG k).length∧∀ j,j<(smG k).length→(smG k).getD j 0=10:=by
   unfold smG;split <;> decide
  have h10:byt s (p+dsh.length+(smE k).length+w.length+(smG k).length-1)=10:=by
   have:=(((h3.app.2).app.2).app.1).byte ((smG k).length-1) (by omega)
   rw[hgl.2 _ (by omega)] at this
   rw[show p+dsh.length+(smE k).length+w.length+(smG k).length-1=p+dsh.length+(smE k).length+w.length+((smG k).length-1) by omega]
   exact this
  obtain ⟨p4,hp4⟩:∃ p4,p4=p+dsh.length+(smE k).length+w.length+(smG k).length:=⟨_,rfl⟩
  rw[←hp4] at h4 h10
  have hx:nodT s (blkR s 0) ⟨-1,false,false,false,0,false⟩ (p+3) (.ok (x,[],p4)):=by rw[hp4];exact hx
  have hs4:s.size=p4+(smR k (smB (k==5) r)).length:=by omega
  have hov:overB s p4=true:=sm_over hf (fun e=>by have:=hfl' e;omega) (.inr h10) (by rw[←hfl];exact h4)
  have hr':∀ x∈r,x.1<6∧x.2∈wordL:=fun x hx=>hr x (by simp[hx])
  -- what stands behind
  have key:∃ D T g ys,D=(xs++[⟨H,ds,true,x,[]⟩])++ys∧smD (k==5) r ys∧g≤8*r.length+7∧SZ s D T 0 0 g p4 [] [] (xs++[⟨H,ds,true,x,[]⟩]):=by
   have hp4s:p4≤s.size:=by omega
   by_cases k3:k=3
   ·subst k3
    have h4:Pre s p4 (dot3++([]++(10 :: smB false r))):=h4
    have hs4:s.size=p4+(3+(0+((smB false r).length+1))):=by rw[hs4];show p4+(dot3++([]++(10 :: smB false r))).length=_;simp only[List.length_append,List.length_cons];rfl
    obtain ⟨_,h5b,h5⟩:=((h4.app.2).app.2).cons
    obtain ⟨L2,hL2⟩:=sm_dots (.inl rfl) hp4s (.inr h10) h4
    obtain ⟨D,T,g,ys,hD,hys,hg,hS⟩:=sm_all r false (p4+3+([]:List UInt8).length+1) ([]++L2) [] (xs++[⟨H,ds,true,x,[]⟩]) hr' h5 (by show s.size=p4+3+0+1+_;omega) (.inr h5b) rfl
    exact ⟨D,T,g+1,ys,hD,hys,by (first|(have hg:g≤8*r.length+2:=hg;omega)|(have hg:g≤8*r.length+4:=hg;omega)),hL2 _ _ _ _ _ _ _ hS⟩
   ·by_cases k4:k=4
    ·subst k4
     have h4:Pre s p4 (dot3++([]++(10 :: (dot3++([]++(10 :: smB false r)))))):=h4
     have hs4:s.size=p4+(3+(0+(3+(0+((smB false r).length+1))+1))):=by rw[hs4];show p4+(dot3++([]++(10 :: (dot3++([]++(10 :: smB false r)))))).length=_;simp only[List.length_append,List.length_cons];rfl
     obtain ⟨_,h5b,h5⟩:=((h4.app.2).app.2).cons
     obtain ⟨L2,hL2⟩:=sm_dots (.inl rfl) hp4s (.inr h10) h4
     obtain ⟨_,h6b,h6⟩:=((h5.app.2).app.2).cons
     obtain ⟨L3,hL3⟩:=sm_dots (p:=p4+3+([]:List UInt8).length+1) (.inl rfl) (by show p4+3+0+1≤_;omega) (.inr h5b) h5
     obtain ⟨D,T,g,ys,hD,hys,hg,hS⟩:=sm_all r false (p4+3+([]:List UInt8).length+1+3+([]:List UInt8).length+1) ([]++L2++L3) [] (xs++[⟨H,ds,true,x,[]⟩]) hr' h6 (by show s.size=p4+3+0+1+3+0+1+_;omega) (.inr h6b) rfl
     exact ⟨D,T,g+1+1,ys,hD,hys,by (first|(have hg:g≤8*r.length+2:=hg;omega)|(have hg:g≤8*r.length+4:=hg;omega)),hL2 _ _ _ _ _ _ _ (hL3 _ _ _ _ _ _ _ hS)⟩
    ·by_cases k5:k=5
     ·subst k5
      have h4:Pre s p4 (dot3++([32,35,32,99]++(10 :: (fooL++(10 :: (yamL++(10 :: smB true r))))))):=h4
      have hs4:s.size=p4+(3+(4+(4+(9+((smB true r).length+1)+1)+1))):=by rw[hs4];show p4+(dot3++([32,35,32,99]++(10 :: (fooL++(10 :: (yamL++(10 :: smB true r))))))).length=_;simp only[List.length_append,List.length_cons];rfl
      obtain ⟨_,h5b,h5⟩:=((h4.app.2).app.2).cons
      obtain ⟨L2,hL2⟩:=sm_dots (.inr rfl) hp4s (.inr h10) h4
      have h5:Pre s (p4+3+4+1) (fooL++(10 :: (yamL++(10 :: smB true r)))):=h5
      have h5b:byt s (p4+3+4)=10:=h5b
      obtain ⟨_,h6b,h6⟩:=(h5.app.2).cons
      have h6:Pre s (p4+3+4+1+4+1) (yamL++(10 :: smB true r)):=h6
      have h6b:byt s (p4+3+4+1+4)=10:=h6b
      obtain ⟨_,h7b,h7⟩:=(h6.app.2).cons
      have h7:Pre s (p4+3+4+1+4+1+9+1) (smB true r):=h7
      have h7b:byt s (p4+3+4+1+4+1+9)=10:=h7b
      obtain ⟨D,T,g,ys,hD,hys,hg,hS⟩:=sm_all r true (p4+3+4+1+4+1+9+1) ([]++L2) [fooL,yamL] (xs++[⟨H,ds,true,x,[]⟩]) hr' h7 (by omega) (.inr h7b) rfl
      exact ⟨D,T,g+1+1+1,ys,hD,hys,by (first|(have hg:g≤8*r.length+2:=hg;omega)|(have hg:g≤8*r.length+4:=hg;omega)),hL2 _ _ _ _ _ _ _ (sm_dir (.inl ⟨rfl,rfl⟩) (by show p4+3+4+1≤_;omega) (.inr h5b) h5 (sm_dir (.inr ⟨rfl,rfl⟩) (by show p4+3+4+1+4+1≤_;omega) (.inr h6b) h6 hS))⟩
     ·have hR:smR k (smB (k==5) r)=smB (k==5) r:=by unfold smR;rw[if_neg k3,if_neg k4,if_neg k5]
      have hkf:(k==5)=false:=by simpa using k5
      rw[hR] at h4 hs4
      rw[hkf] at h4 hs4 ⊢
      obtain ⟨D,T,g,ys,hD,hys,hg,hS⟩:=sm_all r false p4 [] [] (xs++[⟨H,ds,true,x,[]⟩]) hr' h4 hs4 (.inr h10) rfl
      exact ⟨D,T,g,ys,hD,hys,by have hg:g≤8*r.length+2:=hg;omega,hS⟩
  obtain ⟨D,T,g,ys,hD,hys,hg,hS⟩:=key
  refine ⟨D,T,g+1,⟨H,ds,true,x,[]⟩ :: ys,by rw[hD];simp,⟨_,ys,rfl,rfl,hx1,hx2,hd,hys⟩,by simp only[List.length_cons];split <;> omega,sm_mark (l:=l0) hf0 (by omega) h0 (by rw[←hfl0];exact h) hx hov hS⟩
termination_by r b=>2*r.length+(if b=true then 1 else 0)
decreasing_by
 all_goals (simp only[List.length_cons,List.length_nil];first|omega|(split <;> omega)|decide|(simp;omega))
theorem sm_text {r:List (Nat × List UInt8)} (hn:r.length≤1000) (hr:∀ x∈r,x.1<6∧x.2∈wordL) (h:s.data.toList=smB false r):∃ D T,smD false r D∧StreZ s D T 0 0:=by
 obtain ⟨D,T,g,ys,hD,hys,hg,hS⟩:=sm_all r false 0 [] [] [] hr (by unfold Pre;rw[List.drop_zero,h];exact List.prefix_refl _) (by rw[Nat.zero_add,←h,Lib.size_eq]) (.inl rfl) rfl
 rw[List.nil_append] at hD
 subst hD
 exact ⟨D,T,hys,g,by have hg:g≤8*r.length+2:=hg;omega,hS⟩
end
end Go.Proofs.YthcmkpiajkbpnaaGreatDoor
namespace Go.Proofs.YthcmkpiajkbpnaaGreatDoor
open Go.RowKit
def kM (wh:List Int) (i:Nat):Nat:=if i<wh.length then (lowZ (wh.getD i 0) 6).toNat else 0
def rowsM (ws wh:List Int):List (Nat × List UInt8):=(List.range ws.length).map fun i=>(kM wh i,word (ws.getD i 0))
theorem kM_lt (wh:List Int) (i:Nat):kM wh i<6:=by
 unfold kM
 have:=lowZ_range (wh.getD i 0) 6 (by omega)
 split <;> omega
theorem rowsM_ok (ws wh:List Int):∀ x∈rowsM ws wh,x.1<6∧x.2∈wordL:=by
 intro x hx
 obtain ⟨i,_,rfl⟩:=List.mem_map.1 hx
 exact ⟨kM_lt _ _,word_mem _⟩
def smF (k:Nat) (w:List UInt8):List UInt8:=dsh++(smE k++(w++(smG k++smR k [])))
theorem smR_app (k:Nat) (l:List UInt8):smR k l=smR k []++l:=by
 unfold smR
 split
 ·simp
 ·split
  ·simp
  ·split <;> simp
def smC:List (Nat × List UInt8)→List UInt8
 | []=>[]
 | (k,w) :: r=>smF k w++smC r
def lastM:Bool→List (Nat × List UInt8)→Bool
 | b,[]=>b
 | _,x :: r=>lastM (x.1==5) r
theorem smB_split:∀ (r:List (Nat × List UInt8)) (b:Bool),smB b r=smC r++if lastM b r=true then [45,45,45,10] else []
 | [],b=>by unfold smB smC lastM;simp
 | (k,w) :: r,b=>by
  unfold smB smC lastM smF
  rw[smR_app,smB_split r (k==5)]
  simp only[List.append_assoc]
theorem lastM_get:∀ (r:List (Nat × List UInt8)) (b:Bool),lastM b r=if r=[] then b else ((r.getD (r.length-1) (0,[])).1==5)
 | [],b=>rfl
 | x :: r,b=>by
  show lastM (x.1==5) r=_
  rw[lastM_get r]
  cases r with
  | nil=>simp
  | cons y r=>rw[if_neg (by simp),if_neg (by simp)];rfl
theorem smD.at:∀ (r:List (Nat × List UInt8)) (b:Bool) (D:List DT),smD b r D→D.length=r.length+(if lastM b r=true then 1 else 0)∧∀ j,j<r.length→∃ y,D[j]?=some y∧y.mark=true∧y.root.h.kind=1∧y.root.h.text=(r.getD j (0,[])).2∧(y.dirs.length=if (if j=0 then b else ((r.getD (j-1) (0,[])).1==5))=true then 2 else 0)
 | [],b,D,h=>⟨by rw[show D.length=_ from h];unfold lastM;simp,fun j hj=>absurd hj (Nat.not_lt_zero _)⟩
 | (k,w) :: r,b,D,h=>by
  obtain ⟨y,ys,rfl,h1,h2,h3,h4,h5⟩:=h
  obtain ⟨l1,l2⟩:=smD.at r (k==5) ys h5
  refine ⟨by rw[List.length_cons,l1,List.length_cons,Nat.add_right_comm];rfl,fun j hj=>?_⟩
  cases j with
  | zero=>exact ⟨y,rfl,h1,h2,h3,by rw[if_pos rfl];exact h4⟩
  | succ j=>
   obtain ⟨z,z1,z2,z3,z4,z5⟩:=l2 j (Nat.lt_of_succ_lt_succ hj)
   refine ⟨z,z1,z2,z3,z4,?_⟩
   rw[z5,if_neg (Nat.succ_ne_zero j)]
   cases j with
   | zero=>rfl
   | succ j=>rfl
theorem smF_len (k:Nat) (w:List UInt8) (hk:k<6) (hw:w∈wordL):(smF k w).length≤40:=by
 have h:∀ k∈[0,1,2,3,4,5],∀ w∈wordL,(smF k w).length≤40:=by decide +kernel
 refine h k ?_ w hw
 have:k=0∨k=1∨k=2∨k=3∨k=4∨k=5:=by omega
 rcases this with rfl|rfl|rfl|rfl|rfl|rfl <;> decide
theorem smF_smp (k:Nat) (w:List UInt8) (hk:k<6) (hw:w∈wordL):(smF k w).all smpU=true:=by
 have h:∀ k∈[0,1,2,3,4,5],∀ w∈wordL,(smF k w).all smpU=true:=by decide +kernel
 refine h k ?_ w hw
 have:k=0∨k=1∨k=2∨k=3∨k=4∨k=5:=by omega
 rcases this with rfl|rfl|rfl|rfl|rfl|rfl <;> decide
theorem smB_smp (r:List (Nat × List UInt8)) (b:Bool) (hr:∀ x∈r,x.1<6∧x.2∈wordL):(smB b r).all smpU=true:=by
 rw[smB_split,List.all_append,Bool.and_eq_true]
 refine ⟨?_,by split <;> decide⟩
 induction r with
 | nil=>rfl
 | cons x r ih=>
  show (smF x.1 x.2++smC r).all smpU=true
  rw[List.all_append,Bool.and_eq_true]
  exact ⟨smF_smp _ _ (hr x (by simp)).1 (hr x (by simp)).2,ih fun y hy=>hr y (by simp[hy])⟩
end Go.Proofs.YthcmkpiajkbpnaaGreatDoor
