/- Parts of the proof of TreeItems, put together from smaller texts (blanks that Lean does not want are struck). Conditions: those that each theorem writes out. -/
import Derived.Shelf.Strings.BuilderK
import Derived.Test.YtafhgbokdfhapaaGreatDoorETreeItems0
import Derived.Test.YtafhgbokdfhapaaGreatDoorETreeItems1
import Derived.Test.YtafhgbokdfhapaaGreatDoorETreeItems2
import Derived.Test.YtafhgbokdfhapaaGreatDoorETreeItems4
import Derived.Test.YtafhgbokdfhapaaGreatDoorZ00
import Derived.Test.YtafhgbokdfhapaaGreatDoorZ01
import Derived.Test.YtafhgbokdfhapaaGreatDoorZ04
import Derived.Test.YtafhgbokdfhapaaGreatDoorZ12
import Derived.Test.YtafhgbokdfhapaaGreatDoorZ29
namespace Go.Proofs.YtafhgbokdfhapaaGreatDoor
open Go.RowKit
attribute [local go_sem ↓] Go.wp_at_zero Go.wp_at_succ
def insI (l:List Int) (i:Nat):Nat:=if i<l.length then 1+(lowZ (l.getD i 0) 4).toNat else 1
def gapI (l:List Int) (i:Nat):Nat:=if i<l.length then (lowZ (l.getD i 0) 3).toNat else 0
def rowsI (ws ins gaps:List Int):List (List UInt8 × Nat × Nat):=(List.range ws.length).map fun i=>(word (ws.getD i 0),insI ins i,gapI gaps i)
theorem insI_mem (l:List Int) (i:Nat):insI l i∈insL:=by
 unfold insI insL
 have:=lowZ_range (l.getD i 0) 4 (by omega)
 generalize lowZ (l.getD i 0) 4=z at *
 split
 ·have h:1+z.toNat=1∨1+z.toNat=2∨1+z.toNat=3∨1+z.toNat=4:=by omega
  rcases h with h|h|h|h <;> rw[h] <;> decide
 ·decide
theorem gapI_mem (l:List Int) (i:Nat):gapI l i∈gapL:=by
 unfold gapI gapL
 have:=lowZ_range (l.getD i 0) 3 (by omega)
 generalize lowZ (l.getD i 0) 3=z at *
 split
 ·have h:z.toNat=0∨z.toNat=1∨z.toNat=2:=by omega
  rcases h with h|h|h <;> rw[h] <;> decide
 ·decide
theorem rowsI_ok (ws ins gaps:List Int):∀ x∈rowsI ws ins gaps,okI x:=by
 intro x hx
 obtain ⟨i,_,rfl⟩:=List.mem_map.1 hx
 exact ⟨word_mem _,insI_mem _ _,gapI_mem _ _⟩
theorem KidsI.at:∀ (X:List (List UInt8 × Nat × Nat)) (ts:List NT),KidsI X ts→ts.length=X.length∧∀ j,j<X.length→∃ t,ts[j]?=some t∧t.h.text=(X.getD j ([],0,0)).1∧t.h.blank=((X.getD j ([],0,0)).2.2:Int)
 | [],ts,h=>by
  have h:ts=[]:=h
  subst h
  exact ⟨rfl,fun j hj=>absurd hj (Nat.not_lt_zero _)⟩
 | (w,i,g) :: r,ts,h=>by
  obtain ⟨q,t,rfl,ht⟩:=h
  obtain ⟨l1,l2⟩:=KidsI.at r t ht
  refine ⟨by simp[l1],fun j hj=>?_⟩
  cases j with
  | zero=>exact ⟨_,rfl,rfl,rfl⟩
  | succ j=>exact l2 j (Nat.lt_of_succ_lt_succ hj)
theorem KidsE.at:∀ (X:List (List UInt8 × Nat × Nat)) (ts:List NT),KidsE X ts→ts.length=2*X.length∧∀ j,j<X.length→∃ t u,ts[2*j]?=some t∧ts[2*j+1]?=some u∧t.h.text=(X.getD j ([],0,0)).1∧t.h.blank=((X.getD j ([],0,0)).2.2:Int)∧u.h.text=(X.getD j ([],0,0)).1
 | [],ts,h=>by
  have h:ts=[]:=h
  subst h
  exact ⟨rfl,fun j hj=>absurd hj (Nat.not_lt_zero _)⟩
 | (w,i,g) :: r,ts,h=>by
  obtain ⟨q,q2,t,rfl,ht⟩:=h
  obtain ⟨l1,l2⟩:=KidsE.at r t ht
  refine ⟨by simp[l1];omega,fun j hj=>?_⟩
  cases j with
  | zero=>exact ⟨_,_,rfl,rfl,rfl,rfl,rfl⟩
  | succ j=>exact l2 j (Nat.lt_of_succ_lt_succ hj)
theorem kids_tb {B:Nat} {w:World} {v:Value} {ts:List NT} (h:NodesR (Lo B) w v ts) :
  ∃ ao cap,v=.slice ao ts.length cap∧ts.length≤cap∧cap≤maxLen∧(0<ts.length→∃ b o,ao=some ⟨b,o,none⟩∧b<B∧∀ j t,ts[j]?=some t→w.cell? ⟨b,o+j*12+6,none⟩=some (.string ⟨t.h.text.toArray⟩)∧w.cell? ⟨b,o+j*12+3,none⟩=some (.int .i64 t.h.blank)):=by
 obtain ⟨ao,cap,rfl,h1,h2,h3⟩:=h
 refine ⟨ao,cap,rfl,h1,h2,fun hp=>?_⟩
 obtain ⟨b,o,e,hb,hk⟩:=h3 hp
 refine ⟨b,o,e,hb,fun j t hj=>?_⟩
 obtain ⟨hj2,rfl⟩:=List.getElem?_eq_some_iff.1 hj
 obtain ⟨p0,p1,p2,p3,p4,p5,p6,p7,p8,p9,p10,p11,hN,f0,f1,f2,f3,f4,f5,f6,_⟩:=kid_cells hk (j:=j) hj2
 obtain ⟨a',b',c',e2,_⟩:=hN.open
 unfold headC at e2
 simp only[List.cons.injEq] at e2
 exact ⟨by rw[f6,e2.2.2.2.2.2.2.1],by rw[f3,e2.2.2.2.1]⟩
theorem insL_le {i:Nat} (h:i∈insL):1≤i∧i≤4:=by
 unfold insL at h
 simp at h
 omega
theorem gapL_le {i:Nat} (h:i∈gapL):i≤2:=by
 unfold gapL at h
 simp at h
 omega
theorem wordL_smp:∀ t∈wordL,t.all smpU=true:=by decide +kernel
theorem spc_smp (n:Nat):(spc n).all smpU=true:=List.all_eq_true.2 fun x hx=>by rw[spc_mem hx];rfl
theorem feeds_smp (n:Nat):(U.feeds n).all smpU=true:=List.all_eq_true.2 fun x hx=>by rw[List.eq_of_mem_replicate hx];rfl
theorem tlI_smp (c:Nat):∀ X:List (List UInt8 × Nat × Nat),(∀ x∈X,okI x)→(tlI c X).all smpU=true
 | [],_=>rfl
 | (w,i,g) :: r,h=>by
  have hw:=wordL_smp w (h _ (List.mem_cons_self ..)).1
  have ih:=tlI_smp c r (fun x hx=>h x (List.mem_cons_of_mem _ hx))
  unfold tlI
  simp only[List.all_append,List.all_cons,feeds_smp,spc_smp,hw,ih]
  rfl
theorem tlE_smp (c:Nat):∀ X:List (List UInt8 × Nat × Nat),(∀ x∈X,okI x)→(tlE c X).all smpU=true
 | [],_=>rfl
 | (w,i,g) :: r,h=>by
  have hw:=wordL_smp w (h _ (List.mem_cons_self ..)).1
  have ih:=tlE_smp c r (fun x hx=>h x (List.mem_cons_of_mem _ hx))
  unfold tlE
  simp only[List.all_append,List.all_cons,feeds_smp,spc_smp,hw,ih]
  rfl
theorem wordL_len:∀ t∈wordL,t.length≤3:=by decide +kernel
set_option maxRecDepth 100000 in
set_option maxHeartbeats 6400000 in
theorem TreeItems_walk {Ev:World→Prop} {P:ByteArray→Prop} (K:TreeC Ev P) (v0 v1 v2:Value) (col:Int) (ws ins gaps:List Int) (w:World) (hE:Ev w) (h0:IsInts .i64 w.heap.size w v0 ws) (h1:IsInts .i64 w.heap.size w v1 ins) (h2:IsInts .i64 w.heap.size w v2 gaps) :
  Calls Tryz.prog 3 #[v0,v1,v2,.int .i64 col] w fun e w'=>e=.returned (.bool true)∧Below w.heap.size w w':=by
 obtain ⟨ao0,cap0,rfl,c0,d0⟩:=h0.slice
 obtain ⟨ao1,cap1,rfl,c1,d1⟩:=h1.slice
 obtain ⟨ao2,cap2,rfl,c2,d2⟩:=h2.slice
 unfold maxLen at d0 d1 d2
 by_cases hl0:ws.length<1
 ·have hli:(ws.length:Int)<1:=by omega
  clear h0 h1 h2
  go_enter Tryz.func3,Tryz.ntmps3
  go_wp2_with fail
  refine (awake17_true K _ hE).mono ?_
  rintro e w5 ⟨rfl,b5⟩
  go_wp2
  go_ret
  exact ⟨rfl,b5⟩
 by_cases hl1:8<ws.length
 ·have hl2:(8:Int)<(ws.length:Int):=by omega
  have hl3:¬ ((ws.length:Int)<1):=by omega
  clear h0 h1 h2
  go_enter Tryz.func3,Tryz.ntmps3
  go_wp2_with fail
  refine (awake17_true K _ hE).mono ?_
  rintro e w5 ⟨rfl,b5⟩
  go_wp2
  go_ret
  exact ⟨rfl,b5⟩
 have hl2:¬ ((ws.length:Int)<1):=by omega
 have hl3:¬ ((8:Int)<(ws.length:Int)):=by omega
 have hcr:=lowZ_range col 4 (by omega)
 obtain ⟨c,hc⟩:∃ c:Nat,lowZ col 4=(c:Int):=⟨(lowZ col 4).toNat,by omega⟩
 have CC:=fun W=>Low_is (c:Int) col 4 W (by omega) (by omega) hc
 rw[hc] at hcr
 clear hc
 obtain ⟨X,hX⟩:∃ X,X=rowsI ws ins gaps:=⟨_,rfl⟩
 have HM:Hid (∀ x∈X,okI x):=by rw[hX];exact rowsI_ok _ _ _
 obtain ⟨L,hL⟩:∃ L,L=ws.length:=⟨_,rfl⟩
 have hXL:X.length=L:=by rw[hX,hL];simp[rowsI]
 have hXd:∀ k,k<L→X.drop k=(word (ws.getD k 0),insI ins k,gapI gaps k) :: X.drop (k+1):=fun k hk=>by
  rw[List.drop_eq_getElem_cons (by rw[hXL];exact hk)]
  congr 1
  simp[hX,rowsI]
 have HL:=Lib.hid hL
 have HXL:=Lib.hid hXL
 have HXD:=Lib.hid hXd
 have HX:=Lib.hid hX
 rw[←hL] at h0 c0 hl0 hl1 hl2 hl3 ⊢
 clear hL hX hXL hXd
 go_enter Tryz.func3,Tryz.ntmps3
 go_wp2_with fail
 refine (CC _).mono ?_
 rintro e w1 ⟨rfl,rfl⟩
 clear CC
 go_wp2
 go_loopw [10,11,12] (fun v10 v11 v12 wr=>∃ (P Q:List UInt8) (PB QB:ByteArray) (k:Nat),v10=.string PB∧v11=.string QB∧v12=.int .i64 (k:Int)∧k≤L∧PB.size≤20*k∧QB.size≤20*k∧Hid (PB=mkB P)∧Hid (QB=mkB Q)∧Hid (P++tlI c (X.drop k)=tlI c X)∧Hid (Q++tlE c (X.drop k)=tlE c X)∧Below w.heap.size w wr) (fun _ _ v12 _=>L-(intOf v12).toNat)
 case atStart=>exact ⟨[],[],_,_,0,rfl,rfl,rfl,Nat.zero_le _,by decide,by decide,rfl,rfl,rfl,rfl,Below.refl _ _⟩
 case round=>
  obtain ⟨P,Q,PB,QB,k,rfl,rfl,rfl,hk,hPz,hQz,HP,HQ,HPR,HQR,hb⟩:=hrel
  by_cases hkn:k<L
  ·obtain ⟨bb,oo,rfl,hlt,hcc⟩:=IsInts.at h0 HL.out.symm (by omega)
   have g1:=hcc k hkn
   rw[←hb.cell (p:=⟨bb,oo+k,none⟩) hlt] at g1
   have hdr:=HXD.out k hkn
   obtain ⟨x,hx⟩:∃ x,x=ws.getD k 0:=⟨_,rfl⟩
   rw[←hx] at g1 hdr
   obtain ⟨wd,hwd⟩:∃ wd,word x=wd:=⟨_,rfl⟩
   obtain ⟨ii,hii⟩:∃ ii,insI ins k=ii:=⟨_,rfl⟩
   obtain ⟨gg,hgg⟩:∃ gg,gapI gaps k=gg:=⟨_,rfl⟩
   rw[hwd,hii,hgg] at hdr
   have hwm:wd.length≤3:=wordL_len _ (by rw[←hwd];exact word_mem x)
   have hi1:=insL_le (i:=ii) (by rw[←hii];exact insI_mem ins k)
   have hg1:=gapL_le (i:=gg) (by rw[←hgg];exact gapI_mem gaps k)
   have hI:(k<ins.length∧(∃ bb oo,ao1=some ⟨bb,oo,none⟩∧w.cell? ⟨bb,oo+k,none⟩=some (.int .i64 (ins.getD k 0))∧bb<w.heap.size)∧lowZ (ins.getD k 0) 4=((ii-1:Nat):Int))∨(¬ k<ins.length∧ii=1):=by
    have hr:=lowZ_range (ins.getD k 0) 4 (by omega)
    unfold insI at hii
    by_cases h:k<ins.length
    ·rw[if_pos h] at hii
     obtain ⟨b1,o1,e1,l1,cc1⟩:=IsInts.at h1 rfl (by omega)
     exact .inl ⟨h,⟨b1,o1,e1,cc1 k h,l1⟩,by omega⟩
    ·rw[if_neg h] at hii
     exact .inr ⟨h,hii.symm⟩
   have hG:(k<gaps.length∧(∃ bb oo,ao2=some ⟨bb,oo,none⟩∧w.cell? ⟨bb,oo+k,none⟩=some (.int .i64 (gaps.getD k 0))∧bb<w.heap.size)∧lowZ (gaps.getD k 0) 3=(gg:Int))∨(¬ k<gaps.length∧gg=0):=by
    have hr:=lowZ_range (gaps.getD k 0) 3 (by omega)
    unfold gapI at hgg
    by_cases h:k<gaps.length
    ·rw[if_pos h] at hgg
     obtain ⟨b1,o1,e1,l1,cc1⟩:=IsInts.at h2 rfl (by omega)
     exact .inl ⟨h,⟨b1,o1,e1,cc1 k h,l1⟩,by rw[←hgg];exact (Int.toNat_of_nonneg hr.1).symm⟩
    ·rw[if_neg h] at hgg
     exact .inr ⟨h,hgg.symm⟩
   obtain ⟨WB,hWB⟩:∃ WB:ByteArray,(⟨wd.toArray⟩:ByteArray)=WB:=⟨_,rfl⟩
   obtain ⟨GB,hGB⟩:∃ GB:ByteArray,(⟨(U.feeds gg).toArray⟩:ByteArray)=GB:=⟨_,rfl⟩
   obtain ⟨CB,hCB⟩:∃ CB:ByteArray,(⟨(List.replicate c (32:UInt8)).toArray⟩:ByteArray)=CB:=⟨_,rfl⟩
   obtain ⟨IB,hIB⟩:∃ IB:ByteArray,(⟨(List.replicate ii (32:UInt8)).toArray⟩:ByteArray)=IB:=⟨_,rfl⟩
   have hWz:WB.size≤3:=by rw[←hWB,size_mk];exact hwm
   have hGz:GB.size=gg:=by rw[←hGB,size_mk,U.feeds_length]
   have hCz:CB.size=c:=by rw[←hCB,size_mk,List.length_replicate]
   have hIz:IB.size=ii:=by rw[←hIB,size_mk,List.length_replicate]
   have CW:=fun Wd=>WordOf_is wd x Wd hwd
   have CG:=fun (z:Int) Wd (hz:z=(gg:Int))=>lawFeeds_is gg z Wd (by omega) (by omega)
   have CB1:=fun (z:Int) Wd (hz:z=(c:Int))=>lawBlanks_is c z Wd hz (by omega)
   have CI:=fun (z:Int) Wd (hz:z=(ii:Int))=>lawBlanks_is ii z Wd hz (by omega)
   rw[hWB] at CW
   rw[hGB] at CG
   rw[hCB] at CB1
   rw[hIB] at CI
   have e1:Hid (PB++GB++CB++(⟨#[45]⟩:ByteArray)++IB++WB++(⟨#[10]⟩:ByteArray)=mkB (P++U.feeds gg++spc c++[45]++spc ii++wd++[10])):=by
    show _=_
    rw[HP.out,←hWB,←hGB,←hCB,←hIB]
    simp only[←mkB_append]
    rfl
   have e2:Hid (QB++GB++CB++WB++(⟨#[58]⟩:ByteArray)++IB++WB++(⟨#[10]⟩:ByteArray)=mkB (Q++U.feeds gg++spc c++wd++[58]++spc ii++wd++[10])):=by
    show _=_
    rw[HQ.out,←hWB,←hGB,←hCB,←hIB]
    simp only[←mkB_append]
    rfl
   have r1:Hid ((P++U.feeds gg++spc c++[45]++spc ii++wd++[10])++tlI c (X.drop (k+1))=tlI c X):=by
    show _=_
    rw[←HPR.out,hdr]
    simp[tlI,List.append_assoc]
   have r2:Hid ((Q++U.feeds gg++spc c++wd++[58]++spc ii++wd++[10])++tlE c (X.drop (k+1))=tlE c X):=by
    show _=_
    rw[←HQR.out,hdr]
    simp[tlE,List.append_assoc]
   have zS:(PB++GB++CB++(⟨#[45]⟩:ByteArray)++IB++WB++(⟨#[10]⟩:ByteArray)).size=PB.size+gg+c+1+ii+WB.size+1:=by
    simp only[ByteArray.size_append,hGz,hCz,hIz];rfl
   have zQ:(QB++GB++CB++WB++(⟨#[58]⟩:ByteArray)++IB++WB++(⟨#[10]⟩:ByteArray)).size=QB.size+gg+c+WB.size+1+ii+WB.size+1:=by
    simp only[ByteArray.size_append,hGz,hCz,hIz];rfl
   clear hcc hx hdr hwd hWB hGB hCB hIB HP HQ HPR HQR hii hgg
   rcases hI with ⟨hin,⟨b1,o1,rfl,f1,l1⟩,hi2⟩|⟨hin,rfl⟩
   ·rw[←hb.cell (p:=⟨b1,o1+k,none⟩) l1] at f1
    generalize ins.getD k 0=xi at f1 hi2
    have hii2:1+((ii-1:Nat):Int)=(ii:Int):=by omega
    rcases hG with ⟨hgn,⟨b2,o2,rfl,f2,l2⟩,hg2⟩|⟨hgn,rfl⟩
    ·rw[←hb.cell (p:=⟨b2,o2+k,none⟩) l2] at f2
     generalize gaps.getD k 0=xg at f2 hg2
     go_wp2_with fail
     refine (Low_is ((ii-1:Nat):Int) _ 4 _ (by omega) (by omega) hi2).mono ?_
     rintro e w1 ⟨rfl,rfl⟩
     go_wp2_with fail
     refine (Low_is (gg:Int) _ 3 _ (by omega) (by omega) hg2).mono ?_
     rintro e w1 ⟨rfl,rfl⟩
     go_wp2_with fail
     refine (CW _).mono ?_
     rintro e w5 ⟨rfl,b5⟩
     have hb5:=hb.trans (b5.mono hb.size)
     go_wp2_with fail
     refine (CG _ _ (by omega)).mono ?_
     rintro e w1 ⟨rfl,rfl⟩
     go_wp2_with fail
     refine (CB1 _ _ (by omega)).mono ?_
     rintro e w1 ⟨rfl,rfl⟩
     go_wp2_with fail
     refine (CI _ _ (by omega)).mono ?_
     rintro e w1 ⟨rfl,rfl⟩
     go_wp2_with fail
     refine (CG _ _ (by omega)).mono ?_
     rintro e w1 ⟨rfl,rfl⟩
     go_wp2_with fail
     refine (CB1 _ _ (by omega)).mono ?_
     rintro e w1 ⟨rfl,rfl⟩
     go_wp2_with fail
     refine (CI _ _ (by omega)).mono ?_
     rintro e w1 ⟨rfl,rfl⟩
     go_wp2
     go_roundw
     case rel=>exact ⟨_,_,_,_,k+1,rfl,rfl,by go_num,by omega,by omega,by omega,e1,e2,r1,r2,hb5⟩
     case measure=>simp[intOf];omega
    ·skip
     go_wp2_with fail
     refine (Low_is ((ii-1:Nat):Int) _ 4 _ (by omega) (by omega) hi2).mono ?_
     rintro e w1 ⟨rfl,rfl⟩
     go_wp2_with fail
     refine (CW _).mono ?_
     rintro e w5 ⟨rfl,b5⟩
     have hb5:=hb.trans (b5.mono hb.size)
     go_wp2_with fail
     refine (CG _ _ (by omega)).mono ?_
     rintro e w1 ⟨rfl,rfl⟩
     go_wp2_with fail
     refine (CB1 _ _ (by omega)).mono ?_
     rintro e w1 ⟨rfl,rfl⟩
     go_wp2_with fail
     refine (CI _ _ (by omega)).mono ?_
     rintro e w1 ⟨rfl,rfl⟩
     go_wp2_with fail
     refine (CG _ _ (by omega)).mono ?_
     rintro e w1 ⟨rfl,rfl⟩
     go_wp2_with fail
     refine (CB1 _ _ (by omega)).mono ?_
     rintro e w1 ⟨rfl,rfl⟩
     go_wp2_with fail
     refine (CI _ _ (by omega)).mono ?_
     rintro e w1 ⟨rfl,rfl⟩
     go_wp2
     go_roundw
     case rel=>exact ⟨_,_,_,_,k+1,rfl,rfl,by go_num,by omega,by omega,by omega,e1,e2,r1,r2,hb5⟩
     case measure=>simp[intOf];omega
   ·rcases hG with ⟨hgn,⟨b2,o2,rfl,f2,l2⟩,hg2⟩|⟨hgn,rfl⟩
    ·rw[←hb.cell (p:=⟨b2,o2+k,none⟩) l2] at f2
     generalize gaps.getD k 0=xg at f2 hg2
     go_wp2_with fail
     refine (Low_is (gg:Int) _ 3 _ (by omega) (by omega) hg2).mono ?_
     rintro e w1 ⟨rfl,rfl⟩
     go_wp2_with fail
     refine (CW _).mono ?_
     rintro e w5 ⟨rfl,b5⟩
     have hb5:=hb.trans (b5.mono hb.size)
     go_wp2_with fail
     refine (CG _ _ (by omega)).mono ?_
     rintro e w1 ⟨rfl,rfl⟩
     go_wp2_with fail
     refine (CB1 _ _ (by omega)).mono ?_
     rintro e w1 ⟨rfl,rfl⟩
     go_wp2_with fail
     refine (CI _ _ (by omega)).mono ?_
     rintro e w1 ⟨rfl,rfl⟩
     go_wp2_with fail
     refine (CG _ _ (by omega)).mono ?_
     rintro e w1 ⟨rfl,rfl⟩
     go_wp2_with fail
     refine (CB1 _ _ (by omega)).mono ?_
     rintro e w1 ⟨rfl,rfl⟩
     go_wp2_with fail
     refine (CI _ _ (by omega)).mono ?_
     rintro e w1 ⟨rfl,rfl⟩
     go_wp2
     go_roundw
     case rel=>exact ⟨_,_,_,_,k+1,rfl,rfl,by go_num,by omega,by omega,by omega,e1,e2,r1,r2,hb5⟩
     case measure=>simp[intOf];omega
    ·skip
     go_wp2_with fail
     refine (CW _).mono ?_
     rintro e w5 ⟨rfl,b5⟩
     have hb5:=hb.trans (b5.mono hb.size)
     go_wp2_with fail
     refine (CG _ _ (by omega)).mono ?_
     rintro e w1 ⟨rfl,rfl⟩
     go_wp2_with fail
     refine (CB1 _ _ (by omega)).mono ?_
     rintro e w1 ⟨rfl,rfl⟩
     go_wp2_with fail
     refine (CI _ _ (by omega)).mono ?_
     rintro e w1 ⟨rfl,rfl⟩
     go_wp2_with fail
     refine (CG _ _ (by omega)).mono ?_
     rintro e w1 ⟨rfl,rfl⟩
     go_wp2_with fail
     refine (CB1 _ _ (by omega)).mono ?_
     rintro e w1 ⟨rfl,rfl⟩
     go_wp2_with fail
     refine (CI _ _ (by omega)).mono ?_
     rintro e w1 ⟨rfl,rfl⟩
     go_wp2
     go_roundw
     case rel=>exact ⟨_,_,_,_,k+1,rfl,rfl,by go_num,by omega,by omega,by omega,e1,e2,r1,r2,hb5⟩
     case measure=>simp[intOf];omega
  ·obtain rfl:L=k:=by omega
   have hP2:PB.data.toList=tlI c X:=by
    have:=HPR.out
    rw[List.drop_eq_nil_of_le (by rw[HXL.out];exact Nat.le_refl _)] at this
    rw[HP.out]
    simpa [tlI,mkB] using this
   have hQ2:QB.data.toList=tlE c X:=by
    have:=HQR.out
    rw[List.drop_eq_nil_of_le (by rw[HXL.out];exact Nat.le_refl _)] at this
    rw[HQ.out]
    simpa [tlE,mkB] using this
   have hcm:c∈colL:=by
    have h:c=0∨c=1∨c=2∨c=3:=by omega
    rcases h with rfl|rfl|rfl|rfl <;> decide
   obtain ⟨x,fx,y,fy,kx,ky,hs1,hs2,hs3⟩:∃ x,TreeZ PB 0 false (some x) [] (PB.size:Int) 0∧∃ y,TreeZ QB 0 false (some y) [] (QB.size:Int) 0∧KidsI X x.kids∧KidsE X y.kids∧x.h.kind=3∧x.h.style=6∧y.h.kind=4:=by
    have hne:X≠[]:=by intro e;have:=HXL.out;rw[e] at this;simp at this;omega
    obtain ⟨x0,X',e⟩:∃ x0 X',X=x0 :: X':=by
     cases X with
     | nil=>exact absurd rfl hne
     | cons a b=>exact ⟨a,b,rfl⟩
    obtain ⟨w0,i0,g0⟩:=x0
    have ho:=HM.out
    rw[e] at ho hP2 hQ2 ⊢
    obtain ⟨ks,q,h1,h2⟩:=items_text hcm (ho _ (List.mem_cons_self ..)) (fun x hx=>ho x (List.mem_cons_of_mem _ hx)) hP2
    obtain ⟨ks2,q2,h3,h4⟩:=entries_text hcm (ho _ (List.mem_cons_self ..)) (fun x hx=>ho x (List.mem_cons_of_mem _ hx)) hQ2
    exact ⟨_,h2,_,h4,h1,h3,rfl,rfl,rfl⟩
   have hEr:=K.keep _ _ hE hb
   have sP:Smp PB:=by unfold Smp;rw[hP2];exact tlI_smp c _ HM.out
   have sQ:Smp QB:=by unfold Smp;rw[hQ2];exact tlE_smp c _ HM.out
   clear HP HQ HPR HQR hP2 hQ2
   obtain ⟨lx,ax⟩:=KidsI.at _ _ kx
   obtain ⟨ly,ay⟩:=KidsE.at _ _ ky
   rw[HXL.out] at lx ly ax ay
   have AX:=Lib.hid ax
   have AY:=Lib.hid ay
   clear kx ky ax ay
   go_wp2_with fail
   refine (K.read _ _ _ _ _ _ _ _ (by omega) (K.smp _ sP) hEr fx).mono ?_
   rintro e w2 ⟨cx,lvx,rfl,-,-,nx,b2⟩
   have hb3:=hb.trans (b2.mono hb.size)
   obtain ⟨kv,lv,fv,rfl,⟨la,lc,rfl,-,-,-⟩,⟨fa,fc,rfl,-,-,-⟩,nk⟩:=(nx x rfl).open
   obtain ⟨ka,kc,rfl,kx1,kx2,kx3⟩:=kids_tb nk
   unfold maxLen at kx2
   rw[lx] at kx1 kx3 ⊢
   have KX:=Lib.hid kx3
   unfold headC
   rw[hs1,hs2]
   generalize (⟨x.h.anchor.toArray⟩:ByteArray)=s1
   generalize (⟨x.h.tag.toArray⟩:ByteArray)=s2
   generalize (⟨x.h.text.toArray⟩:ByteArray)=s3
   generalize (⟨x.h.trail.toArray⟩:ByteArray)=s4
   clear kx3 nk nx fx lx
   go_wp2_with fail
   obtain ⟨WX,hWX⟩:∃ WX:World,WX=w2.alloc (.cells #[.int .i64 3,.int .i64 6,.int .i64 x.h.at',.int .i64 x.h.blank,.string s1,.string s2,.string s3,.slice ka L kc,.slice la x.h.lead.length lc,.slice fa x.h.foot.length fc,.bool x.h.ht,.string s4] 29):=⟨_,rfl⟩
   have r7:WX.cell? ⟨w2.heap.size,7,none⟩=some (.slice ka L kc):=by rw[hWX];exact World.cell?_alloc_mark ..
   have r0:WX.cell? ⟨w2.heap.size,0,none⟩=some (.int .i64 3):=by rw[hWX];exact World.cell?_alloc_mark ..
   have r1:WX.cell? ⟨w2.heap.size,1,none⟩=some (.int .i64 6):=by rw[hWX];exact World.cell?_alloc_mark ..
   have z1:WX.heap.size=w2.heap.size+1:=by rw[hWX];simp
   have z2:Below w2.heap.size w2 WX:=by rw[hWX];exact (Below.refl _ _).alloc (Nat.le_refl _) _
   rw[←hWX]
   clear hWX
   have hb4:=hb3.trans (z2.mono hb3.size)
   have hEt:=K.keep _ _ hE hb4
   refine (K.read _ _ _ _ _ _ _ _ (by omega) (K.smp _ sQ) hEt fy).mono ?_
   rintro e w3 ⟨cy,lvy,rfl,-,-,ny,b3⟩
   have hb5:=hb4.trans (b3.mono hb4.size)
   have r8:=(b3.cell (p:=⟨w2.heap.size,7,none⟩) (by show w2.heap.size<_;omega)).trans r7
   have q0:=(b3.cell (p:=⟨w2.heap.size,0,none⟩) (by show w2.heap.size<_;omega)).trans r0
   have q1:=(b3.cell (p:=⟨w2.heap.size,1,none⟩) (by show w2.heap.size<_;omega)).trans r1
   have z3:w2.heap.size<w3.heap.size:=by have:=b3.size;omega
   obtain ⟨kv,lv,fv,rfl,⟨la2,lc2,rfl,-,-,-⟩,⟨fa2,fc2,rfl,-,-,-⟩,nk⟩:=(ny y rfl).open
   obtain ⟨ka2,kc2,rfl,ky1,ky2,ky3⟩:=kids_tb nk
   unfold maxLen at ky2
   rw[ly] at ky1 ky3 ⊢
   have KY:=Lib.hid ky3
   have hb6:=(z2.trans (b3.mono (by omega)))
   unfold headC
   rw[hs3]
   generalize (⟨y.h.anchor.toArray⟩:ByteArray)=t1
   generalize (⟨y.h.tag.toArray⟩:ByteArray)=t2
   generalize (⟨y.h.text.toArray⟩:ByteArray)=t3
   generalize (⟨y.h.trail.toArray⟩:ByteArray)=t4
   clear ky3 nk ny fy ly r7 r0 r1
   have hb7:Below w3.heap.size w3 (w3.alloc (.cells #[.int .i64 4,.int .i64 y.h.style,.int .i64 y.h.at',.int .i64 y.h.blank,.string t1,.string t2,.string t3,.slice ka2 (2*L) kc2,.slice la2 y.h.lead.length lc2,.slice fa2 y.h.foot.length fc2,.bool y.h.ht,.string t4] 29)):=(Below.refl _ _).alloc (Nat.le_refl _) _
   have r9:(w3.alloc (.cells #[.int .i64 4,.int .i64 y.h.style,.int .i64 y.h.at',.int .i64 y.h.blank,.string t1,.string t2,.string t3,.slice ka2 (2*L) kc2,.slice la2 y.h.lead.length lc2,.slice fa2 y.h.foot.length fc2,.bool y.h.ht,.string t4] 29)).cell? ⟨w3.heap.size,7,none⟩=some (.slice ka2 (2*L) kc2):=World.cell?_alloc_mark ..
   have z5:(w3.alloc (.cells #[.int .i64 4,.int .i64 y.h.style,.int .i64 y.h.at',.int .i64 y.h.blank,.string t1,.string t2,.string t3,.slice ka2 (2*L) kc2,.slice la2 y.h.lead.length lc2,.slice fa2 y.h.foot.length fc2,.bool y.h.ht,.string t4] 29)).heap.size=w3.heap.size+1:=by simp
   have hb8:=hb5.trans (hb7.mono hb5.size)
   have hLi:¬ ((L:Int)=0):=by omega
   go_wp2
   obtain ⟨WY,hWY⟩:∃ WY:World,WY=w3.alloc (.cells #[.int .i64 4,.int .i64 y.h.style,.int .i64 y.h.at',.int .i64 y.h.blank,.string t1,.string t2,.string t3,.slice ka2 (2*L) kc2,.slice la2 y.h.lead.length lc2,.slice fa2 y.h.foot.length fc2,.bool y.h.ht,.string t4] 29):=⟨_,rfl⟩
   rw[←hWY] at hb7 hb8 r9 z5 ⊢
   clear hWY
   have r10:=(hb7.cell (p:=⟨w2.heap.size,7,none⟩) z3).trans r8
   clear r8 q0 q1
   go_loopw [24] (fun v24 wr=>∃ k:Nat,v24=.int .i64 (k:Int)∧k≤L∧Below WY.heap.size WY wr) (fun v24 _=>L-(intOf v24).toNat)
   case atStart=>exact ⟨0,rfl,Nat.zero_le _,Below.refl _ _⟩
   case round=>
    obtain ⟨k,rfl,hk,hbr⟩:=hrel
    have hbw:=hb8.trans (hbr.mono hb8.size)
    by_cases hkn:k<L
    ·obtain ⟨bb,oo,rfl,hlt,hcc⟩:=IsInts.at h0 HL.out.symm (by omega)
     have g1:=hcc k hkn
     rw[←hbw.cell (p:=⟨bb,oo+k,none⟩) hlt] at g1
     have hdr:=HXD.out k hkn
     obtain ⟨xx,hx⟩:∃ x,x=ws.getD k 0:=⟨_,rfl⟩
     rw[←hx] at g1 hdr
     obtain ⟨wd,hwd⟩:∃ wd,word xx=wd:=⟨_,rfl⟩
     obtain ⟨gg,hgg⟩:∃ gg,gapI gaps k=gg:=⟨_,rfl⟩
     rw[hwd,hgg] at hdr
     have hXk:X.getD k ([],0,0)=(wd,insI ins k,gg):=by
      have:=congrArg List.head? hdr
      rw[List.head?_drop,List.head?_cons] at this
      simp[List.getD,this]
     have hG:(k<gaps.length∧(∃ bb oo,ao2=some ⟨bb,oo,none⟩∧w.cell? ⟨bb,oo+k,none⟩=some (.int .i64 (gaps.getD k 0))∧bb<w.heap.size)∧lowZ (gaps.getD k 0) 3=(gg:Int))∨(¬ k<gaps.length∧gg=0):=by
      have hr:=lowZ_range (gaps.getD k 0) 3 (by omega)
      unfold gapI at hgg
      by_cases h:k<gaps.length
      ·rw[if_pos h] at hgg
       obtain ⟨b1,o1,e1,l1,cc1⟩:=IsInts.at h2 rfl (by omega)
       exact .inl ⟨h,⟨b1,o1,e1,cc1 k h,l1⟩,by rw[←hgg];exact (Int.toNat_of_nonneg hr.1).symm⟩
      ·rw[if_neg h] at hgg
       exact .inr ⟨h,hgg.symm⟩
     obtain ⟨WB,hWB⟩:∃ WB:ByteArray,(⟨wd.toArray⟩:ByteArray)=WB:=⟨_,rfl⟩
     have CW:=fun Wd=>WordOf_is wd xx Wd hwd
     rw[hWB] at CW
     obtain ⟨xb,xo,rfl,xlt,xc⟩:=KX.out (by omega)
     obtain ⟨yb,yo,rfl,ylt,yc⟩:=KY.out (by omega)
     obtain ⟨t,ht,ht1,ht2⟩:=AX.out k hkn
     obtain ⟨u,v,hu,hv,hu1,hu2,hv1⟩:=AY.out k hkn
     obtain ⟨c1,c2⟩:=xc k t ht
     obtain ⟨c3,c4⟩:=yc (2*k) u hu
     obtain ⟨c5,_⟩:=yc (2*k+1) v hv
     rw[ht1,hXk,hWB] at c1
     rw[ht2,hXk] at c2
     rw[hu1,hXk,hWB] at c3
     rw[hu2,hXk] at c4
     rw[hv1,hXk,hWB] at c5
     have hb9:=hb7.trans (hbr.mono (by omega))
     have hb10:=hb6.trans (hb9.mono (by omega))
     rw[←hb10.cell (p:=⟨xb,_,none⟩) xlt] at c1 c2
     rw[←hb9.cell (p:=⟨yb,_,none⟩) ylt] at c3 c4 c5
     have r11:=(hbr.cell (p:=⟨w2.heap.size,7,none⟩) (by show w2.heap.size<_;omega)).trans r10
     have r12:=(hbr.cell (p:=⟨w3.heap.size,7,none⟩) (by show w3.heap.size<_;omega)).trans r9
     have z6:=hbr.size
     clear hcc hx hdr hwd hWB hgg hXk xc yc ht ht1 ht2 hu hu1 hu2 hv hv1 r9 r10
     rcases hG with ⟨hgn,⟨b2',o2,rfl,f2,l2⟩,hg2⟩|⟨hgn,rfl⟩
     ·rw[←hbw.cell (p:=⟨b2',o2+k,none⟩) l2] at f2
      generalize gaps.getD k 0=xg at f2 hg2
      go_wp2_with fail
      refine (Low_is (gg:Int) _ 3 _ (by omega) (by omega) hg2).mono ?_
      rintro e w1 ⟨rfl,rfl⟩
      go_wp2_with fail
      refine (CW _).mono ?_
      rintro e w5 ⟨rfl,b5⟩
      have d1:=(b5.cell (p:=⟨xb,xo+k*12+6,none⟩) (by show xb<_;have:=hb10.size;omega)).trans c1
      have d2:=(b5.cell (p:=⟨xb,xo+k*12+3,none⟩) (by show xb<_;have:=hb10.size;omega)).trans c2
      have d3:=(b5.cell (p:=⟨yb,yo+2*k*12+6,none⟩) (by show yb<_;have:=hb9.size;omega)).trans c3
      have d4:=(b5.cell (p:=⟨yb,yo+2*k*12+3,none⟩) (by show yb<_;have:=hb9.size;omega)).trans c4
      have d5:=(b5.cell (p:=⟨yb,yo+(2*k+1)*12+6,none⟩) (by show yb<_;have:=hb9.size;omega)).trans c5
      have r13:=(b5.cell (p:=⟨w2.heap.size,7,none⟩) (by show w2.heap.size<_;omega)).trans r11
      have r14:=(b5.cell (p:=⟨w3.heap.size,7,none⟩) (by show w3.heap.size<_;omega)).trans r12
      clear c1 c2 c3 c4 c5 r11 r12
      go_wp2
      go_roundw
      case rel=>exact ⟨k+1,by go_num,by omega,hbr.trans (b5.mono hbr.size)⟩
      case measure=>simp[intOf];omega
     ·skip
      go_wp2_with fail
      refine (CW _).mono ?_
      rintro e w5 ⟨rfl,b5⟩
      have d1:=(b5.cell (p:=⟨xb,xo+k*12+6,none⟩) (by show xb<_;have:=hb10.size;omega)).trans c1
      have d2:=(b5.cell (p:=⟨xb,xo+k*12+3,none⟩) (by show xb<_;have:=hb10.size;omega)).trans c2
      have d3:=(b5.cell (p:=⟨yb,yo+2*k*12+6,none⟩) (by show yb<_;have:=hb9.size;omega)).trans c3
      have d4:=(b5.cell (p:=⟨yb,yo+2*k*12+3,none⟩) (by show yb<_;have:=hb9.size;omega)).trans c4
      have d5:=(b5.cell (p:=⟨yb,yo+(2*k+1)*12+6,none⟩) (by show yb<_;have:=hb9.size;omega)).trans c5
      have r13:=(b5.cell (p:=⟨w2.heap.size,7,none⟩) (by show w2.heap.size<_;omega)).trans r11
      have r14:=(b5.cell (p:=⟨w3.heap.size,7,none⟩) (by show w3.heap.size<_;omega)).trans r12
      clear c1 c2 c3 c4 c5 r11 r12
      go_wp2
      go_roundw
      case rel=>exact ⟨k+1,by go_num,by omega,hbr.trans (b5.mono hbr.size)⟩
      case measure=>simp[intOf];omega
    ·obtain rfl:L=k:=by omega
     have hEu:=K.keep _ _ hE hbw
     go_wp2_with fail
     refine (awake17_true K _ hEu).mono ?_
     rintro e w5 ⟨rfl,b5⟩
     go_wp2
     go_ret
     exact ⟨rfl,hbw.trans (b5.mono hbw.size)⟩
end Go.Proofs.YtafhgbokdfhapaaGreatDoor
