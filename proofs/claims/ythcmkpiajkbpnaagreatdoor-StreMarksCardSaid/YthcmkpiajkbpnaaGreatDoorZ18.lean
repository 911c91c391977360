/- Parts of the proof, put together from smaller texts (blanks that Lean does not want are struck). Conditions: those that each theorem writes out. -/
import Derived.Test.YthcmkpiajkbpnaaGreatDoorZ10
import Derived.Test.YthcmkpiajkbpnaaGreatDoorZ16
import Derived.Test.YthcmkpiajkbpnaaGreatDoorZ17
namespace Go.Proofs.YthcmkpiajkbpnaaGreatDoor
open Go.RowKit
theorem direClone_is (s:ByteArray) (w:World) (hs:s.size≤281474976710656) :
  Calls Tryz.prog 62 #[.string s] w fun e w'=>e=.returned (.string s)∧Below w.heap.size w w':=by
 go_enter Tryz.func62,Tryz.ntmps62
 go_wp2_with fail
 refine (Tryz.stringslite_Clone s _ hs).mono ?_
 rintro e w' ⟨rfl,hb⟩
 go_wp2
 go_ret
 exact ⟨rfl,hb⟩
theorem direJoin_is (B:Nat) (J:List UInt8) (v:Value) (ws:List (List UInt8)) (w:World) (hv:IsTexts B w v ws) (h0:0<ws.length) (hB:B≤w.heap.size) (hn:ws.length≤1000000000) (hl:J.length≤1000000000) (h:Lib.join ws [32]=J) :
  Calls Tryz.prog 82 #[v,.string ⟨#[32]⟩] w fun e w'=>e=.returned (.string ⟨J.toArray⟩)∧Below w.heap.size w w':=by
 subst h
 obtain ⟨ao,cap,rfl,k1,m1⟩:=hv.slice
 obtain ⟨bb,oo,rfl,hlt,hc⟩:=IsTexts.at hv rfl h0
 have e1:(ws.map fun l=>(⟨l.toArray⟩:ByteArray)).length=ws.length:=List.length_map _
 have e2:(ws.map fun l=>(⟨l.toArray⟩:ByteArray)).map (·.data.toList)=ws:=by
  rw[List.map_map,show ((fun x:ByteArray=>x.data.toList) ∘ fun l:List UInt8=>(⟨l.toArray⟩:ByteArray))=id from rfl,List.map_id]
 have:=Tryz.strings_Join bb oo cap (ws.map fun l=>⟨l.toArray⟩) ⟨#[32]⟩ w (fun j x hx=>by
  rw[List.getElem?_map] at hx
  obtain ⟨l,hl,rfl⟩:=Option.map_eq_some_iff.1 hx
  have hj:=(List.getElem?_eq_some_iff.1 hl).1
  rw[hc j hj,List.getD,hl]
  rfl) (by omega) (by omega) (by omega) (by rw[e2];exact Nat.le_trans hl (by omega))
 rw[e1,e2] at this
 exact this
theorem direTrim_is (T:List UInt8) (s:ByteArray) (w:World) (hs:s.size≤1000000000) (hT:Lib.Utf8Tabs 1 2 w) (h:U.tCut s.data.toList=T) :
  Calls Tryz.prog 80 #[.string s,.func (.func 81) #[] #[]] w fun e w'=>e=.returned (.string ⟨T.toArray⟩)∧Below w.heap.size w w':=by
 have:=Tryz.strings_TrimRightFunc 81 #[] Tryz.call81 U.whR s w (by omega) hT (direWhite_pred w)
 rw[U.trim_cut,h] at this
 exact this
end Go.Proofs.YthcmkpiajkbpnaaGreatDoor
namespace Go.Proofs.YthcmkpiajkbpnaaGreatDoor
open Go.RowKit
def retRead (D T:List UInt8) (b:Bool) (c:Int):Ending:=.returned (.tuple #[.string ⟨D.toArray⟩,.string ⟨T.toArray⟩,.bool b,.int .i64 c])
theorem tRead_no {l:List UInt8} (h:¬ (l.headD 0=37∧U.tForm (U.tWords (U.tNote true l).1)=true)):U.tRead l=([],[],false,5):=by
 unfold U.tRead;rw[if_neg h]
theorem tRead_yes {l:List UInt8} (h:l.headD 0=37∧U.tForm (U.tWords (U.tNote true l).1)=true):U.tRead l=(Lib.join (U.tWords (U.tNote true l).1) [32],U.tCut ((U.tNote true l).2.drop 1),!(U.tNote true l).2.isEmpty,0):=by
 unfold U.tRead;rw[if_pos h]
theorem has_head (l:List UInt8) (c:UInt8):Lib.hasPrefix l [c]=true↔∃ r,l=c :: r:=by
 unfold Lib.hasPrefix
 rw[List.isPrefixOf_iff_prefix]
 constructor
 ·rintro ⟨r,rfl⟩;exact ⟨r,rfl⟩
 ·rintro ⟨r,rfl⟩;exact ⟨r,rfl⟩
set_option maxRecDepth 100000 in
set_option maxHeartbeats 1600000 in
theorem direRead_is (D T:List UInt8) (q:Bool) (c:Int) (s:ByteArray) (w:World) (hs:s.size≤100000) (hT:Lib.Utf8Tabs 1 2 w) (h:U.tRead s.data.toList=(D,T,q,c)) :
  Calls Tryz.prog 44 #[.string s] w fun e w'=>e=retRead D T q c∧Below w.heap.size w w':=by
 obtain ⟨W,hW⟩:∃ W,U.tWords (U.tNote true s.data.toList).1=W:=⟨_,rfl⟩
 obtain ⟨N,hN⟩:∃ N,(U.tNote true s.data.toList).2=N:=⟨_,rfl⟩
 have HSP:=Lib.hid (And.intro hW hN)
 have hcat:=congrArg List.length (U.note_cat s.data.toList true)
 rw[List.length_append,hN,←Lib.size_eq] at hcat
 have hwn:∀ x∈W,x≠[]:=fun x hx=>(U.words_word (U.tNote true s.data.toList).1 x (by rw[hW];exact hx)).1
 have hjl:(Lib.join W [32]).length≤s.size:=by
  have:=U.words_len (U.tNote true s.data.toList).1 []
  rw[show U.wordsC [] (U.tNote true s.data.toList).1=W from hW] at this
  simp only[List.length_nil] at this
  omega
 have hcl:W.length≤s.size:=by
  have:=U.words_count (U.tNote true s.data.toList).1 []
  rw[show U.wordsC [] (U.tNote true s.data.toList).1=W from hW] at this
  simp only[List.length_nil] at this
  omega
 have cP:=fun w=>Tryz.strings_HasPrefix s ⟨#[37]⟩ w
 rw[show (⟨#[37]⟩:ByteArray).data.toList=[37] from rfl] at cP
 by_cases h37:s.data.toList.headD 0=37
 ·have hp:Lib.hasPrefix s.data.toList [37]=true:=by
   rw[has_head]
   cases hl:s.data.toList with
   | nil=>rw[hl] at h37;exact absurd h37 (by decide)
   | cons b r=>rw[hl] at h37;exact ⟨r,by rw[show b=37 from h37]⟩
  rw[hp] at cP
  obtain ⟨w0,ws,hws⟩:=U.words_ne h37
  rw[hW] at hws
  have hpos:0<W.length:=by rw[hws];simp
  have hwl:∀ x∈W,x.length≤1000000000:=fun x hx=>by
   have h1:∀ (L:List (List UInt8)) x,x∈L→x.length≤(Lib.join L [32]).length:=by
    intro L
    induction L with
    | nil=>intro x hx;cases hx
    | cons y r ih=>
     intro x hx
     rw[Lib.join_cons]
     rcases List.mem_cons.1 hx with rfl|hx
     ·simp
     ·have h2:=ih x hx
      cases r with
      | nil=>cases hx
      | cons z r=>
       rw[Lib.join_cons] at h2
       simp only[Lib.joinTail,List.length_append,List.map_cons,List.flatten_cons,List.length_cons,List.length_nil] at h2 ⊢
       omega
   have:=h1 W x hx
   omega
  have HWN:=Lib.hid hwn
  have HWL:=Lib.hid hwl
  clear hp hws hwn hwl
  cases hF:U.tForm W with
  | false=>
   rw[tRead_no (by rw[hW,hF];simp)] at h
   simp only[Prod.mk.injEq] at h
   obtain ⟨rfl,rfl,rfl,rfl⟩:=h
   have HFm:=Lib.hid hF
   clear hW hN hF hcat h37
   go_enter Tryz.func44,Tryz.ntmps44
   go_wp2_with fail
   refine (direSplit_is W N s _ (by omega) HSP.out).mono ?_
   rintro e w1 ⟨v,rfl,ho,hb1⟩
   have hz1:=hb1.size
   go_wp2_with fail
   refine (cP _).mono ?_
   rintro e w2 ⟨rfl,rfl⟩
   go_wp2_with fail
   refine (direFormed_is false _ v W _ ho.is hpos (Nat.le_refl _) HWN.out HWL.out HFm.out).mono ?_
   rintro e w3 ⟨rfl,hb2⟩
   go_wp2
   refine bodyPost_ret (results_tmp4 rfl _ _ _) rfl ?_
   exact ⟨rfl,hb1.trans (hb2.mono hz1)⟩
  | true=>
   rw[tRead_yes (by rw[hW,hF];exact ⟨h37,rfl⟩),hW,hN] at h
   simp only[Prod.mk.injEq] at h
   obtain ⟨rfl,rfl,rfl,rfl⟩:=h
   have HFm:=Lib.hid hF
   obtain ⟨J,hJ⟩:∃ J,Lib.join W [32]=J:=⟨_,rfl⟩
   rw[hJ] at hjl ⊢
   have HJ:=Lib.hid hJ
   have cC:=fun w=>Tryz.strings_CutPrefix ⟨N.toArray⟩ ⟨#[35]⟩ w
   rw[mk_data,show (⟨#[35]⟩:ByteArray).data.toList=[35] from rfl] at cC
   have hnh:=U.note_head s.data.toList true
   rw[hN] at hnh
   obtain ⟨X,hX1,hX2,hX3⟩:∃ X,Lib.trimPrefix N [35]=X∧N.drop 1=X∧Lib.hasPrefix N [35]=!N.isEmpty:=by
    rcases hnh with rfl|⟨r,rfl⟩
    ·exact ⟨[],rfl,rfl,rfl⟩
    ·have hp:Lib.hasPrefix (35 :: r) [35]=true:=(has_head _ _).2 ⟨r,rfl⟩
     refine ⟨r,?_,rfl,by rw[hp];rfl⟩
     unfold Lib.trimPrefix
     rw[hp,if_pos rfl]
     rfl
   rw[hX1,hX3] at cC
   rw[hX2]
   have hXl:X.length≤100000:=by rw[←hX2,List.length_drop];omega
   obtain ⟨T,hT2⟩:∃ T,U.tCut X=T:=⟨_,rfl⟩
   have hTl:T.length≤100000:=by rw[←hT2];exact Nat.le_trans (U.cut_len X) hXl
   have HT2:Hid (U.tCut (⟨X.toArray⟩:ByteArray).data.toList=T):=Lib.hid (by rw[mk_data,hT2])
   rw[hT2]
   obtain ⟨q,hq⟩:∃ q,(!N.isEmpty)=q:=⟨_,rfl⟩
   rw[hq] at cC ⊢
   have HB:=Lib.hid (show J.length≤1000000000∧X.length≤1000000000∧T.length≤281474976710656∧W.length≤1000000000 by omega)
   clear hW hN hF hcat h37 hJ hjl hcl hX1 hX2 hX3 hXl hT2 hTl hq hnh
   go_enter Tryz.func44,Tryz.ntmps44
   go_wp2_with fail
   refine (direSplit_is W N s _ (by omega) HSP.out).mono ?_
   rintro e w1 ⟨v,rfl,ho,hb1⟩
   have hz1:=hb1.size
   go_wp2_with fail
   refine (cP _).mono ?_
   rintro e w2 ⟨rfl,rfl⟩
   go_wp2_with fail
   refine (direFormed_is true _ v W _ ho.is hpos (Nat.le_refl _) HWN.out HWL.out HFm.out).mono ?_
   rintro e w3 ⟨rfl,hb2⟩
   have ho3:=ho.below hb2
   have hb3:=hb1.trans (hb2.mono hz1)
   go_wp2_with fail
   refine (cC _).mono ?_
   rintro e w4 ⟨rfl,rfl⟩
   go_wp2_with fail
   refine (direTrim_is T ⟨X.toArray⟩ _ (by rw[mk_size];exact HB.out.2.1) (Utf8Tabs_below hT hb3) HT2.out).mono ?_
   rintro e w5 ⟨rfl,hb5⟩
   have ho5:=ho3.below hb5
   have hb6:=hb3.trans (hb5.mono hb3.size)
   go_wp2_with fail
   refine (direJoin_is _ J v W _ ho5.is hpos (Nat.le_refl _) HB.out.2.2.2 HB.out.1 HJ.out).mono ?_
   rintro e w6 ⟨rfl,hb7⟩
   have hb8:=hb6.trans (hb7.mono hb6.size)
   go_wp2_with fail
   refine (direClone_is ⟨J.toArray⟩ _ (by rw[mk_size];have:=HB.out.1;omega)).mono ?_
   rintro e w7 ⟨rfl,hb9⟩
   have hb10:=hb8.trans (hb9.mono hb8.size)
   go_wp2_with fail
   refine (direClone_is ⟨T.toArray⟩ _ (by rw[mk_size];exact HB.out.2.2.1)).mono ?_
   rintro e w8 ⟨rfl,hb11⟩
   have hb12:=hb10.trans (hb11.mono hb10.size)
   go_wp2
   refine bodyPost_ret (results_tmp4 rfl _ _ _) rfl ?_
   exact ⟨rfl,hb12⟩
 ·have hp:Lib.hasPrefix s.data.toList [37]=false:=by
   cases hh:Lib.hasPrefix s.data.toList [37] with
   | false=>rfl
   | true=>
    obtain ⟨r,hr⟩:=(has_head _ _).1 hh
    rw[hr] at h37
    exact absurd rfl h37
  rw[hp] at cP
  rw[tRead_no (fun hh=>h37 hh.1)] at h
  simp only[Prod.mk.injEq] at h
  obtain ⟨rfl,rfl,rfl,rfl⟩:=h
  clear hW hN hcat h37 hp hwn
  go_enter Tryz.func44,Tryz.ntmps44
  go_wp2_with fail
  refine (direSplit_is W N s _ (by omega) HSP.out).mono ?_
  rintro e w1 ⟨v,rfl,ho,hb1⟩
  go_wp2_with fail
  refine (cP _).mono ?_
  rintro e w2 ⟨rfl,rfl⟩
  go_wp2
  refine bodyPost_ret (results_tmp4 rfl _ _ _) rfl ?_
  exact ⟨rfl,hb1⟩
end Go.Proofs.YthcmkpiajkbpnaaGreatDoor
namespace Go.Proofs.YthcmkpiajkbpnaaGreatDoor
open Go.RowKit
def pAny (n h:List UInt8) (ds:List (List UInt8)):Bool:=ds.any fun x=>decide ((U.tFst x).1=n)&&(decide (n=U.yamlL)||decide ((U.tFst (U.tFst x).2).1=h))
def pTwice (ds:List (List UInt8)) (d:List UInt8):Bool:=
 (decide ((U.tFst d).1=U.yamlL)||(decide ((U.tFst d).1=U.tagD)&&!(U.tFst (U.tFst d).2).1.isEmpty))&&pAny (U.tFst d).1 (U.tFst (U.tFst d).2).1 ds
theorem pAny_nil (n h:List UInt8):pAny n h []=false:=rfl
theorem pAny_cons (n h x:List UInt8) (r:List (List UInt8)):pAny n h (x :: r)=((decide ((U.tFst x).1=n)&&(decide (n=U.yamlL)||decide ((U.tFst (U.tFst x).2).1=h)))||pAny n h r):=rfl
theorem pTwice_is (ds:List (List UInt8)) (d:List UInt8):pTwice ds d=U.tTwice ds d:=by
 unfold pTwice U.tTwice pAny
 obtain ⟨n0,n1,n2,n3⟩:=U.words_get d
 obtain ⟨n,hn⟩:∃ n,(U.tFst d).1=n:=⟨_,rfl⟩
 obtain ⟨m,hm⟩:∃ m,(U.tFst (U.tFst d).2).1=m:=⟨_,rfl⟩
 rw[hn] at n0 n2 ⊢
 rw[hm] at n1 n3 ⊢
 have step:∀ x,U.sameD (U.tWords x) (U.tWords d)=(decide ((U.tFst x).1≠[])&&(decide ((U.tFst x).1=n)&&(decide (n=U.yamlL)||(decide (n=U.tagD)&&(decide (m≠[])&&(decide ((U.tFst (U.tFst x).2).1≠[])&&decide ((U.tFst (U.tFst x).2).1=m))))))):=by
  intro x
  obtain ⟨x0,x1,x2,x3⟩:=U.words_get x
  unfold U.sameD
  rw[x0,x1,n0,n1,decide_eq_decide.2 x2,decide_eq_decide.2 x3,decide_eq_decide.2 n3]
 rw[decide_eq_decide.2 n2,show (fun x=>U.sameD (U.tWords x) (U.tWords d))=_ from funext step]
 by_cases hy:n=U.yamlL
 ·subst hy
  rw[decide_eq_true (rfl:U.yamlL=U.yamlL),decide_eq_true (show U.yamlL≠[] by decide),Bool.true_or,Bool.true_and,Bool.true_and]
  refine congrArg (List.any ds) (funext fun x=>?_)
  rw[Bool.true_or,Bool.true_or]
  by_cases hx:(U.tFst x).1=U.yamlL
  ·rw[hx];decide
  ·rw[decide_eq_false hx];simp
 rw[decide_eq_false hy,Bool.false_or]
 by_cases ht:n=U.tagD
 ·subst ht
  rw[decide_eq_true (rfl:U.tagD=U.tagD),decide_eq_true (show U.tagD≠[] by decide),Bool.true_and,Bool.true_and]
  by_cases he:m=[]
  ·subst he
   have:∀ l:List (List UInt8),(l.any fun x=>decide ((U.tFst x).1≠[])&&(decide ((U.tFst x).1=U.tagD)&&(false||(true&&(decide (([]:List UInt8)≠[])&&(decide ((U.tFst (U.tFst x).2).1≠[])&&decide ((U.tFst (U.tFst x).2).1=[])))))))=false:=by
    intro l
    rw[List.any_eq_false]
    intro x _
    simp
   rw[this]
   rfl
  ·have hme:(!m.isEmpty)=true:=by cases m <;> simp_all
   rw[hme,Bool.true_and]
   refine congrArg (List.any ds) (funext fun x=>?_)
   rw[decide_eq_true he,Bool.false_or,Bool.false_or,Bool.true_and,Bool.true_and]
   by_cases hx:(U.tFst x).1=U.tagD
   ·rw[hx,decide_eq_true (rfl:U.tagD=U.tagD),decide_eq_true (show U.tagD≠[] by decide),Bool.true_and,Bool.true_and,Bool.true_and]
    by_cases hxm:(U.tFst (U.tFst x).2).1=m
    ·rw[hxm,decide_eq_true he,Bool.true_and]
    ·rw[decide_eq_false hxm,Bool.and_false]
   ·rw[decide_eq_false hx,Bool.false_and,Bool.false_and,Bool.and_false]
 ·rw[decide_eq_false ht,Bool.false_and,Bool.false_and]
  symm
  rw[Bool.and_eq_false_iff]
  right
  rw[List.any_eq_false]
  intro x _
  simp
set_option maxRecDepth 100000 in
set_option maxHeartbeats 1600000 in
theorem direTwice_is (q:Bool) (B:Nat) (v:Value) (ds:List (List UInt8)) (d:ByteArray) (w:World) (hv:IsTexts B w v ds) (hB:B≤w.heap.size) (hd:d.size≤1000000000) (hsz:∀ x∈ds,x.length≤1000000000) (h:U.tTwice ds d.data.toList=q) :
  Calls Tryz.prog 45 #[v,.string d] w fun e w'=>e=.returned (.bool q)∧Below w.heap.size w w':=by
 obtain ⟨n,r,hnr⟩:∃ n r,U.tFst d.data.toList=(n,r):=⟨_,_,rfl⟩
 obtain ⟨m,r2,hmr⟩:∃ m r2,U.tFst r=(m,r2):=⟨_,_,rfl⟩
 have hle:=U.fst_le d.data.toList
 rw[←pTwice_is] at h
 unfold pTwice at h
 rw[hnr,hmr] at h
 rw[hnr,←Lib.size_eq] at hle
 dsimp only at h hle
 have HR:=Lib.hid (show r.length≤1000000000 by omega)
 have HN:=Lib.hid hnr
 have HM:Hid (U.tFst (⟨r.toArray⟩:ByteArray).data.toList=(m,r2)):=Lib.hid (by rw[mk_data,hmr])
 clear hnr hmr hle
 obtain ⟨ao,cap,rfl,k1,m1⟩:=hv.slice
 unfold maxLen at m1
 obtain ⟨L,hL⟩:∃ L,L=ds.length:=⟨_,rfl⟩
 rw[←hL] at k1 hv ⊢
 have HL:=Lib.hid hL
 have HZ:=Lib.hid hsz
 clear hL hsz
 by_cases h1:n=U.yamlL
 ·have HQ:Hid (pAny n m ds=q):=Lib.hid (by rw[←h,h1];simp)
  have HY:=Lib.hid h1
  replace h1:n=[37,89,65,77,76]:=h1
  subst h1
  clear h
  go_enter Tryz.func45,Tryz.ntmps45
  go_wp2_with fail
  refine (direWord_is _ _ d _ (by omega) HN.out).mono ?_
  rintro e w1 ⟨rfl,hb1⟩
  go_wp2_with fail
  refine (direWord_is _ _ ⟨r.toArray⟩ _ (by rw[mk_size];have:=HR.out;omega) HM.out).mono ?_
  rintro e w2 ⟨rfl,hb2⟩
  have hb3:=hb1.trans (hb2.mono hb1.size)
  go_wp2
  go_loopw [37] (fun vi wr=>∃ i:Nat,vi=.int .i64 (i:Int)∧i≤L∧Below w.heap.size w wr∧Hid (pAny [37,89,65,77,76] m (ds.drop i)=q)) (fun vi _=>L-(intOf vi).toNat)
  case atStart=>exact ⟨0,rfl,Nat.zero_le _,hb3,HQ.out⟩
  case round=>
   obtain ⟨i,rfl,hi,hb,H⟩:=hrel
   by_cases hi2:i<L
   ·obtain ⟨bb,oo,rfl,hlt,hc⟩:=IsTexts.at hv HL.out.symm (by omega)
    have g1:=hc i hi2
    have hil:i<ds.length:=by rw[←HL.out];exact hi2
    have hxl:=getD_len HZ.out hil
    have H2:=H.out
    rw[drop_getD ds [] i hil,pAny_cons] at H2
    obtain ⟨x,hx⟩:∃ x,x=ds.getD i []:=⟨_,rfl⟩
    rw[←hx] at g1 H2 hxl
    obtain ⟨n',r',hnr'⟩:∃ n' r',U.tFst x=(n',r'):=⟨_,_,rfl⟩
    obtain ⟨m',r3,hmr'⟩:∃ m' r3,U.tFst r'=(m',r3):=⟨_,_,rfl⟩
    have hle':=U.fst_le x
    rw[hnr',hmr'] at H2
    rw[hnr'] at hle'
    dsimp only at H2 hle'
    have HN':Hid (U.tFst (⟨x.toArray⟩:ByteArray).data.toList=(n',r')):=Lib.hid (by rw[mk_data,hnr'])
    have HM':Hid (U.tFst (⟨r'.toArray⟩:ByteArray).data.toList=(m',r3)):=Lib.hid (by rw[mk_data,hmr'])
    have HX:=Lib.hid (show x.length≤1000000000∧r'.length≤1000000000 by omega)
    have g2:wr.cell? ⟨bb,oo+i,none⟩=some (.string ⟨x.toArray⟩):=by rw[hb.cell (p:=⟨bb,oo+i,none⟩) (by show bb<w.heap.size;omega)];exact g1
    clear hx hc g1 hnr' hmr' hle' hxl hil H
    by_cases hn:n'=[37,89,65,77,76]
    ·have HQ2:Hid (q=true):=Lib.hid (by rw[←H2,hn];rfl)
     subst hn
     clear H2
     go_wp2_with fail
     refine (direWord_is _ _ ⟨x.toArray⟩ _ (by rw[mk_size];have:=HX.out;omega) HN'.out).mono ?_
     rintro e w3 ⟨rfl,hb4⟩
     go_wp2_with fail
     refine (direWord_is _ _ ⟨r'.toArray⟩ _ (by rw[mk_size];have:=HX.out;omega) HM'.out).mono ?_
     rintro e w4 ⟨rfl,hb5⟩
     have hb6:=(hb.trans (hb4.mono hb.size)).trans (hb5.mono (by have:=hb4.size;have:=hb.size;omega))
     go_wp2
     go_ret
     exact ⟨by rw[HQ2.out];rfl,hb6⟩
    ·have hnz:(n'==[37,89,65,77,76])=false:=by simpa using hn
     have hnz2:(n' != [37,89,65,77,76])=true:=by simpa using hn
     have HQ2:=Lib.hid (show pAny [37,89,65,77,76] m (ds.drop (i+1))=q by rw[←H2,decide_eq_false hn];rfl)
     clear H2 hn
     go_wp2_with fail
     refine (direWord_is _ _ ⟨x.toArray⟩ _ (by rw[mk_size];have:=HX.out;omega) HN'.out).mono ?_
     rintro e w3 ⟨rfl,hb4⟩
     have hb5:=hb.trans (hb4.mono hb.size)
     go_wp2
     go_roundw
     case rel=>exact ⟨i+1,by go_num,by omega,hb5,HQ2.out⟩
     case measure=>simp[intOf];omega
   ·have H2:=H.out
    rw[List.drop_eq_nil_of_le (by rw[←HL.out];omega),pAny_nil] at H2
    have HQ2:=Lib.hid H2
    clear H2
    go_wp2
    go_ret
    exact ⟨by rw[←HQ2.out];rfl,hb⟩
 have b1:(n==[37,89,65,77,76])=false:=by simpa [U.yamlL] using h1
 have b2:(n != [37,89,65,77,76])=true:=by simpa [U.yamlL] using h1
 by_cases h2:n=U.tagD
 ·by_cases h3:m=[]
  ·have HQ:Hid (q=false):=Lib.hid (by rw[←h,h2,h3];rfl)
   replace h2:n=[37,84,65,71]:=h2
   subst h2 h3
   clear h h1 b1 b2
   go_enter Tryz.func45,Tryz.ntmps45
   go_wp2_with fail
   refine (direWord_is _ _ d _ (by omega) HN.out).mono ?_
   rintro e w1 ⟨rfl,hb1⟩
   go_wp2_with fail
   refine (direWord_is _ _ ⟨r.toArray⟩ _ (by rw[mk_size];have:=HR.out;omega) HM.out).mono ?_
   rintro e w2 ⟨rfl,hb2⟩
   have hb3:=hb1.trans (hb2.mono hb1.size)
   go_wp2
   go_ret
   exact ⟨by rw[HQ.out];rfl,hb3⟩
  ·have hme:m.isEmpty=false:=by cases m <;> simp_all
   have HQ:Hid (pAny [37,84,65,71] m ds=q):=Lib.hid (by rw[←h,h2,hme];rfl)
   replace h2:n=[37,84,65,71]:=h2
   subst h2
   clear h h1 b1 b2 h3
   go_enter Tryz.func45,Tryz.ntmps45
   go_wp2_with fail
   refine (direWord_is _ _ d _ (by omega) HN.out).mono ?_
   rintro e w1 ⟨rfl,hb1⟩
   go_wp2_with fail
   refine (direWord_is _ _ ⟨r.toArray⟩ _ (by rw[mk_size];have:=HR.out;omega) HM.out).mono ?_
   rintro e w2 ⟨rfl,hb2⟩
   have hb3:=hb1.trans (hb2.mono hb1.size)
   go_wp2
   go_loopw [37] (fun vi wr=>∃ i:Nat,vi=.int .i64 (i:Int)∧i≤L∧Below w.heap.size w wr∧Hid (pAny [37,84,65,71] m (ds.drop i)=q)) (fun vi _=>L-(intOf vi).toNat)
   case atStart=>exact ⟨0,rfl,Nat.zero_le _,hb3,HQ.out⟩
   case round=>
    obtain ⟨i,rfl,hi,hb,H⟩:=hrel
    by_cases hi2:i<L
    ·obtain ⟨bb,oo,rfl,hlt,hc⟩:=IsTexts.at hv HL.out.symm (by omega)
     have g1:=hc i hi2
     have hil:i<ds.length:=by rw[←HL.out];exact hi2
     have hxl:=getD_len HZ.out hil
     have H2:=H.out
     rw[drop_getD ds [] i hil,pAny_cons] at H2
     obtain ⟨x,hx⟩:∃ x,x=ds.getD i []:=⟨_,rfl⟩
     rw[←hx] at g1 H2 hxl
     obtain ⟨n',r',hnr'⟩:∃ n' r',U.tFst x=(n',r'):=⟨_,_,rfl⟩
     obtain ⟨m',r3,hmr'⟩:∃ m' r3,U.tFst r'=(m',r3):=⟨_,_,rfl⟩
     have hle':=U.fst_le x
     rw[hnr',hmr'] at H2
     rw[hnr'] at hle'
     dsimp only at H2 hle'
     have HN':Hid (U.tFst (⟨x.toArray⟩:ByteArray).data.toList=(n',r')):=Lib.hid (by rw[mk_data,hnr'])
     have HM':Hid (U.tFst (⟨r'.toArray⟩:ByteArray).data.toList=(m',r3)):=Lib.hid (by rw[mk_data,hmr'])
     have HX:=Lib.hid (show x.length≤1000000000∧r'.length≤1000000000 by omega)
     have g2:wr.cell? ⟨bb,oo+i,none⟩=some (.string ⟨x.toArray⟩):=by rw[hb.cell (p:=⟨bb,oo+i,none⟩) (by show bb<w.heap.size;omega)];exact g1
     clear hx hc g1 hnr' hmr' hle' hxl hil H
     by_cases hn:n'=[37,84,65,71]
     ·by_cases hm:m'=m
      ·have HQ2:Hid (q=true):=Lib.hid (by rw[←H2,hn,hm];simp)
       have hmm:(m'==m)=true:=by simpa using hm
       subst hn
       clear H2 hm
       go_wp2_with fail
       refine (direWord_is _ _ ⟨x.toArray⟩ _ (by rw[mk_size];have:=HX.out;omega) HN'.out).mono ?_
       rintro e w3 ⟨rfl,hb4⟩
       go_wp2_with fail
       refine (direWord_is _ _ ⟨r'.toArray⟩ _ (by rw[mk_size];have:=HX.out;omega) HM'.out).mono ?_
       rintro e w4 ⟨rfl,hb5⟩
       have hb6:=(hb.trans (hb4.mono hb.size)).trans (hb5.mono (by have:=hb4.size;have:=hb.size;omega))
       go_wp2
       go_ret
       exact ⟨by rw[HQ2.out];rfl,hb6⟩
      ·have hmm:(m'==m)=false:=by simpa using hm
       have HQ2:=Lib.hid (show pAny [37,84,65,71] m (ds.drop (i+1))=q by rw[←H2,decide_eq_false hm,decide_eq_false (show ¬ ([37,84,65,71]:List UInt8)=U.yamlL by decide),Bool.or_false,Bool.and_false,Bool.false_or])
       subst hn
       clear H2 hm
       go_wp2_with fail
       refine (direWord_is _ _ ⟨x.toArray⟩ _ (by rw[mk_size];have:=HX.out;omega) HN'.out).mono ?_
       rintro e w3 ⟨rfl,hb4⟩
       go_wp2_with fail
       refine (direWord_is _ _ ⟨r'.toArray⟩ _ (by rw[mk_size];have:=HX.out;omega) HM'.out).mono ?_
       rintro e w4 ⟨rfl,hb5⟩
       have hb6:=(hb.trans (hb4.mono hb.size)).trans (hb5.mono (by have:=hb4.size;have:=hb.size;omega))
       go_wp2
       go_roundw
       case rel=>exact ⟨i+1,by go_num,by omega,hb6,HQ2.out⟩
       case measure=>simp[intOf];omega
     ·have hnz:(n'==[37,84,65,71])=false:=by simpa using hn
      have hnz2:(n' != [37,84,65,71])=true:=by simpa using hn
      have HQ2:=Lib.hid (show pAny [37,84,65,71] m (ds.drop (i+1))=q by rw[←H2,decide_eq_false hn];rfl)
      clear H2 hn
      go_wp2_with fail
      refine (direWord_is _ _ ⟨x.toArray⟩ _ (by rw[mk_size];have:=HX.out;omega) HN'.out).mono ?_
      rintro e w3 ⟨rfl,hb4⟩
      have hb5:=hb.trans (hb4.mono hb.size)
      go_wp2
      go_roundw
      case rel=>exact ⟨i+1,by go_num,by omega,hb5,HQ2.out⟩
      case measure=>simp[intOf];omega
    ·have H2:=H.out
     rw[List.drop_eq_nil_of_le (by rw[←HL.out];omega),pAny_nil] at H2
     have HQ2:=Lib.hid H2
     clear H2
     go_wp2
     go_ret
     exact ⟨by rw[←HQ2.out];rfl,hb⟩
 ·have HQ:Hid (q=false):=Lib.hid (by rw[←h,decide_eq_false h1,decide_eq_false h2];rfl)
  have c1:(n==[37,84,65,71])=false:=by simpa [U.tagD] using h2
  have c2:(n != [37,84,65,71])=true:=by simpa [U.tagD] using h2
  clear h h1 h2
  go_enter Tryz.func45,Tryz.ntmps45
  go_wp2_with fail
  refine (direWord_is _ _ d _ (by omega) HN.out).mono ?_
  rintro e w1 ⟨rfl,hb1⟩
  go_wp2_with fail
  refine (direWord_is _ _ ⟨r.toArray⟩ _ (by rw[mk_size];have:=HR.out;omega) HM.out).mono ?_
  rintro e w2 ⟨rfl,hb2⟩
  have hb3:=hb1.trans (hb2.mono hb1.size)
  go_wp2
  go_ret
  exact ⟨by rw[HQ.out];rfl,hb3⟩
end Go.Proofs.YthcmkpiajkbpnaaGreatDoor
namespace Go.Proofs.YthcmkpiajkbpnaaGreatDoor
open Go.RowKit
theorem NoteZ.cap {s:ByteArray} {wi:Bool} {n:Int} {p:Nat} {L:Coms} {S:Bool} {E C:Int} (h:NoteZ s wi n (p:Int) L S E C):∃ E':Nat,E=(E':Int)∧E'≤s.size∧L.length≤s.size∧(p≤s.size→p≤E'):=by
 have h2:NoteZ s wi n ((min p s.size:Nat):Int) L S E C:=by
  have hc:clampN ((min p s.size:Nat):Int) s.size=clampN (p:Int) s.size:=by unfold clampN;omega
  obtain ⟨r0,E',h1,h2,h3⟩:=h
  exact ⟨r0,E',by rw[hc];exact h1,h2,by rw[hc];exact h3⟩
 have hp:min p s.size≤s.size:=Nat.min_le_right _ _
 obtain ⟨E',rfl,f1,f2⟩:=h2.far_le hp
 obtain ⟨k1,k2,k3⟩:=facts_of h2 hp
 refine ⟨E',rfl,f2,?_,fun h=>by omega⟩
 by_cases hC:C=0
 ·have:=k2 hC;rw[Int.toNat_natCast] at this;omega
 ·rw[k3 hC];exact Nat.zero_le _
theorem stBegins_is (k p:Nat) (s:ByteArray) (w:World) (hs:s.size≤10000) (hp:p≤s.size) (hb:bgnR s p k) :
  Calls Tryz.prog 21 #[.string s,.int .i64 (p:Int)] w fun e w'=>e=.returned (.int .i64 (k:Int))∧w'=w:=by
 obtain ⟨a,b,q,hA,hB,hF,hk⟩:=hb
 have hc:clampN (p:Int) s.size=p:=clampN_nat hp
 have CK:=fun W=>rowsKind_is _ a b q s (p:Int) W (by omega) (by rw[hc];exact hA) (by rw[hc];exact hB) hF rfl
 have CO:=fun W=>Col_is a p s (p:Int) W (by omega) hc hA
 obtain ⟨kd,hkd⟩:∃ kd,kindN s a b q=kd:=⟨_,rfl⟩
 rw[hkd] at CK hk
 have hap:=hA.1
 unfold bgnN at hk
 have HK:=Lib.hid hk
 clear hk hkd hA hB hF hc
 go_enter Tryz.func21,Tryz.ntmps21
 go_wp2_with fail
 refine (CK _).mono ?_
 rintro e w1 ⟨rfl,rfl⟩
 clear CK
 by_cases h0:p=s.size
 ·have h:=HK.out
  rw[if_pos (by omega)] at h
  have hb0:((p:Int)==(s.size:Int))=true:=by rw[beq_iff_eq];omega
  subst h
  go_wp2
  go_ret
  exact ⟨rfl,rfl⟩
 have hb0:((p:Int)==(s.size:Int))=false:=by rw[beq_eq_false_iff_ne];omega
 by_cases h4:kd=4
 ·have h:=HK.out
  rw[if_neg (by omega),if_pos h4] at h
  subst h h4
  go_wp2
  go_ret
  exact ⟨rfl,rfl⟩
 have hb4:(kd==4)=false:=by rw[beq_eq_false_iff_ne];exact h4
 have h:=HK.out
 rw[if_neg (by omega),if_neg h4] at h
 have hlt:p<s.size:=by omega
 have hi:=run_byt s p hlt _ rfl
 obtain ⟨x,hx⟩:∃ x,byt s p=x:=⟨_,rfl⟩
 rw[hx] at hi h
 by_cases h37:x=37
 ·subst h37
  by_cases hcol:p-a=0
  ·rw[if_pos ⟨rfl,hcol⟩] at h
   have hc0:(((p:Int)-(a:Int))==0)=true:=by rw[beq_iff_eq];omega
   subst h
   go_wp2_with fail
   refine (CO _).mono ?_
   rintro e w2 ⟨rfl,rfl⟩
   go_wp2
   go_ret
   exact ⟨rfl,rfl⟩
  ·rw[if_neg (fun e=>hcol e.2)] at h
   have hc0:(((p:Int)-(a:Int))==0)=false:=by rw[beq_eq_false_iff_ne];omega
   by_cases h3:kd=3
   ·rw[if_pos h3] at h
    subst h h3
    go_wp2_with fail
    refine (CO _).mono ?_
    rintro e w2 ⟨rfl,rfl⟩
    go_wp2
    go_ret
    exact ⟨rfl,rfl⟩
   ·rw[if_neg h3] at h
    have hb3:(kd==3)=false:=by rw[beq_eq_false_iff_ne];exact h3
    subst h
    go_wp2_with fail
    refine (CO _).mono ?_
    rintro e w2 ⟨rfl,rfl⟩
    go_wp2
    go_ret
    exact ⟨rfl,rfl⟩
 ·rw[if_neg (fun e=>h37 e.1)] at h
  have hx0:((x:Int)==37)=false:=by rw[beq_eq_false_iff_ne];omega
  by_cases h3:kd=3
  ·rw[if_pos h3] at h
   subst h h3
   go_wp2
   go_ret
   exact ⟨rfl,rfl⟩
  ·rw[if_neg h3] at h
   have hb3:(kd==3)=false:=by rw[beq_eq_false_iff_ne];exact h3
   subst h
   go_wp2
   go_ret
   exact ⟨rfl,rfl⟩
def StBad (g:Nat) (w:World) (q:Nat) (w':World):Prop:=w'.cell? ⟨g,1,none⟩=some (.int .i64 (q:Int))∧Below w.heap.size w w'
end Go.Proofs.YthcmkpiajkbpnaaGreatDoor
namespace Go.Proofs.YthcmkpiajkbpnaaGreatDoor
open Go.RowKit
section
variable {g:Nat} {s:ByteArray} {w wr:World} {H:Coms} {D:List DT} {cs:List Value} {R:Nat→Prop}
set_option maxRecDepth 100000 in
set_option maxHeartbeats 1600000 in
theorem stDots_is {q t q2:Nat} {L2:Coms} {S2:Bool} {C2:Int} {ds:List (List UInt8)} {hv dv kv:Value} (M:StM g s w wr q H ds D hv dv kv cs R) (hs:s.size≤10000) (hq:q≤s.size) (ht:RowE s q t) (hN:NoteZ (cutB s t) false 0 ((q+3:Nat):Int) L2 S2 (q2:Int) C2) (hq2:q2≤t) (hH:H.length≤500000000) :
  Calls Tryz.prog 22 #[.pointer (some ⟨g,0,none⟩)] wr fun e w'=>(q2=t→e=.returned (.int .i64 0)∧∃ hv',StM g s w w' (t+1) (H++L2) ds D hv' dv kv cs R)∧(q2<t→e=.returned (.int .i64 5)∧StBad g w q2 w'):=by
 have hts:=ht.2.1
 obtain ⟨a,hA⟩:=RowB.ex s q
 have hc:clampN (q:Int) s.size=q:=clampN_nat hq
 have CR:=fun W=>Row_is a t s (q:Int) W (by omega) (by rw[hc];exact hA) (by rw[hc];exact ht)
 obtain ⟨T,hT⟩:∃ T,T=cutB s t:=⟨_,rfl⟩
 have hTz:T.size=t:=by rw[hT];exact cutB_size hts
 rw[←hT] at hN
 have CN:=fun W=>noteSkip_is L2 S2 (q2:Int) C2 T ((q+3:Nat):Int) W (by omega) hN
 obtain ⟨E',hE',k1,k2,k3⟩:=hN.cap
 obtain rfl:q2=E':=by omega
 rw[Int.natCast_add] at CN
 have HT:Hid (s.extract 0 t=T):=hT.symm
 obtain ⟨ha,ca,rfl⟩:=M.hh.form
 have hcl:=fun j=>cell_of_row wr g j _ _ _ M.row
 have hfr:=fun j=>frozen_of_row wr g j _ _ M.row
 have HM:=Lib.hid M
 clear M hN hT hA hc
 unfold rdsC at hcl hfr
 go_enter Tryz.func22,Tryz.ntmps22
 go_wp2_with fail
 go_quiet (first|exact Calls.quiet_of_same ((CR _).mono (by rintro e w' ⟨rfl,rfl⟩;exact ⟨rfl,rfl⟩)))
 go_wp2_with fail
 obtain ⟨W2,hW2⟩:∃ W2,W2=wr.drewN nq:=⟨_,rfl⟩
 have b2:Below wr.heap.size wr W2:=by rw[hW2];exact Go.below_drewN (Below.refl _ _) _
 have M2:=HM.out.below b2
 rw[←hW2]
 clear hW2 hcl hfr HM CR b2 nq
 have hcl:=fun j=>cell_of_row W2 g j _ _ _ M2.row
 have HM2:=Lib.hid M2
 have hwr:IntKind.i64.wrap ((q:Int)+3)=(q:Int)+3:=by rw[IntKind.wrap_i64];omega
 have hS0:(W2.drew.cell? ⟨g,0,none⟩=some (.string s)∧W2.drew.cell? ⟨g,1,none⟩=some (.int .i64 (q:Int)))∧Below W2.heap.size W2 W2.drew:=⟨⟨hcl 0,hcl 1⟩,(Below.refl _ _).drew⟩
 have CS:∀ W:World,((W.cell? ⟨g,0,none⟩=some (.string s)∧W.cell? ⟨g,1,none⟩=some (.int .i64 (q:Int)))∧Below W2.heap.size W2 W)→Calls Tryz.prog 20 #[.string (s.extract 0 t),.int .i64 ((q:Int)+3)] W fun e w'=>∃ v,e=.returned (.tuple #[v,.bool S2,.int .i64 (q2:Int),.int .i64 C2])∧((w'.cell? ⟨g,0,none⟩=some (.string s)∧w'.cell? ⟨g,1,none⟩=some (.int .i64 (q:Int)))∧Below W2.heap.size W2 w')∧OutC W2.heap.size w' v L2:=fun W hS=>by
  rw[HT.out]
  refine (CN W).mono ?_
  rintro e w8 ⟨v,a1,a2,a3⟩
  have b8:=hS.2.trans (a3.mono hS.2.size)
  have h8:=fun j=>cell_of_row w8 g j _ _ _ (HM2.out.below b8).row
  exact ⟨v,a1,⟨⟨h8 0,h8 1⟩,b8⟩,⟨a2.1,a2.2.imp id fun ⟨k,c,cur,g1,g2,g3⟩=>⟨k,c,cur,g1,Nat.le_trans hS.2.size g2,g3⟩⟩⟩
 clear hcl M2
 go_region_held3 (fun w'=>(w'.cell? ⟨g,0,none⟩=some (.string s)∧w'.cell? ⟨g,1,none⟩=some (.int .i64 (q:Int)))∧Below W2.heap.size W2 w') (first|(with_reducible assumption)|(with_reducible exact hS0))
  (first|(go_at_call 20;refine (CS _ (by first|(with_reducible exact hS0)|(with_reducible assumption))).mono ?_;rintro e w9 ⟨vn,rfl,hS9,hx9⟩))
 have M9:=HM2.out.below hS9.2
 have hh9:=HasV.of_own hx9
 obtain ⟨an,cn,hn⟩:=hh9.form
 subst hn
 have HC9:=Lib.hid hh9.toComs
 have HM9:=Lib.hid M9
 have hcl:=fun j=>cell_of_row w9 g j _ _ _ M9.row
 have hfr:=fun j=>frozen_of_row w9 g j _ _ M9.row
 unfold rdsC at hcl hfr
 clear hS9 CN CS hS0 hx9 hh9 M9 HM2 HT
 by_cases hqt:q2=t
 ·subst hqt
  go_wp2_with (at_builtin;refine appendH rfl _ _ rfl _ (.slice ha H.length ca) (.slice an L2.length cn) H L2 rfl rfl HM9.out.hh HC9.out (by omega) ?_;intro v5 w5 o5 g5 n5;have HO5:=Lib.hid o5;obtain ⟨a5,c5,rfl⟩:=o5.form;have r5:=(g5.block g HM9.out.lt (fun e=>(HM9.out.own1 g e.symm).2.1 rfl)).trans HM9.out.row;have q5:=fun j=>cell_of_row w5 g j _ _ _ r5;have f5:=fun j=>frozen_of_row w5 g j _ _ r5;unfold rdsC at q5 f5;clear o5 r5)
  go_ret
  have hfin:=(HM9.out.more HO5.out g5 n5).put (q2+1)
  simp only[List.length_append] at hfin
  exact ⟨rfl,_,hfin⟩
 ·have hlt:(q2:Int)<(t:Int):=by omega
  go_wp2
  go_ret
  exact ⟨fun h=>absurd h hqt,fun _=>⟨rfl,(cell_of_row _ g 1 _ _ _ (HM9.out.put _).row).trans rfl,(HM9.out.put _).keep⟩⟩
end
end Go.Proofs.YthcmkpiajkbpnaaGreatDoor
