/- Parts of the proof, put together from smaller texts (blanks that Lean does not want are struck). Conditions: those that each theorem writes out. -/
import Derived.Shelf.Strings.BuilderRune
import Derived.Test.YtncngeamdechmaaGreatDoorZ02
import Derived.Test.YtncngeamdechmaaGreatDoorZ05
import Derived.Test.YtncngeamdechmaaGreatDoorZ16
import Derived.Test.YtncngeamdechmaaGreatDoorZ17
namespace Go.Proofs.YtncngeamdechmaaGreatDoor
open Go.RowKit Go.Shelf
def begA (k:Int) (i:Nat) (n:Int) (a f x:Nat) (c:Int):Prop:=(k=1∧x=f∧c=0)∨(k=3∧x=a∧c=5)∨(k=4∧x=a∧c=5)∨(k≠1∧k≠3∧k≠4∧(i:Int)≤n∧x=f∧c=5)∨(k≠1∧k≠3∧k≠4∧n<(i:Int)∧x=f∧c=0)
set_option maxHeartbeats 800000 in
theorem quotBegin_is (x:Nat) (c:Int) (s:ByteArray) (a b f i:Nat) (n:Int) (w:World) (hs:s.size≤1099511627776) (ha:a≤s.size) (hB:RowB s a a) (hE:RowE s a b) (hF:FirN s a b f) (hI:InN s a b i) (h:begA (kindN s a b f) i n a f x c) :
  Calls Tryz.prog 68 #[.string s,.int .i64 (a:Int),.int .i64 n] w fun e w'=>e=.returned (.tuple #[.int .i64 (x:Int),.int .i64 c])∧Below w.heap.size w w':=by
 have hb1:=hE.1
 have hb2:=hE.2.1
 have hf1:=hF.1
 have hf2:=hF.2.1
 have hcl:=clampN_self a s.size ha
 have HB:Hid (RowB s (clampN (a:Int) s.size) a):=Lib.hid (by rw[hcl];exact hB)
 have HE:Hid (RowE s (clampN (a:Int) s.size) b):=Lib.hid (by rw[hcl];exact hE)
 have HF:=Lib.hid hF
 have HI:=Lib.hid hI
 obtain ⟨k,hk⟩:∃ k,kindN s a b f=k:=⟨_,rfl⟩
 have HK:=Lib.hid hk
 rw[hk] at h
 obtain ⟨Z,hZ⟩:∃ Z:ByteArray,Z=⟨(pieceL s f b).toArray⟩:=⟨_,rfl⟩
 have hZs:Z.size=b-f:=by rw[hZ,←piece_len hb2];simp[ByteArray.size]
 have HT:Hid ((⟨(Lib.trimLeftS (s.extract a b).data.toList [32,9]).toArray⟩:ByteArray)=Z):=Lib.hid (by rw[piece_ext s a b];show (⟨(Lib.trimLeftS (pieceL s a b) [32,9]).toArray⟩:ByteArray)=Z;rw[trim_piece hb2 hF,hZ])
 have hz:(b:Int)-(Z.size:Int)=(f:Int):=by omega
 clear hB hE hF hI hk hZ hZs hcl
 rcases h with ⟨rfl,rfl,rfl⟩|⟨rfl,rfl,rfl⟩|⟨rfl,rfl,rfl⟩|⟨h1,h3,h4,hin,rfl,rfl⟩|⟨h1,h3,h4,hin,rfl,rfl⟩
 ·go_enter Tryz.func68,Tryz.ntmps68
  go_wp2_with fail
  refine (Row_is a b s (a:Int) _ hs HB.out HE.out).mono ?_
  rintro e w1 ⟨rfl,rfl⟩
  go_wp2_with fail
  refine (quotTrimL Z (s.extract a b) _ HT.out).mono ?_
  rintro e w1 ⟨rfl,hb⟩
  go_wp2_with fail
  refine (rowsKind_is 1 a b x s (a:Int) _ hs HB.out HE.out HF.out HK.out).mono ?_
  rintro e w2 ⟨rfl,rfl⟩
  go_wp2
  go_ret2
  exact ⟨rfl,hb⟩
 ·go_enter Tryz.func68,Tryz.ntmps68
  go_wp2_with fail
  refine (Row_is x b s (x:Int) _ hs HB.out HE.out).mono ?_
  rintro e w1 ⟨rfl,rfl⟩
  go_wp2_with fail
  refine (quotTrimL Z (s.extract x b) _ HT.out).mono ?_
  rintro e w1 ⟨rfl,hb⟩
  go_wp2_with fail
  refine (rowsKind_is 3 x b f s (x:Int) _ hs HB.out HE.out HF.out HK.out).mono ?_
  rintro e w2 ⟨rfl,rfl⟩
  go_wp2
  go_ret2
  exact ⟨rfl,hb⟩
 ·go_enter Tryz.func68,Tryz.ntmps68
  go_wp2_with fail
  refine (Row_is x b s (x:Int) _ hs HB.out HE.out).mono ?_
  rintro e w1 ⟨rfl,rfl⟩
  go_wp2_with fail
  refine (quotTrimL Z (s.extract x b) _ HT.out).mono ?_
  rintro e w1 ⟨rfl,hb⟩
  go_wp2_with fail
  refine (rowsKind_is 4 x b f s (x:Int) _ hs HB.out HE.out HF.out HK.out).mono ?_
  rintro e w2 ⟨rfl,rfl⟩
  go_wp2
  go_ret2
  exact ⟨rfl,hb⟩
 ·have g1:(k==1)=false:=by simpa using h1
  have g3:(k==3)=false:=by simpa using h3
  have g4:(k==4)=false:=by simpa using h4
  clear h1 h3 h4
  go_enter Tryz.func68,Tryz.ntmps68
  go_wp2_with fail
  refine (Row_is a b s (a:Int) _ hs HB.out HE.out).mono ?_
  rintro e w1 ⟨rfl,rfl⟩
  go_wp2_with fail
  refine (quotTrimL Z (s.extract a b) _ HT.out).mono ?_
  rintro e w1 ⟨rfl,hb⟩
  go_wp2_with fail
  refine (rowsKind_is k a b x s (a:Int) _ hs HB.out HE.out HF.out HK.out).mono ?_
  rintro e w2 ⟨rfl,rfl⟩
  go_wp2_with fail
  refine (rowsIn_is a b i s (a:Int) _ hs HB.out HE.out HI.out).mono ?_
  rintro e w2 ⟨rfl,rfl⟩
  go_wp2
  go_ret2
  exact ⟨rfl,hb⟩
 ·have g1:(k==1)=false:=by simpa using h1
  have g3:(k==3)=false:=by simpa using h3
  have g4:(k==4)=false:=by simpa using h4
  clear h1 h3 h4
  go_enter Tryz.func68,Tryz.ntmps68
  go_wp2_with fail
  refine (Row_is a b s (a:Int) _ hs HB.out HE.out).mono ?_
  rintro e w1 ⟨rfl,rfl⟩
  go_wp2_with fail
  refine (quotTrimL Z (s.extract a b) _ HT.out).mono ?_
  rintro e w1 ⟨rfl,hb⟩
  go_wp2_with fail
  refine (rowsKind_is k a b x s (a:Int) _ hs HB.out HE.out HF.out HK.out).mono ?_
  rintro e w2 ⟨rfl,rfl⟩
  go_wp2_with fail
  refine (rowsIn_is a b i s (a:Int) _ hs HB.out HE.out HI.out).mono ?_
  rintro e w2 ⟨rfl,rfl⟩
  go_wp2
  go_ret2
  exact ⟨rfl,hb⟩
def totG:List (List (List UInt8))→Nat
 | []=>0
 | g :: t=>U.tot g+totG t
theorem totG_append:∀ a b:List (List (List UInt8)),totG (a++b)=totG a+totG b
 | [],b=>by simp[totG]
 | g :: a,b=>by rw[List.cons_append,totG,totG,totG_append a b,Nat.add_assoc]
theorem flowGo_len:∀ (t:List (List UInt8)) (n:Nat),(U.flowGo n t).length≤n+U.tot t
 | [],n=>by rw[U.flowGo_nil];simp
 | r :: t,n=>by
  by_cases h:r=[]∧t≠[]
  ·obtain ⟨rfl,h2⟩:=h
   rw[U.flowGo_blank n h2]
   have:=flowGo_len t (n+1)
   simp only[U.tot,List.length_nil]
   omega
  ·rw[U.flowGo_row n h]
   have:=flowGo_len t 0
   have h3:=U.sep_length n
   simp only[U.tot,List.length_append]
   omega
theorem flowT_len:∀ g:List (List UInt8),(U.flowT g).length≤U.tot g
 | []=>Nat.zero_le _
 | r :: t=>by
  have:=flowGo_len t 0
  show (r++U.flowGo 0 t).length≤r.length+1+U.tot t
  rw[List.length_append]
  omega
def lenV:Value→Nat
 | .slice _ n _=>n
 | _=>0
theorem IsTexts.tail {B:Nat} {w:World} {b o n cap:Nat} {r:List UInt8} {t:List (List UInt8)} (h:IsTexts B w (.slice (some ⟨b,o,none⟩) n cap) (r :: t)):IsTexts B w (.slice (some ⟨b,o+1,none⟩) (n-1) (cap-1)) t:=by
 obtain ⟨ao,cap2,e,h1,h2,h3,h4⟩:=h
 injection e with e1 e2 e3
 subst e2 e3
 obtain ⟨b2,o2,e4,h5,h6⟩:=h4 (by simp)
 rw[←e1] at e4
 injection e4 with e5
 injection e5 with e6 e7 e8
 subst e6 e7
 have hl:(r :: t).length=t.length+1:=rfl
 rw[hl] at h1 h6 ⊢
 refine ⟨_,cap-1,by rw[Nat.add_sub_cancel],by omega,by omega,(fun h=>by cases h),fun hp=>⟨b,o+1,rfl,h5,fun j hj=>?_⟩⟩
 have h7:=h6 (j+1) (by omega)
 rw[show o+1+j=o+(j+1) by omega,h7]
 rfl
theorem elemS:Tryz.prog.elem 24=9:=by kernel_rfl
theorem run_tail (b o n cap:Nat) (hn:1≤n) (hc:1<cap):∀ W,(Instr.slice 24 (.slice (some ⟨b,o,none⟩) n cap) (some (.int .i64 1)) none none).run Tryz.prog W=.ok (.slice (some ⟨b,o+1,none⟩) (n-1) (cap-1)) W:=by
 intro W
 have ht:Tryz.prog.underlying 24=some (.slice (Tryz.prog.elem 24)):=by rw[elemS];exact Tryz.underlying24
 have hne:¬ cap=1:=by omega
 rw[run_slice_l W 24 _ n cap ht .i64 1 (by decide) (by omega),elemS,Tryz.sizeOf9]
 simp[Result.andThen,sliced,hne,Addr.add]
set_option maxRecDepth 100000 in
set_option maxHeartbeats 1600000 in
theorem quotJoin_is (out:List UInt8) (v:Value) (gs:List (List (List UInt8))) (w:World) (h:IsGroups w.heap.size w v gs) (hM:totG gs≤1000000) (hne:gs≠[]) (ho:jAll gs=out) :
  Calls Tryz.prog 67 #[v] w fun e w'=>e=.returned (.string ⟨out.toArray⟩)∧Below w.heap.size w w':=by
 obtain ⟨g,cp,rfl,c1,d1,hgB,hc⟩:=h
 unfold maxLen at d1
 obtain ⟨L,hL⟩:∃ L,L=gs.length:=⟨_,rfl⟩
 rw[←hL] at hc c1 ⊢
 have hLp:0<L:=by
  rw[hL]
  exact List.length_pos_iff.2 hne
 have HL:=Lib.hid hL
 have HO:=Lib.hid ho
 have i0:=IsB.fresh w
 have hb0:Below w.heap.size w (w.alloc (.cells #[.pointer none,.slice none 0 0] 114)):=(Below.refl _ _).alloc (Nat.le_refl _) _
 have hs0:w.heap.size<(w.alloc (.cells #[.pointer none,.slice none 0 0] 114)).heap.size:=by simp
 clear hL ho hne
 go_enter Tryz.func67,Tryz.ntmps67
 go_wp2
 obtain ⟨B,hB⟩:∃ B,B=w.heap.size:=⟨_,rfl⟩
 rw[←hB] at hc hgB i0 hb0 hs0 ⊢
 obtain ⟨W0,hW0⟩:∃ W0,W0=w.alloc (.cells #[.pointer none,.slice none 0 0] 114):=⟨_,rfl⟩
 rw[←hW0] at i0 hb0 hs0 ⊢
 have HBB:=Lib.hid hB
 have HC:=Lib.hid hc
 clear hB hW0 hc
 go_loopw [8] (fun vk wr=>∃ (k:Nat) (acc:List UInt8),vk=.int .i64 (k:Int)∧k≤L∧IsB B B acc wr∧Below B w wr∧B<wr.heap.size∧acc.length+totG (gs.drop k)≤1000000∧(k=0→acc=[])∧Hid (0<k→acc++jRest (gs.drop k)=out)) (fun vk _=>L-(intOf vk).toNat)
 case atStart=>exact ⟨0,[],rfl,Nat.zero_le _,i0,hb0,hs0,by simpa using hM,fun _=>rfl,fun h=>by omega⟩
 case round=>
  obtain ⟨k,acc,rfl,hk,hI,hb,hs,ha,hz,H⟩:=hrel
  by_cases hk2:k<L
  ·obtain ⟨u,hu,htx⟩:=HC.out k hk2
   have g1:wr.cell? ⟨g,k,none⟩=some u:=by rw[hb.cell (p:=⟨g,k,none⟩) hgB];exact hu
   have hD:gs.drop k=gs.getD k [] :: gs.drop (k+1):=by
    have hkg:k<gs.length:=by rw[←HL.out];exact hk2
    rw[List.drop_eq_getElem_cons hkg]
    simp[List.getD,List.getElem?_eq_getElem hkg]
   obtain ⟨l0,hl0⟩:∃ l0,l0=gs.getD k []:=⟨_,rfl⟩
   obtain ⟨t0,ht0⟩:∃ t0,t0=gs.drop (k+1):=⟨_,rfl⟩
   rw[←hl0,←ht0] at hD
   rw[←hl0] at htx
   rw[hD,totG] at ha
   have HD:=Lib.hid hD
   have HT:=Lib.hid ht0
   obtain ⟨ao,cap,rfl,c2,d2⟩:=htx.slice
   unfold maxLen at d2
   clear hu hD hl0 ht0
   by_cases hk0:k=0
   ·obtain rfl:=hz hk0
    have hk1:(k:Int)<1:=by omega
    obtain ⟨F,hF⟩:∃ F,U.flowT l0=F:=⟨_,rfl⟩
    have HF:Hid (([]++F)++jRest t0=out):=by
     show _=_
     have h2:=HD.out
     rw[hk0,List.drop_zero] at h2
     rw[←HO.out,h2,←hF];rfl
    have hfl:F.length≤U.tot l0:=by rw[←hF];exact flowT_len l0
    have HFe:=Lib.hid hF
    clear hF
    have HK:=Lib.hid hk0
    clear hk0 hz H HD
    obtain ⟨n,hn⟩:∃ n,n=l0.length:=⟨_,rfl⟩
    rw[←hn] at htx g1 c2
    have HN:=Lib.hid hn
    clear hn
    have hl0:l0.length≤1000000:=Nat.le_trans (by
     have:∀ l:List (List UInt8),l.length≤U.tot l:=by
      intro l
      induction l with
      | nil=>exact Nat.zero_le _
      | cons r t ih=>simp only[List.length_cons,U.tot];omega
     exact this l0) (by omega)
    rw[←HN.out] at hl0
    go_wp2
    go_loopw [5] (fun v5 wx=>v5=.slice ao n cap∧wx=wr) (fun _ _=>0)
    case atStart=>exact ⟨rfl,rfl⟩
    case round=>
     obtain ⟨rfl,rfl⟩:=hrel
     have hT2:=(htx.below hb).mono (Nat.le_of_lt hs)
     go_wp2_with fail
     refine (foldFlow_is F _ l0 _ hT2 (by omega) HFe.out).mono ?_
     rintro e W1 ⟨rfl,b1⟩
     have hI1:=hI.below b1
     have hs1:B<W1.heap.size:=Nat.lt_of_lt_of_le hs b1.size
     have hb1:Below B w W1:=hb.trans (b1.mono (Nat.le_of_lt hs))
     go_wp2_with fail
     refine (WriteString_k B B [] F W1 hI1 (by simp;omega) (by omega)).mono ?_
     rintro e W2 ⟨rfl,hI2,b2,k2⟩
     go_wp2
     go_roundw
     case rel=>exact ⟨k+1,[]++F,by go_num,by omega,hI2,hb1.trans b2,by have:=b2.size;omega,by rw[←HT.out];simp;omega,fun h=>by omega,by rw[←HT.out];exact fun _=>HF.out⟩
     case measure=>simp[intOf];omega
   ·have hk1:0<(k:Int):=by omega
    have HE:=H.out (by omega)
    rw[HD.out] at HE
    have HE2:Hid (acc++(jGrp l0++jRest t0)=out):=HE
    have HK:=Lib.hid hk0
    clear hk0 hz H HD HE hLp
    go_wp2
    go_loopw [5] (fun v5 wx=>∃ (l:List (List UInt8)) (ao:Option Addr) (n cap:Nat) (acc:List UInt8),v5=.slice ao n cap∧n=l.length∧n≤cap∧cap≤9223372036854775807∧IsTexts B w (.slice ao n cap) l∧IsB B B acc wx∧Below B w wx∧B<wx.heap.size∧acc.length+(U.tot l+totG t0)≤1000000∧Hid (acc++(jGrp l++jRest t0)=out)) (fun v5 _=>lenV v5)
    case atStart=>exact ⟨l0,ao,l0.length,cap,acc,rfl,rfl,c2,by omega,htx,hI,hb,hs,ha,HE2⟩
    case round=>
     obtain ⟨l,ao2,n2,cap2,acc2,rfl,hn2,hnc,hcm,hx,hI2,hb2,hs2,ha2,H2⟩:=hrel
     have hT2:=(hx.below hb2).mono (Nat.le_of_lt hs2)
     obtain ⟨F,hF⟩:∃ F,U.flowT l=F:=⟨_,rfl⟩
     have hfl:F.length≤U.tot l:=by rw[←hF];exact flowT_len l
     have HFe:=Lib.hid hF
     clear hF
     cases l with
     | nil=>
      have HF:Hid ((acc2++F)++jRest t0=out):=by
       show _=_
       rw[←H2.out,List.append_assoc,←HFe.out]
       rfl
      obtain rfl:n2=0:=hn2
      go_wp2_with fail
      refine (foldFlow_is F _ ([]) _ hT2 (by omega) HFe.out).mono ?_
      rintro e W1 ⟨rfl,b1⟩
      have hI3:=hI2.below b1
      have hs3:B<W1.heap.size:=Nat.lt_of_lt_of_le hs2 b1.size
      have hb3:Below B w W1:=hb2.trans (b1.mono (Nat.le_of_lt hs2))
      go_wp2_with fail
      refine (WriteString_k B B acc2 F W1 hI3 (by omega) (by omega)).mono ?_
      rintro e W2 ⟨rfl,hI4,b2,k2⟩
      go_wp2
      go_roundw
      case rel=>exact ⟨k+1,acc2++F,by go_num,by omega,hI4,hb3.trans b2,by have:=b2.size;omega,by rw[←HT.out,List.length_append];omega,fun h=>by omega,by rw[←HT.out];exact fun _=>HF.out⟩
      case measure=>simp[intOf];omega
     | cons r t=>
      obtain ⟨b1,o1,rfl,hlt1,hc1⟩:=IsTexts.at hx hn2.symm (by rw[hn2];exact Nat.succ_pos _)
      have g2:=hc1 0 (by rw[hn2];exact Nat.succ_pos _)
      rw[←hb2.cell (p:=⟨b1,o1+0,none⟩) hlt1,Nat.add_zero] at g2
      replace g2:_=some (Value.string ⟨r.toArray⟩):=g2
      obtain ⟨m,hm⟩:∃ m,m=t.length:=⟨_,rfl⟩
      have hn3:n2=m+1:=by rw[hn2,hm];rfl
      subst hn3
      have HM:=Lib.hid hm
      have ha3:=ha2
      simp only[U.tot] at ha3
      have hml:m≤1000000:=by
       have:∀ l:List (List UInt8),l.length≤U.tot l:=by
        intro l
        induction l with
        | nil=>exact Nat.zero_le _
        | cons r t ih=>simp only[List.length_cons,U.tot];omega
       have:=this t
       omega
      clear hc1 hn2 hm
      by_cases hbk:r=[]∧t≠[]
      ·obtain ⟨rfl,htn⟩:=hbk
       have hmp:0<m:=by rw[HM.out];exact List.length_pos_iff.2 htn
       have HF:Hid ((acc2++[10])++(jGrp t++jRest t0)=out):=by
        show _=_
        rw[←H2.out,jGrp_blank htn]
        simp
       have hrt:=run_tail b1 o1 (m+1) cap2 (by omega) (by omega)
       have hx2:=hx.tail
       rw[Nat.add_sub_cancel] at hrt hx2
       clear htn H2 hT2 hx hfl
       go_wp2_with fail
       refine (WriteByte_k B B acc2 10 _ rfl _ hI2 (by omega) (by omega)).mono ?_
       rintro e W1 ⟨rfl,hI3,b1',k1⟩
       go_wp2
       go_roundw
       case rel=>exact ⟨t,_,m,cap2-1,acc2++[10],rfl,HM.out,by omega,by omega,hx2,hI3,hb2.trans b1',by have:=b1'.size;omega,by rw[List.length_append];simp at ha3 ⊢;omega,HF⟩
       case measure=>simp[lenV]
      ·have HF:Hid ((acc2++F)++jRest t0=out):=by
        show _=_
        rw[←H2.out,jGrp_row hbk,List.append_assoc,HFe.out]
       by_cases hm0:m=0
       ·subst hm0
        clear hbk H2
        go_wp2_with fail
        refine (foldFlow_is F _ (r :: t) _ hT2 (by omega) HFe.out).mono ?_
        rintro e W1 ⟨rfl,b1⟩
        have hI3:=hI2.below b1
        have hs3:B<W1.heap.size:=Nat.lt_of_lt_of_le hs2 b1.size
        have hb3:Below B w W1:=hb2.trans (b1.mono (Nat.le_of_lt hs2))
        go_wp2_with fail
        refine (WriteString_k B B acc2 F W1 hI3 (by omega) (by omega)).mono ?_
        rintro e W2 ⟨rfl,hI4,b2,k2⟩
        go_wp2
        go_roundw
        case rel=>exact ⟨k+1,acc2++F,by go_num,by omega,hI4,hb3.trans b2,by have:=b2.size;omega,by rw[←HT.out,List.length_append];omega,fun h=>by omega,by rw[←HT.out];exact fun _=>HF.out⟩
        case measure=>simp[intOf];omega
       ·have hr0:¬ r=[]:=fun e=>hbk ⟨e,fun e2=>hm0 (by rw[HM.out,e2];rfl)⟩
        have hmp:0<m:=by omega
        have hre:r.isEmpty=false:=by cases r with
         | nil=>exact absurd rfl hr0
         | cons _ _=>rfl
        clear hbk H2 hm0
        go_wp2_with fail
        refine (foldFlow_is F _ (r :: t) _ hT2 (by omega) HFe.out).mono ?_
        rintro e W1 ⟨rfl,b1⟩
        have hI3:=hI2.below b1
        have hs3:B<W1.heap.size:=Nat.lt_of_lt_of_le hs2 b1.size
        have hb3:Below B w W1:=hb2.trans (b1.mono (Nat.le_of_lt hs2))
        go_wp2_with fail
        refine (WriteString_k B B acc2 F W1 hI3 (by omega) (by omega)).mono ?_
        rintro e W2 ⟨rfl,hI4,b2,k2⟩
        go_wp2
        go_roundw
        case rel=>exact ⟨k+1,acc2++F,by go_num,by omega,hI4,hb3.trans b2,by have:=b2.size;omega,by rw[←HT.out,List.length_append];omega,fun h=>by omega,by rw[←HT.out];exact fun _=>HF.out⟩
        case measure=>simp[intOf];omega
  ·obtain rfl:k=L:=by omega
   have hacc:acc=out:=by
    have h2:=H.out hLp
    rw[List.drop_eq_nil_of_le (by rw[←HL.out];exact Nat.le_refl _)] at h2
    simpa [jRest] using h2
   have HA:=Lib.hid hacc
   clear H hacc hz
   go_wp2_with fail
   refine (String_k B B acc _ hI (by omega)).mono ?_
   rintro e W1 ⟨rfl,b1⟩
   go_wp2
   go_ret
   exact ⟨by rw[←HA.out];rfl,by rw[←HBB.out];exact hb.trans b1⟩
end Go.Proofs.YtncngeamdechmaaGreatDoor
namespace Go.Proofs.YtncngeamdechmaaGreatDoor
open Go.RowKit Go.Shelf
def bld_ren168:Ren:=⟨fun n=>match n with|168=>95|240=>107|242=>109|276=>117|278=>120|n=>n,fun n=>match n with|0=>0|3=>3|4=>4|5=>5|9=>9|20=>20|21=>21|37=>110|46=>47|51=>126|70=>112|72=>114|75=>117|80=>115|164=>137|n=>n,fun n=>n⟩
theorem bld_lays168:Go.Proofs.Lays.n168 Tryz.prog bld_ren168:=
 {mixed:=by kernel_rfl
  f168:=Tryz.func95.trans (congrArg some (by kernel_rfl))
  f240:=Tryz.func107.trans (congrArg some (by kernel_rfl))
  f242:=Tryz.func109.trans (congrArg some (by kernel_rfl))
  f276:=Tryz.func117.trans (congrArg some (by kernel_rfl))
  f278:=Tryz.func120.trans (congrArg some (by kernel_rfl))
  t0:=Tryz.underlying0
  a0:=Tryz.isAgg0
  z0:=Tryz.sizeOf0
  v0:=Tryz.zeroValue0
  t3:=Tryz.underlying3
  a3:=Tryz.isAgg3
  z3:=Tryz.sizeOf3
  v3:=Tryz.zeroValue3
  t4:=Tryz.underlying4
  a4:=Tryz.isAgg4
  z4:=Tryz.sizeOf4
  v4:=Tryz.zeroValue4
  t5:=Tryz.underlying5
  a5:=Tryz.isAgg5
  z5:=Tryz.sizeOf5
  v5:=Tryz.zeroValue5
  t9:=Tryz.underlying9
  a9:=Tryz.isAgg9
  z9:=Tryz.sizeOf9
  v9:=Tryz.zeroValue9
  t20:=Tryz.underlying20
  a20:=Tryz.isAgg20
  z20:=Tryz.sizeOf20
  v20:=Tryz.zeroValue20
  t21:=Tryz.underlying21
  a21:=Tryz.isAgg21
  z21:=Tryz.sizeOf21
  v21:=Tryz.zeroValue21
  t37:=Tryz.underlying110
  a37:=Tryz.isAgg110
  z37:=Tryz.sizeOf110
  v37:=Tryz.zeroValue110
  t46:=Tryz.underlying47
  a46:=Tryz.isAgg47
  z46:=Tryz.sizeOf47
  v46:=Tryz.zeroValue47
  t51:=Tryz.underlying126
  a51:=Tryz.isAgg126
  z51:=Tryz.sizeOf126
  v51:=Tryz.zeroValue126
  t70:=Tryz.underlying112
  a70:=Tryz.isAgg112
  z70:=Tryz.sizeOf112
  v70:=Tryz.zeroValue112
  t72:=Tryz.underlying114
  a72:=Tryz.isAgg114
  z72:=Tryz.sizeOf114
  v72:=Tryz.zeroValue114
  t75:=Tryz.underlying117
  a75:=Tryz.isAgg117
  z75:=Tryz.sizeOf117
  v75:=Tryz.zeroValue117
  t164:=Tryz.underlying137
  a164:=Tryz.isAgg137
  z164:=Tryz.sizeOf137
  v164:=Tryz.zeroValue137 }
theorem bld_extra168:Builder.Extra Tryz.prog bld_ren168:=
 {sizeBuilder:=by kernel_rfl
  liesBuilder:=by kernel_rfl
  t5:=Tryz.underlying5
  a5:=Tryz.isAgg5
  z5:=Tryz.sizeOf5
  v5:=Tryz.zeroValue5
  infoByte:=by kernel_rfl
  cellsByte:=by kernel_rfl
  sizeByte:=by kernel_rfl
  neB5:=by decide }
theorem WriteRune_k (B b:Nat) (l:List UInt8) (c:Nat) (hc:c≤1114111) (w:World) (h:IsB B b l w) (hlen:l.length+4≤140737488355328) (hBw:B≤w.heap.size) :
  Calls Tryz.prog 95 #[.pointer (some ⟨b,0,none⟩),.int .i32 (c:Int)] w fun e w'=>∃ n,e=.returned (.tuple #[.int .i64 n,.nilIface])∧IsB B b (l++Lib.encodeRune (c:Int)) w'∧Below B w w'∧Lib.OthersKept 5 (some b) w w':=by
 refine (Any.Builder_WriteRune_k bld_lays168 bld_extra168 B b (Lib.byteCells l) (c:Int) (by omega) (by omega) w h (by rw[Lib.byteCells_length];exact hlen) hBw).mono ?_
 rintro e w' ⟨rfl,h1,h2,h3⟩
 refine ⟨_,rfl,?_,h2,h3⟩
 unfold IsB
 rw[Lib.byteCells_append,Lib.byteCells_encodeRune]
 exact .inr h1
end Go.Proofs.YtncngeamdechmaaGreatDoor
