/- Parts of the proof, put together from smaller texts (blanks that Lean does not want are struck). Conditions: those that each theorem writes out. -/
import Derived.Test.YthcmkpiajkbpnaaGreatDoorZ15
import Derived.Test.YthcmkpiajkbpnaaGreatDoorZ39
namespace Go.Proofs.YthcmkpiajkbpnaaGreatDoor
open Go.RowKit
theorem GZ.inv {s:ByteArray} {w0:Nat} {R':List (List UInt8)} {L' h' E p L h b i q:Nat} {R:List (List UInt8)} (H:GZ s w0 R' L' h' E p R L h) (hp:p<s.size) (hb:RowE s p b) (hi:InN s p b i) (hq:FirN s p b q) :
  (p+i≠b∧(i<w0∨kindN s p b q=3∨kindN s p b q=4)∧R'=R∧E=p) ∨
  ((p+i=b∨(p+i≠b∧w0≤i∧kindN s p b q≠3∧kindN s p b q≠4))∧GZ s w0 R' L' h' E (b+1) (R++[rowT s p b w0]) (if w0<b-p then R.length+1 else L) (if w0<b-p then b else h)):=by
 cases H with
 | over h1=>omega
 | stop _ k1 k2 k3 k4 k5 k6 k7 k8 k9=>
  obtain rfl:=hb.uniq k1
  obtain rfl:=hi.uniq k2
  obtain rfl:=hq.uniq k3
  exact .inl ⟨k4,k5,k6,k9⟩
 | row _ k1 k2 k3 k4 k5=>
  obtain rfl:=hb.uniq k1
  obtain rfl:=hi.uniq k2
  obtain rfl:=hq.uniq k3
  exact .inr ⟨k4,k5⟩
theorem GZ.end {s:ByteArray} {w0:Nat} {R':List (List UInt8)} {L' h' E p L h:Nat} {R:List (List UInt8)} (H:GZ s w0 R' L' h' E p R L h) (hp:s.size≤p):R'=R∧E=s.size:=by
 cases H with
 | over _ k1 _ _ k2=>exact ⟨k1,k2⟩
 | stop h1=>omega
 | row h1=>omega
theorem rowT_slice (s:ByteArray) (p b w0 m:Nat) (_hp:p≤b) (hm:min (p+w0) b=m):s.extract m b=⟨(rowT s p b w0).toArray⟩:=by
 rw[piece_ext]
 unfold rowT
 split
 ·rw[show m=p+w0 by omega]
 ·rw[show m=b by omega]
  unfold pieceL
  rw[Nat.sub_self,List.take_zero]
set_option maxRecDepth 100000 in
set_option maxHeartbeats 3200000 in
theorem gather_is (w0:Nat) (R':List (List UInt8)) (L' h' E:Nat) (s:ByteArray) (a:Nat) (w:World) (hs:s.size≤100000) (ha:a≤s.size) (hw0:w0≤s.size+10) (hB:a<s.size→RowB s a a) (hG:GZ s w0 R' L' h' E a [] 0 a) :
  Calls Tryz.prog 94 #[.string s,.int .i64 (a:Int),.int .i64 (w0:Int)] w fun e w'=>∃ v,e=.returned (.tuple #[v,.int .i64 (E:Int)])∧OutT w.heap.size w' v R'∧Below w.heap.size w w':=by
 have hs2:s.size≤1099511627776:=by omega
 have HG:=Lib.hid hG
 have HB:=Lib.hid hB
 clear hG hB
 go_enter Tryz.func94,Tryz.ntmps94
 go_wp2
 go_loopg [6,7] (s.size+1) (fun g v6 v7 wr=>∃ (p k:Nat) (R:List (List UInt8)) (L h:Nat),v7=.int .i64 (k:Int)∧k=min p s.size∧OutT w.heap.size wr v6 R∧Below w.heap.size w wr∧s.size+1≤p+g∧R.length+a≤p∧p≤s.size+1∧Hid (p<s.size→RowB s p p)∧Hid (GZ s w0 R' L' h' E p R L h))
 case atStart=>exact ⟨a,a,[],0,a,rfl,by omega,OutT.nil _ _,Below.refl _ _,by omega,by simp,by omega,HB.out,HG.out⟩
 case round=>
  obtain ⟨p,k,R,L,h,rfl,hk,ho,hb,hpg,hRl,hps,HBp,HZ⟩:=hrel
  by_cases hlt:p<s.size
  ·obtain rfl:k=p:=by omega
   have hBp:=HBp.out hlt
   obtain ⟨b,hE⟩:=RowE.ex s k (by omega)
   have hE1:=hE.1
   have hE2:=hE.2.1
   obtain ⟨i,hI⟩:=InN.ex s k b hE1
   obtain ⟨q,hF⟩:=FirN.ex s k b hE1
   have hi1:=hI.1
   have hck:=clampN_self k s.size (by omega)
   have CR:=fun W=>Row_is k b s (k:Int) W hs2 (by rw[hck];exact hBp) (by rw[hck];exact hE)
   have CI:=fun W=>rowsIn_is k b i s (k:Int) W hs2 (by rw[hck];exact hBp) (by rw[hck];exact hE) hI
   obtain ⟨m,hm⟩:∃ m,decide (kindN s k b q=3∨kindN s k b q=4)=m:=⟨_,rfl⟩
   have CM:=fun W=>blocMarked_is m k b q s (k:Int) W hs2 (by rw[hck];exact hBp) (by rw[hck];exact hE) hF hm
   have hkb:k+i=b→kindN s k b q=1:=fun e=>(kind_blank hF).2 (by
    rcases hF.2.2.2 with g|g
    ·exact g
    ·have h1:=hF.1
     have h2:=hF.2.1
     by_cases hqb:q=b
     ·exact hqb
     ·exfalso
      have:=hI.2.1 (q-k) (by omega)
      rw[show k+(q-k)=q by omega] at this
      rw[this] at g
      exact absurd g (by decide))
   have hinv:=HZ.out.inv hlt hE hI hF
   have hin:(i<w0∧k+i≠b∧R'=R∧E=k)∨(i<w0∧k+i=b∧m=false∧GZ s w0 R' L' h' E (b+1) (R++[rowT s k b w0]) (if w0<b-k then R.length+1 else L) (if w0<b-k then b else h))∨(w0≤i∧m=true∧R'=R∧E=k)∨(w0≤i∧m=false∧GZ s w0 R' L' h' E (b+1) (R++[rowT s k b w0]) (if w0<b-k then R.length+1 else L) (if w0<b-k then b else h)):=by
    rcases hinv with ⟨g1,g2,g3,g4⟩|⟨g1,g2⟩
    ·by_cases hw:i<w0
     ·exact .inl ⟨hw,g1,g3,g4⟩
     ·exact .inr (.inr (.inl ⟨by omega,by rw[←hm];exact decide_eq_true (g2.resolve_left hw),g3,g4⟩))
    ·have hmf:m=false:=by
      rw[←hm]
      refine decide_eq_false fun hc=>?_
      rcases g1 with g1|g1
      ·have:=hkb g1
       omega
      ·rcases hc with hc|hc
       ·exact g1.2.2.1 hc
       ·exact g1.2.2.2 hc
     by_cases hw:i<w0
     ·rcases g1 with g1|g1
      ·exact .inr (.inl ⟨hw,g1,hmf,g2⟩)
      ·omega
     ·exact .inr (.inr (.inr ⟨by omega,hmf,g2⟩))
   have HIN:=Lib.hid hin
   have HNB:Hid (b+1<s.size→RowB s (b+1) (b+1)):=Lib.hid fun _=>RowB.next hE (by omega)
   obtain ⟨mm,hmm⟩:∃ mm,min (k+w0) b=mm:=⟨_,rfl⟩
   have hmi:min ((k:Int)+(w0:Int)) (b:Int)=(mm:Int):=by omega
   have hsl:=rowT_slice s k b w0 mm hE1 hmm
   obtain ⟨T,hT⟩:∃ T,rowT s k b w0=T:=⟨_,rfl⟩
   rw[hT] at hsl
   have hmm2:mm≤b:=by omega
   obtain ⟨k2,hk2⟩:∃ k2,min (b+1) s.size=k2:=⟨_,rfl⟩
   have hki:min ((b:Int)+1) (s.size:Int)=(k2:Int):=by omega
   have HK2:=Lib.hid hk2
   have HTT:=Lib.hid hT
   have hR2:R.length≤1000000000:=by omega
   clear hinv hin hm hkb hI hF hE hBp hck hk HZ HBp hmm hT hk2
   rcases HIN.out with ⟨g1,g2,g3,g4⟩|⟨g1,g2,g3,_⟩|⟨g1,g2,g3,g4⟩|⟨g1,g2,_⟩
   ·have d1:decide (i<w0)=true:=decide_eq_true g1
    have d1i:decide ((i:Int)<(w0:Int))=true:=decide_eq_true (by omega)
    have d2i:decide ((i:Int)<(b:Int)-(k:Int))=true:=decide_eq_true (by omega)
    subst g3 g4
    clear HIN
    go_wp2_with fail
    refine (CR _).mono ?_
    rintro e w1 ⟨rfl,rfl⟩
    go_wp2_with fail
    refine (CI _).mono ?_
    rintro e w1 ⟨rfl,rfl⟩
    go_wp2
    refine bodyPost_ret (results_tmp2 rfl _ _ _) rfl ?_
    exact ⟨_,rfl,ho,hb⟩
   ·have d1:decide (i<w0)=true:=decide_eq_true g1
    have d1i:decide ((i:Int)<(w0:Int))=true:=decide_eq_true (by omega)
    have d2i:decide ((i:Int)<(b:Int)-(k:Int))=false:=decide_eq_false (by omega)
    subst g3
    have HGN:Hid (GZ s w0 R' L' h' E (b+1) (R++[T]) (if w0<b-k then R.length+1 else L) (if w0<b-k then b else h)):=by
     rcases HIN.out with x|x|x|x
     ·omega
     ·rw[←HTT.out];exact x.2.2.2
     ·omega
     ·omega
    clear HIN
    go_wp2_with fail
    refine (CR _).mono ?_
    rintro e w1 ⟨rfl,rfl⟩
    go_wp2_with fail
    refine (CI _).mono ?_
    rintro e w1 ⟨rfl,rfl⟩
    go_wp2_with fail
    refine (CM _).mono ?_
    rintro e w1 ⟨rfl,rfl⟩
    go_wp2_with (at_builtin;refine appendOne wr T rfl _ _ rfl w.heap.size w _ _ rfl rfl ho hb hR2 (Nat.le_refl _) ?_;intro v2 w2 o2 b2)
    go_roundg (gk-1)
    case rel=>exact ⟨b+1,k2,R++[T],_,_,rfl,HK2.out.symm,o2,b2,by omega,by rw[List.length_append,List.length_singleton];omega,by omega,HNB.out,HGN.out⟩
    case measure=>omega
   ·have d1:decide (i<w0)=false:=decide_eq_false (by omega)
    have d1i:decide ((i:Int)<(w0:Int))=false:=decide_eq_false (by omega)
    subst g2 g3 g4
    clear HIN
    go_wp2_with fail
    refine (CR _).mono ?_
    rintro e w1 ⟨rfl,rfl⟩
    go_wp2_with fail
    refine (CI _).mono ?_
    rintro e w1 ⟨rfl,rfl⟩
    go_wp2_with fail
    refine (CM _).mono ?_
    rintro e w1 ⟨rfl,rfl⟩
    go_wp2
    refine bodyPost_ret (results_tmp2 rfl _ _ _) rfl ?_
    exact ⟨_,rfl,ho,hb⟩
   ·have d1:decide (i<w0)=false:=decide_eq_false (by omega)
    have d1i:decide ((i:Int)<(w0:Int))=false:=decide_eq_false (by omega)
    subst g2
    have HGN:Hid (GZ s w0 R' L' h' E (b+1) (R++[T]) (if w0<b-k then R.length+1 else L) (if w0<b-k then b else h)):=by
     rcases HIN.out with x|x|x|x
     ·omega
     ·omega
     ·cases x.2.1
     ·rw[←HTT.out];exact x.2.2
    clear HIN
    go_wp2_with fail
    refine (CR _).mono ?_
    rintro e w1 ⟨rfl,rfl⟩
    go_wp2_with fail
    refine (CI _).mono ?_
    rintro e w1 ⟨rfl,rfl⟩
    go_wp2_with fail
    refine (CM _).mono ?_
    rintro e w1 ⟨rfl,rfl⟩
    go_wp2_with (at_builtin;refine appendOne wr T rfl _ _ rfl w.heap.size w _ _ rfl rfl ho hb hR2 (Nat.le_refl _) ?_;intro v2 w2 o2 b2)
    go_roundg (gk-1)
    case rel=>exact ⟨b+1,k2,R++[T],_,_,rfl,HK2.out.symm,o2,b2,by omega,by rw[List.length_append,List.length_singleton];omega,by omega,HNB.out,HGN.out⟩
    case measure=>omega
  ·have hend:=HZ.out.end (by omega)
   obtain ⟨rfl,rfl⟩:=hend
   obtain rfl:k=s.size:=by omega
   clear HZ HBp hk hlt hpg hRl hps
   go_wp2
   refine bodyPost_ret (results_tmp2 rfl _ _ _) rfl ?_
   exact ⟨_,rfl,ho,hb⟩
end Go.Proofs.YthcmkpiajkbpnaaGreatDoor
namespace Go.Proofs.YthcmkpiajkbpnaaGreatDoor
open Go.RowKit
theorem join_text (c:Nat) (fo:Bool) (R:List (List UInt8)) (L m k:Nat) (hk:k=(if c=45 then 0 else if c=43 then m else if L=0 then 0 else min m 1)):U.blockT fo (R.take L)++U.feeds k=bTxt c fo R L m:=by
 rw[hk]
 rfl
set_option maxRecDepth 100000 in
set_option maxHeartbeats 3200000 in
theorem join_is (z:Int) (c:Nat) (fo:Bool) (R:List (List UInt8)) (L m B0:Nat) (v:Value) (w:World) (hv:OutT B0 w v R) (hM:U.tot R≤1000000) (hL:CntN R R.length L) (hc:c=0∨c=43∨c=45) (hm:m≤1000000) (hz:z=(m:Int)+((L-1:Nat):Int)) :
  Calls Tryz.prog 96 #[v,.int .i64 z,.int .u8 (c:Int),.bool fo] w fun e w'=>e=.returned (.string ⟨(bTxt c fo R L m).toArray⟩)∧Below w.heap.size w w':=by
 have hLl:=hL.1
 have hRt:R.length≤U.tot R:=by
  have key:∀ l:List (List UInt8),l.length≤U.tot l:=by
   intro l
   induction l with
   | nil=>exact Nat.le_refl _
   | cons r t ih=>simp only[U.tot,List.length_cons];omega
  exact key R
 obtain ⟨V,hV,hVT⟩:=hv.head L hLl
 have his:=hv.is
 obtain ⟨ao,cap,rfl,c1,d1⟩:=his.slice
 unfold maxLen at d1
 obtain ⟨n,hn⟩:∃ n,n=R.length:=⟨_,rfl⟩
 rw[←hn] at his c1 hV hLl hRt hL ⊢
 have HN:=Lib.hid hn
 have HL:=Lib.hid hL
 have HIS:=Lib.hid his
 have HVT:=Lib.hid hVT
 have hTM:U.tot (R.take L)≤1000000:=Nat.le_trans (tot_take R L) hM
 obtain ⟨out,hout⟩:∃ out,U.blockT fo (R.take L)=out:=⟨_,rfl⟩
 have hol:out.length≤1000000:=by rw[←hout];exact Nat.le_trans (blockT_len fo _) hTM
 have HOUT:=Lib.hid hout
 obtain ⟨x1,hx1⟩:∃ x1:Nat,L-1=x1:=⟨_,rfl⟩
 have hx1i:max ((L:Int)-1) 0=(x1:Int):=by omega
 rw[hx1] at hz
 have hzi:z-(x1:Int)=(m:Int):=by omega
 have hzb:-1000000000≤z∧z≤1000000000:=by omega
 have hx1l:x1≤1000000:=by omega
 obtain ⟨k0,hk0⟩:∃ k0:Nat,k0=(if c=45 then 0 else if c=43 then m else if L=0 then 0 else min m 1):=⟨_,rfl⟩
 have hk0m:k0≤m:=by rw[hk0];split;omega;split;omega;split <;> omega
 have HJT:=Lib.hid (join_text c fo R L m k0 hk0)
 have HK0:=Lib.hid hk0
 rw[hout] at HJT
 have HZ:=Lib.hid hz
 clear hn hL hv his hVT hout hx1 hk0 hz
 go_enter Tryz.func96,Tryz.ntmps96
 go_wp2
 go_loop [9,14] (fun v9 v14=>∃ k L1:Nat,v9=.int .i64 (L1:Int)∧v14=.int .i64 (k:Int)∧k≤n∧L1≤k∧Hid (CntN R k L1)) (fun _ v14=>n-(intOf v14).toNat)
 case atStart=>exact ⟨0,0,rfl,rfl,Nat.zero_le _,Nat.le_refl _,Lib.hid ⟨Nat.le_refl _,fun j _ h=>absurd h (Nat.not_lt_zero _),.inl rfl⟩⟩
 case round=>
  obtain ⟨k,L1,rfl,rfl,hkn,hLk,HC⟩:=hrel
  by_cases hk2:k<n
  ·obtain ⟨b1,o1,rfl,hlt1,hc1⟩:=IsTexts.at HIS.out HN.out.symm (by omega)
   have g1:=hc1 k hk2
   have hst:=HC.out.step
   obtain ⟨r,hr⟩:∃ r,r=R.getD k []:=⟨_,rfl⟩
   rw[←hr] at g1 hst
   by_cases hr0:r=[]
   ·rw[if_pos hr0] at hst
    rw[hr0] at g1
    have HS:=Lib.hid hst
    clear hc1 hr hr0 hst HC
    go_wp2
    go_round
    case rel=>exact ⟨k+1,L1,rfl,by go_num,by omega,by omega,HS.out⟩
    case measure=>simp[intOf];omega
   ·rw[if_neg hr0] at hst
    obtain ⟨T,hT⟩:∃ T:ByteArray,(⟨r.toArray⟩:ByteArray)=T:=⟨_,rfl⟩
    have hTe:T.toList.isEmpty=false:=by
     rw[Lib.toList_data,←hT,mkl_data]
     cases r with
     | nil=>exact absurd rfl hr0
     | cons _ _=>rfl
    rw[hT] at g1
    have HS:=Lib.hid hst
    clear hc1 hr hr0 hst HC hT
    go_wp2
    go_round
    case rel=>exact ⟨k+1,k+1,by go_num,by go_num,by omega,by omega,HS.out⟩
    case measure=>simp[intOf];omega
  ·obtain rfl:k=n:=by omega
   have hCL:=HC.out
   obtain rfl:L1=L:=hCL.uniq HL.out
   clear hCL HC
   have i0:=IsB.fresh w
   have hb0:Below w.heap.size w (w.alloc (.cells #[.pointer none,.slice none 0 0] 157)):=(Below.refl _ _).alloc (Nat.le_refl _) _
   have hbs:w.heap.size≤(w.alloc (.cells #[.pointer none,.slice none 0 0] 157)).heap.size:=by simp
   rcases hc with rfl|rfl|rfl
   ·by_cases hL0:L1=0
    ·have hLb:((L1:Int)==0)=true:=by simp;omega
     obtain rfl:k0=0:=by rw[HK0.out,hL0];rfl
     clear hL0
     go_wp2_with fail
     refine (foldBlockQ_is fo out V (R.take L1) _ (by exact (HVT.out.below hb0).mono hbs) hTM HOUT.out).mono ?_
     rintro e w1 ⟨rfl,hb1⟩
     have i1:=i0.below hb1
     have hb1':=hb0.trans (hb1.mono hbs)
     have hs1:=hb1'.size
     have hs1':=hb1.size
     go_wp2_with fail
     refine (WriteString_k w.heap.size w.heap.size [] out w1 i1 (by simp;omega) (by omega)).mono ?_
     rintro e w2 ⟨rfl,i2,b2,_⟩
     have hb2:=hb1'.trans b2
     clear i1 hb1 b2
     go_wp2_with fail
     go_loopw [53] (fun v53 wr=>∃ j:Nat,v53=.int .i64 (j:Int)∧j≤0∧IsB w.heap.size w.heap.size (([]++out)++U.feeds j) wr∧Below w.heap.size w wr) (fun v53 _=>0-(intOf v53).toNat)
     case atStart=>exact ⟨0,rfl,Nat.zero_le _,by rw[U.feeds_zero,List.append_nil];exact i2,hb2⟩
     case round=>
      obtain ⟨j,rfl,hj,hI,hb⟩:=hrel
      have hsz:=hb.size
      by_cases hj2:j<0
      ·have hjd:decide ((j:Int)<(0:Int))=true:=decide_eq_true (by omega)
       go_wp2_with fail
       refine (WriteByte_k w.heap.size w.heap.size _ 10 _ rfl wr hI (by simp[U.feeds_length];omega) (by omega)).mono ?_
       rintro e w3 ⟨rfl,i3,b3,_⟩
       go_wp2
       go_roundw
       case rel=>exact ⟨j+1,by go_num,by omega,by rw[U.feeds_succ,←List.append_assoc];exact i3,hb.trans b3⟩
       case measure=>simp[intOf];omega
      ·obtain rfl:j=0:=by omega
       go_wp2_with fail
       refine (String_k w.heap.size w.heap.size _ wr hI (by omega)).mono ?_
       rintro e w3 ⟨rfl,b3⟩
       go_wp2
       go_ret
       exact ⟨by rw[←HJT.out];rfl,hb.trans b3⟩
    ·have hLb:((L1:Int)==0)=false:=by simp;omega
     have hkk:k0=min m 1:=by
      have:=HK0.out
      rw[if_neg (by decide),if_neg (by decide),if_neg hL0] at this
      exact this
     have hkm:min (m:Int) 1=(k0:Int):=by omega
     clear hkk hL0
     go_wp2_with fail
     refine (foldBlockQ_is fo out V (R.take L1) _ (by exact (HVT.out.below hb0).mono hbs) hTM HOUT.out).mono ?_
     rintro e w1 ⟨rfl,hb1⟩
     have i1:=i0.below hb1
     have hb1':=hb0.trans (hb1.mono hbs)
     have hs1:=hb1'.size
     have hs1':=hb1.size
     go_wp2_with fail
     refine (WriteString_k w.heap.size w.heap.size [] out w1 i1 (by simp;omega) (by omega)).mono ?_
     rintro e w2 ⟨rfl,i2,b2,_⟩
     have hb2:=hb1'.trans b2
     clear i1 hb1 b2
     go_wp2_with fail
     go_loopw [53] (fun v53 wr=>∃ j:Nat,v53=.int .i64 (j:Int)∧j≤k0∧IsB w.heap.size w.heap.size (([]++out)++U.feeds j) wr∧Below w.heap.size w wr) (fun v53 _=>k0-(intOf v53).toNat)
     case atStart=>exact ⟨0,rfl,Nat.zero_le _,by rw[U.feeds_zero,List.append_nil];exact i2,hb2⟩
     case round=>
      obtain ⟨j,rfl,hj,hI,hb⟩:=hrel
      have hsz:=hb.size
      by_cases hj2:j<k0
      ·have hjd:decide ((j:Int)<(k0:Int))=true:=decide_eq_true (by omega)
       go_wp2_with fail
       refine (WriteByte_k w.heap.size w.heap.size _ 10 _ rfl wr hI (by simp[U.feeds_length];omega) (by omega)).mono ?_
       rintro e w3 ⟨rfl,i3,b3,_⟩
       go_wp2
       go_roundw
       case rel=>exact ⟨j+1,by go_num,by omega,by rw[U.feeds_succ,←List.append_assoc];exact i3,hb.trans b3⟩
       case measure=>simp[intOf];omega
      ·obtain rfl:j=k0:=by omega
       go_wp2_with fail
       refine (String_k w.heap.size w.heap.size _ wr hI (by omega)).mono ?_
       rintro e w3 ⟨rfl,b3⟩
       go_wp2
       go_ret
       exact ⟨by rw[←HJT.out];rfl,hb.trans b3⟩
   ·obtain rfl:k0=m:=by
     have:=HK0.out
     rw[if_neg (by decide),if_pos rfl] at this
     exact this
    go_wp2_with fail
    refine (foldBlockQ_is fo out V (R.take L1) _ (by exact (HVT.out.below hb0).mono hbs) hTM HOUT.out).mono ?_
    rintro e w1 ⟨rfl,hb1⟩
    have i1:=i0.below hb1
    have hb1':=hb0.trans (hb1.mono hbs)
    have hs1:=hb1'.size
    have hs1':=hb1.size
    go_wp2_with fail
    refine (WriteString_k w.heap.size w.heap.size [] out w1 i1 (by simp;omega) (by omega)).mono ?_
    rintro e w2 ⟨rfl,i2,b2,_⟩
    have hb2:=hb1'.trans b2
    clear i1 hb1 b2
    go_wp2_with fail
    go_loopw [53] (fun v53 wr=>∃ j:Nat,v53=.int .i64 (j:Int)∧j≤k0∧IsB w.heap.size w.heap.size (([]++out)++U.feeds j) wr∧Below w.heap.size w wr) (fun v53 _=>k0-(intOf v53).toNat)
    case atStart=>exact ⟨0,rfl,Nat.zero_le _,by rw[U.feeds_zero,List.append_nil];exact i2,hb2⟩
    case round=>
     obtain ⟨j,rfl,hj,hI,hb⟩:=hrel
     have hsz:=hb.size
     by_cases hj2:j<k0
     ·have hjd:decide ((j:Int)<(k0:Int))=true:=decide_eq_true (by omega)
      go_wp2_with fail
      refine (WriteByte_k w.heap.size w.heap.size _ 10 _ rfl wr hI (by simp[U.feeds_length];omega) (by omega)).mono ?_
      rintro e w3 ⟨rfl,i3,b3,_⟩
      go_wp2
      go_roundw
      case rel=>exact ⟨j+1,by go_num,by omega,by rw[U.feeds_succ,←List.append_assoc];exact i3,hb.trans b3⟩
      case measure=>simp[intOf];omega
     ·obtain rfl:j=k0:=by omega
      go_wp2_with fail
      refine (String_k w.heap.size w.heap.size _ wr hI (by omega)).mono ?_
      rintro e w3 ⟨rfl,b3⟩
      go_wp2
      go_ret
      exact ⟨by rw[←HJT.out];rfl,hb.trans b3⟩
   ·obtain rfl:k0=0:=by
     have:=HK0.out
     rw[if_pos rfl] at this
     exact this
    go_wp2_with fail
    refine (foldBlockQ_is fo out V (R.take L1) _ (by exact (HVT.out.below hb0).mono hbs) hTM HOUT.out).mono ?_
    rintro e w1 ⟨rfl,hb1⟩
    have i1:=i0.below hb1
    have hb1':=hb0.trans (hb1.mono hbs)
    have hs1:=hb1'.size
    have hs1':=hb1.size
    go_wp2_with fail
    refine (WriteString_k w.heap.size w.heap.size [] out w1 i1 (by simp;omega) (by omega)).mono ?_
    rintro e w2 ⟨rfl,i2,b2,_⟩
    have hb2:=hb1'.trans b2
    clear i1 hb1 b2
    go_wp2_with fail
    go_loopw [53] (fun v53 wr=>∃ j:Nat,v53=.int .i64 (j:Int)∧j≤0∧IsB w.heap.size w.heap.size (([]++out)++U.feeds j) wr∧Below w.heap.size w wr) (fun v53 _=>0-(intOf v53).toNat)
    case atStart=>exact ⟨0,rfl,Nat.zero_le _,by rw[U.feeds_zero,List.append_nil];exact i2,hb2⟩
    case round=>
     obtain ⟨j,rfl,hj,hI,hb⟩:=hrel
     have hsz:=hb.size
     by_cases hj2:j<0
     ·have hjd:decide ((j:Int)<(0:Int))=true:=decide_eq_true (by omega)
      go_wp2_with fail
      refine (WriteByte_k w.heap.size w.heap.size _ 10 _ rfl wr hI (by simp[U.feeds_length];omega) (by omega)).mono ?_
      rintro e w3 ⟨rfl,i3,b3,_⟩
      go_wp2
      go_roundw
      case rel=>exact ⟨j+1,by go_num,by omega,by rw[U.feeds_succ,←List.append_assoc];exact i3,hb.trans b3⟩
      case measure=>simp[intOf];omega
     ·obtain rfl:j=0:=by omega
      go_wp2_with fail
      refine (String_k w.heap.size w.heap.size _ wr hI (by omega)).mono ?_
      rintro e w3 ⟨rfl,b3⟩
      go_wp2
      go_ret
      exact ⟨by rw[←HJT.out];rfl,hb.trans b3⟩
end Go.Proofs.YthcmkpiajkbpnaaGreatDoor
namespace Go.Proofs.YthcmkpiajkbpnaaGreatDoor
open Go.RowKit
def nodeL (k st at':Int) (T:ByteArray) (h:Bool) (note:ByteArray):Array Value:=#[.int .i64 k,.int .i64 st,.int .i64 at',.int .i64 0,.string ⟨#[]⟩,.string ⟨#[]⟩,.string T,.slice none 0 0,.slice none 0 0,.slice none 0 0,.bool h,.string note]
end Go.Proofs.YthcmkpiajkbpnaaGreatDoor
