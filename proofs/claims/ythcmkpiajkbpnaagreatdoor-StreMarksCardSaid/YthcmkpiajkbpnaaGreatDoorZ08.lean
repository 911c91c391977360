/- Parts of the proof, put together from smaller texts (blanks that Lean does not want are struck). Conditions: those that each theorem writes out. -/
import Derived.Test.YthcmkpiajkbpnaaGreatDoorZ00
import Derived.Test.YthcmkpiajkbpnaaGreatDoorZ01
import Derived.Test.YthcmkpiajkbpnaaGreatDoorZ02
import Derived.Test.YthcmkpiajkbpnaaGreatDoorZ04
import Derived.Test.YthcmkpiajkbpnaaGreatDoorZ06
import Derived.Test.YthcmkpiajkbpnaaGreatDoorZ07
namespace Go.Proofs.YthcmkpiajkbpnaaGreatDoor
open Go.RowKit
set_option maxRecDepth 100000 in
theorem dec_split (s:ByteArray) (k:Nat) (h:k<s.size):(byt s k<128∧(Utf8.decode s k).1=byt s k∧(Utf8.decode s k).2=1)∨(128≤byt s k∧128≤(Utf8.decode s k).1∧∀ j,j<(Utf8.decode s k).2→128≤byt s (k+j)):=by
 have hne:=drop_ne h
 have hg:∀ j,((s.data.toList.drop k).getD j 0).toNat=byt s (k+j):=fun j=>by
  rw[byt_list];simp[List.getD]
 rw[←Lib.decodeL_drop,Lib.decodeL_N,hg 0,hg 1,hg 2,hg 3,Nat.add_zero]
 rcases Lib.decodeN_shape (s.data.toList.drop k).length (byt s k) (byt s (k+1)) (byt s (k+2)) (byt s (k+3)) with ⟨c,e⟩|⟨c1,c2,c3,cv,e⟩|⟨c1,c2,c3,c4,cv,cs,e⟩|⟨c1,c2,c3,c4,c5,cv,cw,e⟩|e
 ·exact .inl ⟨by omega,by rw[e],by rw[e]⟩
 ·rw[e]
  refine .inr ⟨by omega,by dsimp only;omega,fun j hj=>?_⟩
  dsimp only at hj
  rcases (show j=0∨j=1 by omega) with rfl|rfl
  ·rw[Nat.add_zero];omega
  ·omega
 ·rw[e]
  refine .inr ⟨by omega,by dsimp only;omega,fun j hj=>?_⟩
  dsimp only at hj
  rcases (show j=0∨j=1∨j=2 by omega) with rfl|rfl|rfl
  ·rw[Nat.add_zero];omega
  ·omega
  ·omega
 ·rw[e]
  refine .inr ⟨by omega,by dsimp only;omega,fun j hj=>?_⟩
  dsimp only at hj
  rcases (show j=0∨j=1∨j=2∨j=3 by omega) with rfl|rfl|rfl|rfl
  ·rw[Nat.add_zero];omega
  ·omega
  ·omega
  ·omega
 ·by_cases hb:byt s k<128
  ·rw[Lib.decodeN_ascii _ _ _ _ _ hb]
   exact .inl ⟨hb,rfl,rfl⟩
  ·rw[e]
   refine .inr ⟨by omega,by dsimp only;omega,fun j hj=>?_⟩
   dsimp only at hj
   obtain rfl:j=0:=by omega
   rw[Nat.add_zero];omega
theorem flow_high {b:Nat} (h:128≤b):U.flow (b:Int)=false:=by
 unfold U.flow;rw[decide_eq_false_iff_not];omega
theorem white_high {b:Nat} (h:128≤b):U.white (b:Int)=false:=by
 unfold U.white;rw[decide_eq_false_iff_not];omega
theorem white_notP {b:Nat} (h:U.white (b:Int)=true):b=32∨b=9:=by
 unfold U.white at h;rw[decide_eq_true_eq] at h;omega
theorem stop_high {s:ByteArray} {fl:Bool} {p:Nat} (h:128≤byt s p):stopB s fl p=false:=by
 unfold stopB
 rw[decide_eq_false (show ¬ byt s p=10 by omega),decide_eq_false (show ¬ byt s p=35 by omega),decide_eq_false (show ¬ byt s p=58 by omega),flow_high h]
 simp
theorem stop_white {s:ByteArray} {fl:Bool} {p:Nat} (h:U.white (byt s p:Int)=true):stopB s fl p=false:=by
 have hb:=white_notP h
 unfold stopB
 rw[decide_eq_false (show ¬ byt s p=10 by omega),decide_eq_false (show ¬ byt s p=35 by omega),decide_eq_false (show ¬ byt s p=58 by omega)]
 have:U.flow (byt s p:Int)=false:=by
  rcases hb with hb|hb
  ·rw[hb];decide
  ·rw[hb];decide
 rw[this]
 simp
inductive NxS (s:ByteArray) (n:Int):Nat→Int→Nat→Int→Prop
 | fin {m:Nat} {B:Int}:s.size≤m→NxS s n m B s.size 0
 | lf {m F:Nat} {B K:Int}:m<s.size→byt s m=10→NxS s n (m+1) (B+1) F K→NxS s n m B F K
 | wh {m F:Nat} {B K:Int}:m<s.size→U.white (byt s m:Int)=true→NxS s n (m+1) B F K→NxS s n m B F K
 | early {m:Nat} {B:Int}:m<s.size→byt s m≠10→U.white (byt s m:Int)=false→B<0→NxS s n m B s.size 0
 | no {m a b p i:Nat} {B:Int}:m<s.size→byt s m≠10→U.white (byt s m:Int)=false→0≤B→RowB s m a→RowE s m b→FirN s a b p→InN s a b i→(kindN s a b p≠5∨(i:Int)≤n)→NxS s n m B s.size 0
 | yes {m a b p i:Nat} {B:Int}:m<s.size→byt s m≠10→U.white (byt s m:Int)=false→0≤B→RowB s m a→RowE s m b→FirN s a b p→InN s a b i→kindN s a b p=5→n<(i:Int)→NxS s n m B m B
theorem NxS.ex (s:ByteArray) (n:Int):∀ (g m:Nat) (B:Int),s.size≤m+g→∃ F K,NxS s n m B F K:=by
 intro g
 induction g with
 | zero=>intro m B h;exact ⟨_,_,.fin (by omega)⟩
 | succ g ih=>
  intro m B h
  by_cases hm:m<s.size
  ·by_cases h10:byt s m=10
   ·obtain ⟨F,K,hh⟩:=ih (m+1) (B+1) (by omega)
    exact ⟨F,K,.lf hm h10 hh⟩
   ·cases hw:U.white (byt s m:Int) with
    | true=>
     obtain ⟨F,K,hh⟩:=ih (m+1) B (by omega)
     exact ⟨F,K,.wh hm hw hh⟩
    | false=>
     by_cases hB:B<0
     ·exact ⟨_,_,.early hm h10 hw hB⟩
     ·obtain ⟨a,ha⟩:=RowB.ex s m
      obtain ⟨b,hb⟩:=RowE.ex s m (by omega)
      have hab:a≤b:=by have:=ha.1;have:=hb.1;omega
      obtain ⟨p,hp⟩:=FirN.ex s a b hab
      obtain ⟨i,hi⟩:=InN.ex s a b hab
      by_cases hk:kindN s a b p≠5∨(i:Int)≤n
      ·exact ⟨_,_,.no hm h10 hw (by omega) ha hb hp hi hk⟩
      ·exact ⟨_,_,.yes hm h10 hw (by omega) ha hb hp hi (by omega) (by omega)⟩
  ·exact ⟨_,_,.fin (by omega)⟩
theorem NxS.le {s:ByteArray} {n:Int} {m F:Nat} {B K:Int} (h:NxS s n m B F K):m≤s.size→F≤s.size:=by
 induction h with
 | fin _=>intro _;exact Nat.le_refl _
 | lf h _ _ ih=>intro _;exact ih (by omega)
 | wh h _ _ ih=>intro _;exact ih (by omega)
 | early _ _ _ _=>intro _;exact Nat.le_refl _
 | no _ _ _ _ _ _ _ _ _=>intro _;exact Nat.le_refl _
 | yes h _ _ _ _ _ _ _ _ _=>intro _;omega
theorem NxS.end {s:ByteArray} {n:Int} {m F:Nat} {B K:Int} (h:NxS s n m B F K) (hm:s.size≤m):F=s.size∧K=0:=by
 cases h with
 | fin _=>exact ⟨rfl,rfl⟩
 | lf h=>omega
 | wh h=>omega
 | early h=>omega
 | no h=>omega
 | yes h=>omega
theorem white10 {b:Nat} (h:U.white (b:Int)=true):b≠10:=by have:=white_notP h;omega
theorem NxS.lf_inv {s:ByteArray} {n:Int} {m F:Nat} {B K:Int} (h:NxS s n m B F K) (hm:m<s.size) (h10:byt s m=10):NxS s n (m+1) (B+1) F K:=by
 cases h with
 | fin h=>omega
 | lf _ _ h=>exact h
 | wh _ h=>exact absurd h10 (white10 h)
 | early _ h=>exact absurd h10 h
 | no _ h=>exact absurd h10 h
 | yes _ h=>exact absurd h10 h
theorem NxS.wh_inv {s:ByteArray} {n:Int} {m F:Nat} {B K:Int} (h:NxS s n m B F K) (hm:m<s.size) (hw:U.white (byt s m:Int)=true):NxS s n (m+1) B F K:=by
 cases h with
 | fin h=>omega
 | lf _ h=>exact absurd h (white10 hw)
 | wh _ _ h=>exact h
 | early _ _ h=>rw[hw] at h;cases h
 | no _ _ h=>rw[hw] at h;cases h
 | yes _ _ h=>rw[hw] at h;cases h
theorem NxS.early_inv {s:ByteArray} {n:Int} {m F:Nat} {B K:Int} (h:NxS s n m B F K) (h10:byt s m≠10) (hw:U.white (byt s m:Int)=false) (hB:B<0):F=s.size∧K=0:=by
 cases h with
 | fin h=>exact ⟨rfl,rfl⟩
 | lf _ h=>exact absurd h h10
 | wh _ h=>rw[hw] at h;cases h
 | early _ _ h=>exact ⟨rfl,rfl⟩
 | no _ _ _ _=>omega
 | yes _ _ _ _=>omega
theorem NxS.in_inv {s:ByteArray} {n:Int} {m F a b p i:Nat} {B K:Int} (h:NxS s n m B F K) (hm:m<s.size) (h10:byt s m≠10) (hw:U.white (byt s m:Int)=false) (hB:0≤B) (ha:RowB s m a) (hb:RowE s m b) (hp:FirN s a b p) (hi:InN s a b i) :
  (kindN s a b p=5∧n<(i:Int)∧F=m∧K=B)∨((kindN s a b p≠5∨(i:Int)≤n)∧F=s.size∧K=0):=by
 cases h with
 | fin h=>omega
 | lf _ h=>exact absurd h h10
 | wh _ h=>rw[hw] at h;cases h
 | early _ _ _ h=>omega
 | no _ _ _ _ ha' hb' hp' hi' hk=>
  obtain rfl:=ha.uniq ha'
  obtain rfl:=hb.uniq hb'
  obtain rfl:=hp.uniq hp'
  obtain rfl:=hi.uniq hi'
  exact .inr ⟨hk,rfl,rfl⟩
 | yes _ _ _ _ ha' hb' hp' hi' hk hn=>
  obtain rfl:=ha.uniq ha'
  obtain rfl:=hb.uniq hb'
  obtain rfl:=hp.uniq hp'
  obtain rfl:=hi.uniq hi'
  exact .inl ⟨hk,hn,rfl,rfl⟩
theorem NxS.over {s:ByteArray} {n:Int} {F:Nat} {B K:Int}:∀ (d m:Nat),NxS s n m B F K→m+d≤s.size→(∀ j,j<m+d→m≤j→U.white (byt s j:Int)=true)→NxS s n (m+d) B F K:=by
 intro d
 induction d with
 | zero=>intro m h _ _;exact h
 | succ d ih=>
  intro m h hd hw
  have:=ih (m+1) (h.wh_inv (by omega) (hw m (by omega) (Nat.le_refl _))) (by omega) (fun j h1 h2=>hw j (by omega) (by omega))
  rwa [show m+1+d=m+(d+1) by omega] at this
theorem NxS.blank {s:ByteArray} {n:Int} {F a k c:Nat} (h:Blk s a k c):∀ {B K:Int},NxS s n a B F K→(c<s.size∧NxS s n c (B+k) F K)∨(s.size≤c∧F=s.size∧K=0):=by
 induction h with
 | over h=>intro B K hh;exact .inr ⟨h,hh.end h⟩
 | text ha _ _ _=>intro B K hh;exact .inl ⟨ha,by simpa using hh⟩
 | more ha hb hp hr ih=>
  rename_i a b k c
  intro B K hh
  have hb1:=hb.1
  have hb2:=hb.2.1
  have h1:=NxS.over (b-a) a hh (by omega) (fun j h1 h2=>hp.2.2.1 j (by omega) h2)
  rw[show a+(b-a)=b by omega] at h1
  rcases hb.2.2.2 with h2|h2
  ·obtain ⟨rfl,rfl⟩:=h1.end (by omega)
   obtain ⟨_,rfl⟩:=hr.end (by omega)
   exact .inr ⟨by omega,rfl,rfl⟩
  ·by_cases h3:b<s.size
   ·have h4:=ih (h1.lf_inv h3 h2)
    rwa [show B+1+(k:Int)=B+((k+1:Nat):Int) by omega] at h4
   ·obtain ⟨rfl,rfl⟩:=h1.end (by omega)
    obtain ⟨_,rfl⟩:=hr.end (by omega)
    exact .inr ⟨by omega,rfl,rfl⟩
theorem StpN.last {s:ByteArray} {fl:Bool} {p:Nat} (h:StpN s fl s.size p):p=s.size:=by
 have:=h.1;have:=h.2.1;omega
theorem PlaiG.step {s:ByteArray} {n:Int} {fl:Bool} {T:List UInt8} {E:Nat} {O:Bool} {C:Int} {g e:Nat} {R:List (List UInt8)} {one:Bool} (H:PlaiG s n fl T E O C (g+1) e R one) (he:e≤s.size) {F:Nat} {K:Int} (hN:NxS s n e (-1) F K) {E1:Nat} (hS:StpN s fl F E1) :
  (E1=F∧T=U.flowT R∧E=e∧O=one∧C=0) ∨
  (F<E1∧e<F∧∃ k:Nat,K=(k:Int)∧e+k<F∧((fl=false∧E1<s.size∧byt s E1=58∧T=[]∧E=E1∧O=false∧C=5) ∨
   (¬ (fl=false∧E1<s.size∧byt s E1=58)∧∃ q,BakN s F E1 q∧F<q∧PlaiG s n fl T E O C g q (R++(U.blanksL k++[pieceL s F q])) false))):=by
 obtain ⟨t,ht⟩:=RowE.ex s e he
 obtain ⟨f,hf⟩:=FirN.ex s e t ht.1
 have ht1:=ht.1
 have ht2:=ht.2.1
 have hf1:=hf.1
 have hf2:=hf.2.1
 replace H:=H t f ht hf
 have hO:=NxS.over (f-e) e hN (by omega) (fun j h1 h2=>hf.2.2.1 j (by omega) h2)
 rw[show e+(f-e)=f by omega] at hO
 have out:F=s.size→E1=F:=fun hF=>by subst hF;exact hS.last
 by_cases c1:f<t∨s.size≤t
 ·rw[if_pos c1] at H
  refine .inl ⟨out ?_,H⟩
  by_cases c2:f<t
  ·exact (hO.early_inv (ht.2.2.1 f c2 hf1) (hf.2.2.2.resolve_left (by omega)) (by omega)).1
  ·exact (hO.end (by omega)).1
 rw[if_neg c1] at H
 obtain rfl:f=t:=by omega
 have hlf:byt s f=10:=ht.2.2.2.resolve_left (by omega)
 obtain ⟨k,a,hk⟩:=Blk.ex s (s.size+1) (f+1) (by omega)
 replace H:=H k a hk
 have hka:=hk.ge
 have hbl:=NxS.blank hk (hO.lf_inv (by omega) hlf)
 by_cases c2:s.size≤a
 ·rw[if_pos c2] at H
  exact .inl ⟨out (hbl.resolve_left (by omega)).2.1,H⟩
 rw[if_neg c2] at H
 have hA:=(hbl.resolve_right (by omega)).2
 rw[show (-1:Int)+1+(k:Int)=(k:Int) by omega] at hA
 have hB:RowB s a a:=hk.begins (RowB.behindLf hlf) (by omega)
 obtain ⟨b,hb⟩:=RowE.ex s a (by omega)
 have hb1:=hb.1
 have hb2:=hb.2.1
 obtain ⟨i,hi⟩:=InN.ex s a b hb.1
 obtain ⟨p,hp⟩:=FirN.ex s a b hb.1
 have hp1:=hp.1
 have hp2:=hp.2.1
 have hpb:p≠b:=hk.stops (by omega) hb hp
 have hpw:U.white (byt s p:Int)=false:=hp.2.2.2.resolve_left hpb
 have hp10:byt s p≠10:=hb.2.2.1 p (by omega) hp1
 replace H:=H b i p hb hi hp
 have hP:=NxS.over (p-a) a hA (by omega) (fun j h1 h2=>hp.2.2.1 j (by omega) h2)
 rw[show a+(p-a)=p by omega] at hP
 have hin:=hP.in_inv (by omega) hp10 hpw (by omega) (hB.within hb hp1 hp2) (hb.within hB hp1 hp2) hp hi
 by_cases c3:kindN s a b p≠5∨(i:Int)≤n
 ·rw[if_pos c3] at H
  exact .inl ⟨out (hin.resolve_left (by omega)).2.1,H⟩
 rw[if_neg c3] at H
 obtain ⟨_,_,rfl,rfl⟩:=hin.resolve_right (by omega)
 obtain ⟨q,hq⟩:=BakN.ex s F E1 hS.1
 replace H:=H q ⟨E1,hS,hq⟩
 have hq1:=hq.1
 have hq2:=hq.2.1
 have hS1:=hS.1
 by_cases c4:q=F
 ·rw[if_pos c4] at H
  refine .inl ⟨?_,H⟩
  refine Decidable.byContradiction fun hn=>?_
  have:=hq.2.2.1 F (by omega) (by omega)
  rw[hpw] at this
  cases this
 rw[if_neg c4] at H
 have hEb:E1≤b:=by
  refine Decidable.byContradiction fun hn=>?_
  have h3:=hS.2.2.1 b (by omega) (by omega)
  have h4:=hb.2.2.2.resolve_left (by have:=hS.2.1;omega)
  unfold stopB at h3
  rw[decide_eq_true h4] at h3
  cases h3
 obtain ⟨c,hc⟩:=FirN.ex s q b (by omega)
 have hc1:=hc.1
 have hc2:=hc.2.1
 replace H:=H c hc
 refine .inr ⟨by omega,by omega,k,rfl,by omega,?_⟩
 -- the first place behind the part that is not White is where the part ends,if a ':' stands at either
 have hcE:E1≤c:=by
  refine Decidable.byContradiction fun hn=>?_
  have h1:=hq.2.2.1 c (by omega) hc1
  rcases hc.2.2.2 with h2|h2
  ·omega
  ·rw[h1] at h2;cases h2
 by_cases c5:fl=false∧c<b∧byt s c=58∧endsB s ((c:Int)+1)=true
 ·rw[if_pos c5] at H
  obtain ⟨h1,h2,h3,h4⟩:=c5
  subst h1
  have:c=E1:=by
   refine Decidable.byContradiction fun hn=>?_
   have h5:=hc.2.2.1 E1 (by omega) (by omega)
   rcases hS.2.2.2 with h6|h6
   ·omega
   ·rw[stop_white h5] at h6;cases h6
  subst this
  obtain ⟨rfl,rfl,rfl,rfl⟩:=H
  exact .inl ⟨rfl,by omega,h3,rfl,rfl,rfl,rfl⟩
 ·rw[if_neg c5] at H
  refine .inr ⟨fun ⟨h1,h2,h3⟩=>c5 ?_,q,hq,by omega,H⟩
  subst h1
  have h6:=hS.2.2.2.resolve_left (by omega)
  have hce:c=E1:=by
   refine Decidable.byContradiction fun hn=>?_
   have h7:=hc.2.2.1 E1 (by omega) (by omega)
   rw[stop_white h7] at h6
   cases h6
  subst hce
  unfold stopB at h6
  rw[h3] at h6
  simp at h6
  refine ⟨rfl,?_,h3,h6⟩
  refine Decidable.byContradiction fun hn=>?_
  obtain rfl:c=b:=by omega
  have h8:=hb.2.2.2.resolve_left (by omega)
  omega
end Go.Proofs.YthcmkpiajkbpnaaGreatDoor
namespace Go.Proofs.YthcmkpiajkbpnaaGreatDoor
open Go.RowKit
def endB (s:ByteArray) (fl:Bool) (k:Nat):Bool:=endsB s (k:Int)||(fl&&U.flow (byt s k:Int))
theorem plaiEnds_is (q:Bool) (s:ByteArray) (k:Nat) (x:Int) (fl:Bool) (w:World) (hs:s.size≤1099511627776) (hx:x=(k:Int)) (h:endB s fl k=q) :
  Calls Tryz.prog 149 #[.string s,.int .i64 x,.bool fl] w fun e w'=>e=.returned (.bool q)∧w=w':=by
 subst hx
 unfold endB at h
 cases he:endsB s (k:Int) with
 | true=>
  rw[he] at h
  obtain rfl:true=q:=by rw[←h];rfl
  have HE:=Lib.hid he
  clear h he
  go_enter Tryz.func149,Tryz.ntmps149
  go_wp2_with fail
  refine (Ends_is true s (k:Int) _ hs HE.out).mono ?_
  rintro e w' ⟨rfl,rfl⟩
  go_wp2
  go_ret
  exact ⟨rfl,rfl⟩
 | false=>
  have hk:k<s.size:=by
   refine Decidable.byContradiction fun hn=>?_
   rw[endsB_out s (k:Int) (.inr (by omega))] at he
   cases he
  have hi:=run_byt s k hk (k:Int) rfl
  rw[he] at h
  replace h:(fl&&U.flow (byt s k:Int))=q:=h
  obtain ⟨y,hy⟩:∃ y,byt s k=y:=⟨_,rfl⟩
  rw[hy] at hi h
  have HE:=Lib.hid he
  clear he hy
  cases fl with
  | false=>
   obtain rfl:false=q:=by rw[←h];rfl
   clear h
   go_enter Tryz.func149,Tryz.ntmps149
   go_wp2_with fail
   refine (Ends_is false s (k:Int) _ hs HE.out).mono ?_
   rintro e w' ⟨rfl,rfl⟩
   go_wp2
   go_ret
   exact ⟨rfl,rfl⟩
  | true=>
   have HF:=Lib.hid (show U.flow (y:Int)=q from h)
   clear h
   go_enter Tryz.func149,Tryz.ntmps149
   go_wp2_with fail
   refine (Ends_is false s (k:Int) _ hs HE.out).mono ?_
   rintro e w' ⟨rfl,rfl⟩
   go_wp2_with fail
   refine (Flow_is q _ _ HF.out).mono ?_
   rintro e w' ⟨rfl,rfl⟩
   go_wp2
   go_ret
   exact ⟨rfl,rfl⟩
theorem stop_58 {s:ByteArray} {fl:Bool} {p:Nat} (h:byt s p=58):stopB s fl p=endB s fl (p+1):=by
 unfold stopB endB
 rw[h]
 simp[show U.flow (58:Int)=false by decide]
theorem stop_35 {s:ByteArray} {fl:Bool} {p:Nat} (h:byt s p=35):stopB s fl p=(decide (0<p)&&U.white (byt s (p-1):Int)):=by
 unfold stopB
 rw[h]
 simp[show U.flow (35:Int)=false by decide]
theorem stop_10 {s:ByteArray} {fl:Bool} {p:Nat} (h:byt s p=10):stopB s fl p=true:=by
 unfold stopB
 rw[h]
 simp
theorem stop_any {s:ByteArray} {fl:Bool} {p:Nat} (h10:byt s p≠10) (h35:byt s p≠35) (h58:byt s p≠58):stopB s fl p=(fl&&U.flow (byt s p:Int)):=by
 unfold stopB
 simp[h10,h35,h58]
set_option maxHeartbeats 800000 in
theorem plaiStops_is (q:Bool) (s:ByteArray) (k r:Nat) (x:Int) (fl:Bool) (w:World) (hs:s.size≤1099511627776) (hk:k<s.size) (hx:x=(k:Int)) (hr:(byt s k<128∧r=byt s k)∨(128≤byt s k∧128≤r)) (h:stopB s fl k=q) :
  Calls Tryz.prog 151 #[.string s,.int .i64 x,.int .i32 (r:Int),.bool fl] w fun e w'=>e=.returned (.bool q)∧w=w':=by
 subst hx
 by_cases h10:r=10
 ·subst h10
  rw[stop_10 (by omega)] at h
  subst h
  clear hr
  go_enter Tryz.func151,Tryz.ntmps151
  go_wp2
  go_ret
  exact ⟨rfl,rfl⟩
 by_cases h35:r=35
 ·subst h35
  rw[stop_35 (by omega)] at h
  clear hr
  by_cases h0:0<k
  ·have hi:=run_byt s (k-1) (by omega) ((k:Int)-1) (by omega)
   rw[decide_eq_true h0,Bool.true_and] at h
   obtain ⟨y,hy⟩:∃ y,byt s (k-1)=y:=⟨_,rfl⟩
   rw[hy] at hi h
   have HW:=Lib.hid h
   clear h hy
   go_enter Tryz.func151,Tryz.ntmps151
   go_wp2_with fail
   refine (White_is q _ _ HW.out).mono ?_
   rintro e w' ⟨rfl,rfl⟩
   go_wp2
   go_ret
   exact ⟨rfl,rfl⟩
  ·rw[decide_eq_false h0] at h
   obtain rfl:false=q:=by rw[←h];rfl
   have d3:decide (0<k)=false:=decide_eq_false h0
   have d4:decide ((0:Int)<(k:Int))=false:=decide_eq_false (by omega)
   clear h
   go_enter Tryz.func151,Tryz.ntmps151
   go_wp2
   go_ret
   exact ⟨rfl,rfl⟩
 by_cases h58:r=58
 ·subst h58
  rw[stop_58 (by omega)] at h
  have HE:=Lib.hid h
  clear h hr
  go_enter Tryz.func151,Tryz.ntmps151
  go_wp2_with fail
  refine (plaiEnds_is q s (k+1) _ fl _ hs (by omega) HE.out).mono ?_
  rintro e w' ⟨rfl,rfl⟩
  go_wp2
  go_ret
  exact ⟨rfl,rfl⟩
 rw[stop_any (by omega) (by omega) (by omega)] at h
 have a10:((r:Int)==10)=false:=by simp;omega
 have a35:((r:Int)==35)=false:=by simp;omega
 have a58:((r:Int)==58)=false:=by simp;omega
 have hi:=run_byt s k hk (k:Int) rfl
 obtain ⟨y,hy⟩:∃ y,byt s k=y:=⟨_,rfl⟩
 rw[hy] at hi h
 clear hy hr h10 h35 h58
 cases fl with
 | false=>
  obtain rfl:false=q:=by rw[←h];rfl
  clear h
  go_enter Tryz.func151,Tryz.ntmps151
  go_wp2
  go_ret
  exact ⟨rfl,rfl⟩
 | true=>
  have HF:=Lib.hid (show U.flow (y:Int)=q from h)
  clear h
  go_enter Tryz.func151,Tryz.ntmps151
  go_wp2_with fail
  refine (Flow_is q _ _ HF.out).mono ?_
  rintro e w' ⟨rfl,rfl⟩
  go_wp2
  go_ret
  exact ⟨rfl,rfl⟩
theorem plaiTrim_is (e:Nat) (s:ByteArray) (a p:Nat) (w:World) (hs:s.size≤1099511627776) (hp:p≤s.size) (h:BakN s a p e) :
  Calls Tryz.prog 105 #[.string s,.int .i64 (a:Int),.int .i64 (p:Int)] w fun e' w'=>e'=.returned (.int .i64 (e:Int))∧w=w':=by
 have he1:=h.1
 have he2:=h.2.1
 have HK:=Lib.hid h
 clear h
 go_enter Tryz.func105,Tryz.ntmps105
 go_wp2
 go_loop [2] (fun v=>∃ k:Nat,v=.int .i64 (k:Int)∧e≤k∧k≤p) (fun v=>(intOf v).toNat-e)
 case atStart=>exact ⟨p,rfl,he2,Nat.le_refl _⟩
 case round=>
  obtain ⟨k,rfl,hk1,hk2⟩:=hrel
  by_cases hka:a<k
  ·have hi:=run_byt s (k-1) (by omega) ((k:Int)-1) (by omega)
   obtain ⟨y,hy⟩:∃ y,byt s (k-1)=y:=⟨_,rfl⟩
   rw[hy] at hi
   by_cases hke:k=e
   ·have hw:U.white (y:Int)=false:=by rw[←hy,hke];exact HK.out.2.2.2.resolve_left (by omega)
    have HW:=Lib.hid hw
    have HKE:=Lib.hid hke
    clear hy hw hke
    go_wp2_with fail
    refine (White_is false _ _ HW.out).mono ?_
    rintro e1 w1 ⟨rfl,rfl⟩
    go_wp2
    go_ret
    exact ⟨by show Ending.returned (.int .i64 (k:Int))=_;rw[HKE.out],rfl⟩
   ·have hw:U.white (y:Int)=true:=by rw[←hy];exact HK.out.2.2.1 (k-1) (by omega) (by omega)
    have HW:=Lib.hid hw
    clear hy hw
    go_wp2_with fail
    refine (White_is true _ _ HW.out).mono ?_
    rintro e1 w1 ⟨rfl,rfl⟩
    go_wp2
    go_round
    case rel=>exact ⟨k-1,by go_num,by omega,by omega⟩
    case measure=>simp[intOf];omega
  ·obtain rfl:k=e:=by omega
   go_wp2
   go_ret
   exact ⟨rfl,rfl⟩
set_option maxHeartbeats 800000 in
theorem plaiBegins_is (q:Bool) (s:ByteArray) (at':Int) (fl:Bool) (w:World) (hs:s.size≤1099511627776) (h:begB s at' fl=q) :
  Calls Tryz.prog 100 #[.string s,.int .i64 at',.bool fl] w fun e w'=>e=.returned (.bool q)∧w=w':=by
 unfold begB at h
 cases he:endsB s at' with
 | true=>
  rw[he] at h
  obtain rfl:false=q:=by rw[←h];rfl
  have HE:=Lib.hid he
  clear h he
  go_enter Tryz.func100,Tryz.ntmps100
  go_wp2_with fail
  refine (Ends_is true s at' _ hs HE.out).mono ?_
  rintro e w' ⟨rfl,rfl⟩
  go_wp2
  go_ret
  exact ⟨rfl,rfl⟩
 | false=>
  obtain ⟨k,rfl,hk⟩:∃ k:Nat,at'=(k:Int)∧k<s.size:=by
   have:¬ (at'<0∨(s.size:Int)≤at'):=fun hn=>by rw[endsB_out s at' hn] at he;cases he
   exact ⟨at'.toNat,by omega,by omega⟩
  rw[he,Int.toNat_natCast] at h
  have hi:=run_byt s k hk (k:Int) rfl
  obtain ⟨x,hx⟩:∃ x,byt s k=x:=⟨_,rfl⟩
  rw[hx] at h hi
  have HE:=Lib.hid he
  clear he hx
  by_cases hx3:x=45∨x=63∨x=58
  ·have hd:U.indic (x:Int)=true:=by rcases hx3 with rfl|rfl|rfl <;> decide
   rw[hd,decide_eq_true hx3] at h
   obtain ⟨z,hz⟩:∃ z,endB s fl (k+1)=z:=⟨_,rfl⟩
   have hzq:(!z)=q:=by
    rw[←h,←hz]
    unfold endB
    simp
   subst hzq
   have HZ:=Lib.hid hz
   clear h hd hz
   rcases hx3 with rfl|rfl|rfl
   all_goals
    go_enter Tryz.func100,Tryz.ntmps100
    go_wp2_with fail
    refine (Ends_is false s (k:Int) _ hs HE.out).mono ?_
    rintro e w' ⟨rfl,rfl⟩
    go_wp2_with fail
    refine (plaiEnds_is z s (k+1) _ fl _ hs (by omega) HZ.out).mono ?_
    rintro e w' ⟨rfl,rfl⟩
    go_wp2
    go_ret
    exact ⟨rfl,rfl⟩
  ·rw[decide_eq_false hx3] at h
   obtain ⟨z,hz⟩:∃ z,U.indic (x:Int)=z:=⟨_,rfl⟩
   rw[hz] at h
   have hzq:(!z)=q:=by rw[←h];simp
   subst hzq
   have HZ:=Lib.hid hz
   have a45:((x:Int)==45)=false:=by simp;omega
   have a63:((x:Int)==63)=false:=by simp;omega
   have a58:((x:Int)==58)=false:=by simp;omega
   clear h hz hx3
   go_enter Tryz.func100,Tryz.ntmps100
   go_wp2_with fail
   refine (Ends_is false s (k:Int) _ hs HE.out).mono ?_
   rintro e w' ⟨rfl,rfl⟩
   go_wp2_with fail
   refine (Indicator_is z _ _ HZ.out).mono ?_
   rintro e w' ⟨rfl,rfl⟩
   go_wp2
   go_ret
   exact ⟨rfl,rfl⟩
set_option maxHeartbeats 800000 in
theorem plaiStop_is (p:Nat) (s:ByteArray) (a:Nat) (fl:Bool) (w:World) (hs:s.size≤1099511627776) (ha:a≤s.size) (h:StpN s fl a p) :
  Calls Tryz.prog 103 #[.string s,.int .i64 (a:Int),.bool fl] w fun e' w'=>e'=.returned (.int .i64 (p:Int))∧Below w.heap.size w w':=by
 obtain ⟨T,hT⟩:∃ T,s.extract a s.size=T:=⟨_,rfl⟩
 have hTs:T.size=s.size-a:=by rw[←hT,ByteArray.size_extract];omega
 have hTb:∀ k,k<T.size→byt T k=byt s (a+k):=fun k hk=>by rw[←hT];exact byt_extract s a s.size k (by omega)
 have hb0:∀ pos,Below w.heap.size w (w.iter T pos):=fun pos=>(Below.refl _ _).alloc (Nat.le_refl _) _
 have hp1:=h.1
 have hp2:=h.2.1
 have H:=Lib.hid h
 have HB:=Lib.hid hTb
 clear h hTb
 go_enter Tryz.func103,Tryz.ntmps103
 go_wp2
 go_loopw [] (fun w'=>∃ k:Nat,w'=w.iter T k∧a+k≤p) (fun w'=>T.size-w'.iterPos w.heap.size)
 case atStart=>exact ⟨0,rfl,hp1⟩
 case round=>
  obtain ⟨k,rfl,hk⟩:=hrel
  by_cases hk2:k<T.size
  ·have hnx:∀ ty,(Instr.next (.pointer (some ⟨w.heap.size,0,none⟩)) true ty).run Tryz.prog (w.iter T k)=_:=fun ty=>run_next_any w T k ty hk2
   have hwd:=dec_pos T k
   have hle:=dec_le T k hk2
   have hsp:=dec_split T k hk2
   obtain ⟨x,hx⟩:∃ x:Nat,x=(Utf8.decode T k).1:=⟨_,rfl⟩
   obtain ⟨d,hdd⟩:∃ d:Nat,d=(Utf8.decode T k).2:=⟨_,rfl⟩
   rw[←hx,←hdd] at hnx hsp
   rw[←hdd] at hwd hle
   clear hx hdd
   have hr:(byt s (a+k)<128∧x=byt s (a+k))∨(128≤byt s (a+k)∧128≤x):=by
    rw[←HB.out k hk2]
    rcases hsp with ⟨h1,h2,_⟩|⟨h1,h2,_⟩
    ·exact .inl ⟨h1,h2⟩
    ·exact .inr ⟨h1,h2⟩
   have HR:=Lib.hid hr
   clear hr
   by_cases hkp:a+k=p
   ·have hst:stopB s fl (a+k)=true:=by rw[hkp];exact H.out.2.2.2.resolve_left (by omega)
    have HS:=Lib.hid hst
    have HKP:=Lib.hid hkp
    clear hst hsp hkp
    go_wp2_with fail
    refine (plaiStops_is true s (a+k) x _ fl _ hs (by omega) (by omega) HR.out HS.out).mono ?_
    rintro e w2 ⟨rfl,rfl⟩
    go_wp2
    go_ret
    exact ⟨by rw[←HKP.out];rfl,hb0 _⟩
   ·have hst:stopB s fl (a+k)=false:=H.out.2.2.1 (a+k) (by omega) (by omega)
    have hd:a+k+d≤p:=by
     refine Decidable.byContradiction fun hn=>?_
     rcases hsp with ⟨_,_,h3⟩|⟨_,_,h3⟩
     ·omega
     ·have h4:=h3 (p-a-k) (by omega)
      rw[HB.out _ (by omega),show a+(k+(p-a-k))=p by omega] at h4
      rcases H.out.2.2.2 with h5|h5
      ·omega
      ·rw[stop_high h4] at h5;cases h5
    have HS:=Lib.hid hst
    clear hst hsp hkp
    go_wp2_with fail
    refine (plaiStops_is false s (a+k) x _ fl _ hs (by omega) (by omega) HR.out HS.out).mono ?_
    rintro e w2 ⟨rfl,rfl⟩
    go_wp2
    go_roundw
    case rel=>exact ⟨k+d,rfl,by omega⟩
    case measure=>simp;omega
  ·have hnx:∀ ty,(Instr.next (.pointer (some ⟨w.heap.size,0,none⟩)) true ty).run Tryz.prog (w.iter T k)=_:=fun ty=>run_next_end w T k ty hk2
   obtain rfl:p=s.size:=by omega
   go_wp2
   go_ret
   exact ⟨rfl,hb0 k⟩
theorem plaiPart_is (e:Nat) (s:ByteArray) (a:Nat) (fl:Bool) (w:World) (hs:s.size≤1099511627776) (ha:a<s.size) (h:ParN s fl a e) :
  Calls Tryz.prog 101 #[.string s,.int .i64 (a:Int),.bool fl] w fun e' w'=>e'=.returned (.int .i64 (e:Int))∧Below w.heap.size w w':=by
 obtain ⟨p,hP,hK⟩:=h
 have hp2:=hP.2.1
 have HP:=Lib.hid hP
 have HK:=Lib.hid hK
 have d1:decide (s.size≤a)=false:=decide_eq_false (by omega)
 have d2:decide ((a:Int)<0)=false:=decide_eq_false (by omega)
 clear hP hK
 go_enter Tryz.func101,Tryz.ntmps101
 go_wp2_with fail
 refine (plaiStop_is p s a fl _ hs (by omega) HP.out).mono ?_
 rintro e1 w1 ⟨rfl,hb⟩
 go_wp2_with fail
 refine (plaiTrim_is e s a p _ hs hp2 HK.out).mono ?_
 rintro e1 w2 ⟨rfl,rfl⟩
 go_wp2
 go_ret
 exact ⟨rfl,hb⟩
theorem results_tmp2 {fn:Func} {t u:Tmp} (h:fn.results=#[.tmp t,.tmp u]) (tmps:Array Value) (P:Program) (w:World) :
  (results fn tmps).run P w=.ok (.tuple #[tmps.getD t undef,tmps.getD u undef]) w:=by
 simp[results,h,go_sem]
set_option maxHeartbeats 1600000 in
theorem plaiNext_is (F:Nat) (K:Int) (s:ByteArray) (e:Nat) (n:Int) (w:World) (hs:s.size≤1099511627776) (he:e≤s.size) (h:NxS s n e (-1) F K) :
  Calls Tryz.prog 102 #[.string s,.int .i64 (e:Int),.int .i64 n] w fun e' w'=>e'=.returned (.tuple #[.int .i64 (F:Int),.int .i64 K])∧Below w.heap.size w w':=by
 obtain ⟨T,hT⟩:∃ T,s.extract e s.size=T:=⟨_,rfl⟩
 have hTs:T.size=s.size-e:=by rw[←hT,ByteArray.size_extract];omega
 have hTb:∀ k,k<T.size→byt T k=byt s (e+k):=fun k hk=>by rw[←hT];exact byt_extract s e s.size k (by omega)
 have hb0:∀ pos,Below w.heap.size w (w.iter T pos):=fun pos=>(Below.refl _ _).alloc (Nat.le_refl _) _
 have H0:=Lib.hid h
 have HB:=Lib.hid hTb
 clear h hTb
 go_enter Tryz.func102,Tryz.ntmps102
 go_wp2
 go_loopw [7] (fun v7 w'=>∃ (k:Nat) (B:Int),v7=.int .i64 B∧w'=w.iter T k∧-1≤B∧B≤(k:Int)∧k≤T.size∧Hid (NxS s n (e+k) B F K)) (fun _ w'=>T.size-w'.iterPos w.heap.size)
 case atStart=>exact ⟨0,-1,rfl,rfl,by omega,by omega,Nat.zero_le _,H0.out⟩
 case round=>
  obtain ⟨k,B,rfl,rfl,hB0,hB1,hk,H⟩:=hrel
  by_cases hk2:k<T.size
  ·have hnx:∀ ty,(Instr.next (.pointer (some ⟨w.heap.size,0,none⟩)) true ty).run Tryz.prog (w.iter T k)=_:=fun ty=>run_next_any w T k ty hk2
   have hwd:=dec_pos T k
   have hle:=dec_le T k hk2
   have hsp:=dec_split T k hk2
   have hi:=run_byt s (e+k) (by omega) ((e:Int)+(k:Int)) (by omega)
   have hcl:clampN ((e:Int)+(k:Int)) s.size=e+k:=by
    rw[show (e:Int)+(k:Int)=((e+k:Nat):Int) by omega]
    exact clampN_self (e+k) _ (by omega)
   obtain ⟨x,hx⟩:∃ x:Nat,x=(Utf8.decode T k).1:=⟨_,rfl⟩
   obtain ⟨d,hdd⟩:∃ d:Nat,d=(Utf8.decode T k).2:=⟨_,rfl⟩
   rw[←hx,←hdd] at hnx hsp
   rw[←hdd] at hwd hle
   clear hx hdd
   obtain ⟨y,hy⟩:∃ y,byt s (e+k)=y:=⟨_,rfl⟩
   rw[hy] at hi
   rw[HB.out k hk2,hy] at hsp
   by_cases hy10:y=10
   ·obtain ⟨hx10,rfl⟩:x=10∧d=1:=by
     rcases hsp with ⟨h1,h2,h3⟩|⟨h1,_,_⟩
     ·exact ⟨by omega,h3⟩
     ·omega
    subst hx10
    have H2:=Lib.hid (H.out.lf_inv (by omega) (by rw[hy];exact hy10))
    clear hsp hy hy10
    go_wp2
    go_roundw
    case rel=>exact ⟨k+1,B+1,by go_num,rfl,by omega,by omega,by omega,H2.out⟩
    case measure=>simp;omega
   have a10:((x:Int)==10)=false:=by simp;omega
   cases hw:U.white (y:Int) with
   | true=>
    obtain rfl:d=1:=by
     rcases hsp with ⟨h1,h2,h3⟩|⟨h1,_,_⟩
     ·exact h3
     ·rw[white_high h1] at hw;cases hw
    have H2:=Lib.hid (H.out.wh_inv (by omega) (by rw[hy];exact hw))
    have HW:=Lib.hid hw
    clear hsp hy hy10 hw
    go_wp2_with fail
    refine (White_is true _ _ HW.out).mono ?_
    rintro e9 w2 ⟨rfl,rfl⟩
    go_wp2
    go_roundw
    case rel=>exact ⟨k+1,B,rfl,rfl,by omega,by omega,by omega,H2.out⟩
    case measure=>simp;omega
   | false=>
    have HW:=Lib.hid hw
    have hy10':byt s (e+k)≠10:=by rw[hy];exact hy10
    have hw':U.white (byt s (e+k):Int)=false:=by rw[hy];exact hw
    by_cases hB2:B<0
    ·obtain ⟨rfl,rfl⟩:=H.out.early_inv hy10' hw' hB2
     have d0:decide (0≤B)=false:=decide_eq_false (by omega)
     clear hsp hy hy10 hw hy10' hw'
     go_wp2_with fail
     refine (White_is false _ _ HW.out).mono ?_
     rintro e9 w2 ⟨rfl,rfl⟩
     go_wp2
     refine bodyPost_ret (results_tmp2 rfl _ _ _) rfl ?_
     exact ⟨rfl,hb0 _⟩
    ·obtain ⟨a,ha⟩:=RowB.ex s (e+k)
     obtain ⟨b,hb⟩:=RowE.ex s (e+k) (by omega)
     have hab:a≤b:=by have:=ha.1;have:=hb.1;omega
     obtain ⟨p,hp⟩:=FirN.ex s a b hab
     obtain ⟨i,hi2⟩:=InN.ex s a b hab
     have hin:=H.out.in_inv (by omega) hy10' hw' (by omega) ha hb hp hi2
     have HA:Hid (RowB s (clampN ((e:Int)+(k:Int)) s.size) a):=by rw[hcl];exact ha
     have HE:Hid (RowE s (clampN ((e:Int)+(k:Int)) s.size) b):=by rw[hcl];exact hb
     have HP:=Lib.hid hp
     have HI:=Lib.hid hi2
     obtain ⟨z,hz⟩:∃ z,kindN s a b p=z:=⟨_,rfl⟩
     have HZ:=Lib.hid hz
     rw[hz] at hin
     have d0:decide (0≤B)=true:=decide_eq_true (by omega)
     clear hsp hy hy10 hw hy10' hw' ha hb hp hi2 hz hcl
     by_cases hz5:z=5
     ·subst hz5
      by_cases hni:n<(i:Int)
      ·obtain ⟨_,_,rF,rfl⟩:=hin.resolve_right (by omega)
       have RF:=Lib.hid rF
       clear rF hin
       go_wp2_with fail
       refine (White_is false _ _ HW.out).mono ?_
       rintro e9 w2 ⟨rfl,rfl⟩
       go_wp2_with fail
       refine (rowsKind_is 5 a b p s ((e:Int)+(k:Int)) _ hs HA.out HE.out HP.out HZ.out).mono ?_
       rintro e9 w2 ⟨rfl,rfl⟩
       go_wp2_with fail
       refine (rowsIn_is a b i s ((e:Int)+(k:Int)) _ hs HA.out HE.out HI.out).mono ?_
       rintro e9 w2 ⟨rfl,rfl⟩
       go_wp2
       refine bodyPost_ret (results_tmp2 rfl _ _ _) rfl ?_
       exact ⟨by rw[RF.out];rfl,hb0 _⟩
      ·obtain ⟨_,rfl,rfl⟩:=hin.resolve_left (by omega)
       have d5:decide (n<(i:Int))=false:=decide_eq_false hni
       clear hin
       go_wp2_with fail
       refine (White_is false _ _ HW.out).mono ?_
       rintro e9 w2 ⟨rfl,rfl⟩
       go_wp2_with fail
       refine (rowsKind_is 5 a b p s ((e:Int)+(k:Int)) _ hs HA.out HE.out HP.out HZ.out).mono ?_
       rintro e9 w2 ⟨rfl,rfl⟩
       go_wp2_with fail
       refine (rowsIn_is a b i s ((e:Int)+(k:Int)) _ hs HA.out HE.out HI.out).mono ?_
       rintro e9 w2 ⟨rfl,rfl⟩
       go_wp2
       refine bodyPost_ret (results_tmp2 rfl _ _ _) rfl ?_
       exact ⟨rfl,hb0 _⟩
     ·obtain ⟨_,rfl,rfl⟩:=hin.resolve_left (by omega)
      have z5:(z==5)=false:=by simpa using hz5
      clear hin
      go_wp2_with fail
      refine (White_is false _ _ HW.out).mono ?_
      rintro e9 w2 ⟨rfl,rfl⟩
      go_wp2_with fail
      refine (rowsKind_is z a b p s ((e:Int)+(k:Int)) _ hs HA.out HE.out HP.out HZ.out).mono ?_
      rintro e9 w2 ⟨rfl,rfl⟩
      go_wp2
      refine bodyPost_ret (results_tmp2 rfl _ _ _) rfl ?_
      exact ⟨rfl,hb0 _⟩
  ·have hnx:∀ ty,(Instr.next (.pointer (some ⟨w.heap.size,0,none⟩)) true ty).run Tryz.prog (w.iter T k)=_:=fun ty=>run_next_end w T k ty hk2
   obtain ⟨rfl,rfl⟩:=H.out.end (by omega)
   go_wp2
   refine bodyPost_ret (results_tmp2 rfl _ _ _) rfl ?_
   exact ⟨rfl,hb0 k⟩
theorem colon_is (q:Bool) (s:ByteArray) (k:Nat) (w:World) (h:decide (k<s.size∧byt s k=58)=q) :
  Calls Tryz.prog 77 #[.string (s.extract k s.size),.string ⟨#[58]⟩] w fun e w'=>e=.returned (.bool q)∧w=w':=by
 have hq:Lib.hasPrefix (s.extract k s.size).data.toList [58]=q:=by
  rw[←h]
  have e:(s.extract k s.size).data.toList=s.data.toList.drop k:=by
   rw[Lib.extract_data,List.take_of_length_le]
   rw[List.length_drop,Lib.size_eq];exact Nat.le_refl _
  rw[e]
  by_cases hk:k<s.size
  ·obtain ⟨b,hd,hb⟩:=drop_byte s k hk
   rw[hd,←hb,Bool.eq_iff_iff,decide_eq_true_eq]
   unfold Lib.hasPrefix
   simp only[List.isPrefixOf,Bool.and_true,beq_iff_eq]
   refine ⟨fun h=>⟨hk,by rw[←h];rfl⟩,fun h=>?_⟩
   apply UInt8.toNat_inj.1
   rw[h.2];rfl
  ·rw[List.drop_eq_nil_of_le (by rw[←Lib.size_eq];omega),decide_eq_false (fun h=>hk h.1)]
   rfl
 refine (Tryz.strings_HasPrefix (s.extract k s.size) ⟨#[58]⟩ w).mono ?_
 rintro e w' ⟨rfl,rfl⟩
 exact ⟨by rw[←hq],rfl⟩
end Go.Proofs.YthcmkpiajkbpnaaGreatDoor
namespace Go.Proofs.YthcmkpiajkbpnaaGreatDoor
open Go.RowKit
theorem fit_ways {s:ByteArray} {fl:Bool} {q:Nat} {r:Bool} (h:fitB s fl q=r):(endsB s (q:Int)=true∧r=true)∨(endsB s (q:Int)=false∧q<s.size∧fl=false∧r=false)∨(endsB s (q:Int)=false∧q<s.size∧fl=true∧U.flow (byt s q:Int)=r):=by
 unfold fitB at h
 cases hE:endsB s (q:Int) with
 | true=>rw[hE] at h;exact .inl ⟨rfl,h.symm⟩
 | false=>
  rw[hE,Bool.false_or] at h
  have hq:q<s.size:=by
   refine Decidable.byContradiction fun hc=>?_
   rw[endsB_out s (q:Int) (.inr (by omega))] at hE
   cases hE
  cases fl with
  | false=>exact .inr (.inl ⟨rfl,hq,rfl,h.symm⟩)
  | true=>exact .inr (.inr ⟨rfl,hq,rfl,h⟩)
theorem prop_ret3 {fn:Func} {t u v:Tmp} (h:fn.results=#[.tmp t,.tmp u,.tmp v]) (tmps:Array Value) (P:Program) (w:World) :
  (results fn tmps).run P w=.ok (.tuple #[tmps.getD t undef,tmps.getD u undef,tmps.getD v undef]) w:=by
 simp[results,h,go_sem]
theorem list_ba_ne {l:List UInt8} (h:l≠[]) {B:ByteArray} (hB:B=⟨l.toArray⟩):B.toList.isEmpty=false:=by
 rw[hB,Lib.toList_data]
 cases l with
 | nil=>exact absurd rfl h
 | cons a t=>rfl
end Go.Proofs.YthcmkpiajkbpnaaGreatDoor
namespace Go.Proofs.YthcmkpiajkbpnaaGreatDoor
open Go.RowKit
theorem tot_blanks:∀ n:Nat,U.tot (U.blanksL n)=n
 | 0=>rfl
 | n+1=>by show 0+1+U.tot (U.blanksL n)=_;rw[tot_blanks n];omega
theorem length_join:∀ xs:List (List UInt8),(U.joinGo xs).length=U.tot xs
 | []=>rfl
 | r :: t=>by
  show (10 :: (r++U.joinGo t)).length=_
  rw[List.length_cons,List.length_append,length_join t,U.tot];omega
theorem tot_len:∀ l:List (List UInt8),l.length≤U.tot l
 | []=>Nat.le_refl _
 | r :: t=>by have:=tot_len t;rw[U.tot,List.length_cons];omega
end Go.Proofs.YthcmkpiajkbpnaaGreatDoor
namespace Go.Proofs.YthcmkpiajkbpnaaGreatDoor
open Go.RowKit
def KQ (q:Nat) (n:Int) (S:ByteArray) (m:Bool) (R:List (List UInt8 × Bool)) (t w:List UInt8):Prop:=
 ∀ (Z:ByteArray) (T:List UInt8) (E:Nat) (O:Bool) (C:Int),QZ (S++Z) q n T E O C S.size m R t w→QuoZ (S++Z) 0 n T (E:Int) O C
end Go.Proofs.YthcmkpiajkbpnaaGreatDoor
