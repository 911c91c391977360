/- Parts of the proof, put together from smaller texts (blanks that Lean does not want are struck). Conditions: those that each theorem writes out. -/
import Derived.Deep.DeepCutAuto
import Derived.Deep.LoopGhost
import Derived.Test.YthcmkpiajkbpnaaGreatDoorZ01
import Derived.Test.YthcmkpiajkbpnaaGreatDoorZ02
import Derived.Test.YthcmkpiajkbpnaaGreatDoorZ03
namespace Go.Proofs.YthcmkpiajkbpnaaGreatDoor
open Go.RowKit
inductive PW (s:ByteArray) (a:Nat) (L:List (List UInt8 × Nat)) (S:Bool) (E:Nat):Nat→List (List UInt8 × Nat)→Bool→Prop
 | over {p o b}:¬ p<s.size→L=o→S=b→E=p→PW s a L S E p o b
 | white {p o b}:p<s.size→U.white (byt s p:Int)=true→PW s a L S E (p+1) o b→PW s a L S E p o b
 | lf {p o b}:p<s.size→byt s p=10→PW s a L S E (p+1) o b→PW s a L S E p o b
 | com {p rb t e k d o b}:p<s.size→ntB s p=true→RowB s p rb→RowE s p t→BakN s (p+1) t e→Abv s p k d→PW s a L S E t (o++[(pieceL s (p+1) e,d)]) (b||decide (rb<a))→PW s a L S E p o b
 | stop {p o b}:p<s.size→U.white (byt s p:Int)=false→byt s p≠10→ntB s p=false→L=o→S=b→E=p→PW s a L S E p o b
def NFin (s:ByteArray) (wi:Bool) (n:Int) (a:Nat) (L0:List (List UInt8 × Nat)) (S0:Bool) (q:Nat) (L:List (List UInt8 × Nat)) (S:Bool) (E:Nat) (C:Int):Prop:=
 ∃ r t f i,RowB s q r∧RowE s q t∧FirN s r t f∧InN s r t i ∧
  ((wi=false∧a≤r∧kindN s r t f=5∧TabN s r q E∧L=[]∧S=false∧C=4) ∨
   (wi=true∧a<r∧(kindN s r t f=3∨kindN s r t f=4∨(kindN s r t f=5∧(i:Int)≤n))∧L=[]∧S=false∧E=q∧C=5) ∨
   ((wi=false→a≤r→kindN s r t f=5→NoTab s r q)∧(wi=true→a<r→kindN s r t f≠3∧kindN s r t f≠4∧(kindN s r t f=5→n<(i:Int)))∧L=L0∧S=S0∧E=q∧C=0))
theorem kind_3 {s:ByteArray} {a b p:Nat} (h:kindN s a b p=3):mk3 s a b 45=true:=by
 unfold kindN at h
 split at h
 ·assumption
 ·split at h
  ·cases h
  ·split at h
   ·cases h
   ·split at h <;> cases h
theorem kind_4 {s:ByteArray} {a b p:Nat} (h:kindN s a b p=4):mk3 s a b 46=true:=by
 unfold kindN at h
 split at h
 ·cases h
 ·split at h
  ·assumption
  ·split at h
   ·cases h
   ·split at h <;> cases h
theorem kind_5 {s:ByteArray} {a b p:Nat} (h:kindN s a b p=5):p≠b∧byt s p≠35:=by
 unfold kindN at h
 split at h
 ·cases h
 ·split at h
  ·cases h
  ·split at h
   ·cases h
   ·split at h
    ·cases h
    ·exact ⟨by assumption,by assumption⟩
theorem kind_note {s:ByteArray} {a b p:Nat} (h3:kindN s a b p≠3) (h4:kindN s a b p≠4) (hp:p≠b) (h:byt s p=35):kindN s a b p=2:=by
 revert h3 h4
 unfold kindN
 split
 ·intro h3;exact absurd rfl h3
 ·split
  ·intro _ h4;exact absurd rfl h4
  ·intro _ _
   first|rfl|rw[if_neg hp,if_pos h]
theorem kind_one {s:ByteArray} {a b p:Nat} (h3:kindN s a b p≠3) (h4:kindN s a b p≠4) (hp:p=b):kindN s a b p=1:=by
 revert h3 h4
 unfold kindN
 split
 ·intro h3;exact absurd rfl h3
 ·split
  ·intro _ h4;exact absurd rfl h4
  ·intro _ _
   first|rfl|rw[if_pos hp]
theorem kind_mark {s:ByteArray} {a b p:Nat} (h:kindN s a b p=3∨kindN s a b p=4):a+3≤b∧(byt s a=45∨byt s a=46):=by
 rcases h with h|h
 ·have:=kind_3 h
  unfold mk3 at this
  rw[decide_eq_true_eq] at this
  exact ⟨this.1,.inl this.2.1⟩
 ·have:=kind_4 h
  unfold mk3 at this
  rw[decide_eq_true_eq] at this
  exact ⟨this.1,.inr this.2.1⟩
theorem ntB_not {s:ByteArray} {p:Nat} (h:byt s p≠35):ntB s p=false:=by
 unfold ntB
 rw[decide_eq_false_iff_not]
 exact fun hc=>h hc.1
theorem PW.row {s:ByteArray} {a q t:Nat} {o:List (List UInt8 × Nat)} {b:Bool} (hE:RowE s q t) (hqt:q<t) (hw:U.white (byt s q:Int)=false) (h35:byt s q≠35):∀ (g p:Nat),p+g=q→(∀ j,j<q→p≤j→U.white (byt s j:Int)=true)→PW s a o b q p o b:=by
 have hq:q<s.size:=Nat.lt_of_lt_of_le hqt hE.2.1
 intro g
 induction g with
 | zero=>
  intro p h _
  obtain rfl:p=q:=by omega
  exact .stop hq hw (hE.2.2.1 p hqt (Nat.le_refl _)) (ntB_not h35) rfl rfl rfl
 | succ g ih=>
  intro p h hW
  exact .white (by omega) (hW p (by omega) (Nat.le_refl _)) (ih (p+1) (by omega) fun j h1 h2=>hW j h1 (by omega))
theorem PW.le {s:ByteArray} {a E p:Nat} {L o:List (List UInt8 × Nat)} {S b:Bool} (h:PW s a L S E p o b):p≤s.size→p≤E∧E≤s.size:=by
 induction h with
 | over _ _ _ e=>intro hp;omega
 | white h1 _ _ ih=>intro hp;have:=ih (by omega);omega
 | lf h1 _ _ ih=>intro hp;have:=ih (by omega);omega
 | com h1 hn _ hE _ _ _ ih=>
  intro hp
  have h2:=nt_row hn h1 hE
  have:=ih hE.2.1
  omega
 | stop h1 _ _ _ _ _ e=>intro hp;omega
def Seen (s:ByteArray) (wi:Bool) (n:Int) (a rb p:Nat):Prop:=
 ∃ t f i,RowE s p t∧FirN s rb t f∧InN s rb t i∧kindN s rb t f≠3∧kindN s rb t f≠4∧(kindN s rb t f=5→wi=false→NoTab s rb f)∧(kindN s rb t f=5→wi=true→a<rb→n<(i:Int))∧(p≤f∨(p=t∧kindN s rb t f=2))
theorem NFin.plain {s:ByteArray} {wi:Bool} {n:Int} {a q r:Nat} {L:List (List UInt8 × Nat)} {S:Bool} (hq:q≤s.size) (hB:RowB s q r) (h:a≤r→∃ t f i,RowE s q t∧FirN s r t f∧InN s r t i∧kindN s r t f≠3∧kindN s r t f≠4∧(kindN s r t f=5→wi=false→NoTab s r q)∧(kindN s r t f=5→wi=true→a<r→n<(i:Int))):NFin s wi n a L S q L S q 0:=by
 by_cases har:a≤r
 ·obtain ⟨t,f,i,h1,h2,h3,h4,h5,h6,h7⟩:=h har
  exact ⟨r,t,f,i,hB,h1,h2,h3,.inr (.inr ⟨fun hw _ hk=>h6 hk hw,fun hw ha=>⟨h4,h5,fun hk=>h7 hk hw ha⟩,rfl,rfl,rfl,rfl⟩)⟩
 ·obtain ⟨t,ht⟩:=RowE.ex s q hq
  have hrt:r≤t:=Nat.le_trans hB.1 ht.1
  obtain ⟨f,hf⟩:=FirN.ex s r t hrt
  obtain ⟨i,hi⟩:=InN.ex s r t hrt
  exact ⟨r,t,f,i,hB,ht,hf,hi,.inr (.inr ⟨fun _ h=>absurd h har,fun _ h=>absurd (Nat.le_of_lt h) har,rfl,rfl,rfl,rfl⟩)⟩
theorem NZ.pass {s:ByteArray} {wi:Bool} {n:Int} {a:Nat} {sm:Bool} {L:List (List UInt8 × Nat)} {S:Bool} {E:Nat} {C:Int} {p:Nat} {m f:Bool} {o:List (List UInt8 × Nat)} {b:Bool} (h:NZ s wi n a sm L S E C p m f o b) :
  ∀ rb,p≤s.size→a≤p→RowB s p rb→(m=true→rb=p)→(sm&&f)=decide (rb<a)→(m=false→a≤rb→Seen s wi n a rb p)→(o≠[]→a≤rb∨p=s.size∨byt s p=10)→(o=[]→b=false) →
   ∃ L0 S0 q,PW s a L0 S0 q p o b∧NFin s wi n a L0 S0 q L S E C:=by
 induction h with
 | @over p m f o b h1 h2 h3 h4 h5=>
  intro rb hp hap hB hm _ hs _ _
  subst h2 h3 h4 h5
  refine ⟨_,_,_,.over h1 rfl rfl rfl,NFin.plain hp hB fun har=>?_⟩
  cases m with
  | true=>
   obtain rfl:=hm rfl
   have hE:RowE s rb rb:=⟨Nat.le_refl _,hp,fun j h1 h2=>by omega,.inl (by omega)⟩
   have hk:kindN s rb rb rb=1:=by
    refine kind_one (fun hk=>?_) (fun hk=>?_) rfl
    ·have:=(kind_mark (.inl hk)).1;omega
    ·have:=(kind_mark (.inr hk)).1;omega
   refine ⟨rb,rb,0,hE,⟨Nat.le_refl _,Nat.le_refl _,fun j h1 h2=>by omega,.inl rfl⟩,⟨Nat.le_refl _,fun j h1=>by omega,.inl rfl⟩,by rw[hk];decide,by rw[hk];decide,fun h=>?_,fun h=>?_⟩ <;> (rw[hk] at h;cases h)
  | false=>
   obtain ⟨t,f,i,hE,hF,hI,k3,k4,k5,k6,hc⟩:=hs rfl har
   have ht:t=E:=by have:=hE.1;have:=hE.2.1;omega
   have hk:kindN s rb t f≠5:=by
    rcases hc with hc|⟨_,hc⟩
    ·have hf:f=t:=by have:=hF.2.1;omega
     rw[kind_one k3 k4 hf];decide
    ·rw[hc];decide
   exact ⟨t,f,i,hE,hF,hI,k3,k4,fun h=>absurd h hk,fun h=>absurd h hk⟩
 | @mark p t q f o b hp1 hE hF hk hwa h2 h3 h4 h5=>
  intro rb hp hap hB hm _ _ _ _
  obtain rfl:=hm rfl
  subst h2 h3 h4 h5
  obtain ⟨hk1,hk2⟩:=kind_mark hk
  obtain ⟨i,hi⟩:=InN.ex s E t hE.1
  refine ⟨_,_,_,.stop hp1 ?_ ?_ (ntB_not ?_) rfl rfl rfl,E,t,q,i,hB,hE,hF,hi,.inr (.inr ⟨fun _ _ h5=>?_,fun hw ha=>?_,rfl,rfl,rfl,rfl⟩)⟩
  ·rcases hk2 with e|e <;> rw[e] <;> decide
  ·omega
  ·omega
  ·rcases hk with e|e <;> rw[e] at h5 <;> cases h5
  ·rcases hwa with e|e
   ·rw[e] at hw;cases hw
   ·omega
 | @markX p t q f o b hp1 hE hF hk hw hpa h2 h3 h4 h5=>
  intro rb hp hap hB hm _ _ _ _
  obtain rfl:=hm rfl
  subst h2 h3 h4 h5
  obtain ⟨hk1,hk2⟩:=kind_mark hk
  obtain ⟨i,hi⟩:=InN.ex s E t hE.1
  refine ⟨_,_,_,.stop hp1 ?_ ?_ (ntB_not ?_) rfl rfl rfl,E,t,q,i,hB,hE,hF,hi,.inr (.inl ⟨hw,by omega,?_,rfl,rfl,rfl,rfl⟩)⟩
  ·rcases hk2 with e|e <;> rw[e] <;> decide
  ·omega
  ·omega
  ·rcases hk with e|e
   ·exact .inl e
   ·exact .inr (.inl e)
 | @tab p t q x f o b hp1 hE hF hk hw hT h2 h3 h4 h5=>
  intro rb hp hap hB hm _ _ _ _
  obtain rfl:=hm rfl
  subst h2 h3 h4 h5
  obtain ⟨k1,k2⟩:=kind_5 hk
  have hqt:q<t:=by have:=hF.2.1;omega
  have hEq:RowE s q t:=hE.within (hB) hF.1 hF.2.1
  obtain ⟨i,hi⟩:=InN.ex s rb t hE.1
  have hBq:RowB s q rb:=hB.within hE hF.1 hF.2.1
  exact ⟨_,_,_,PW.row hEq hqt (hF.2.2.2.resolve_left k1) k2 (q-rb) rb (by have:=hF.1;omega) (fun j h1 h2=>hF.2.2.1 j h1 h2),rb,t,q,i,hBq,hEq,hF,hi,.inl ⟨hw,hap,hk,hT,rfl,rfl,rfl⟩⟩
 | @far p t q i f o b hp1 hE hF hk hw hpa hI hin h2 h3 h4 h5=>
  intro rb hp hap hB hm _ _ _ _
  obtain rfl:=hm rfl
  subst h2 h3 h4 h5
  obtain ⟨k1,k2⟩:=kind_5 hk
  have hqt:E<t:=by have:=hF.2.1;omega
  have hEq:RowE s E t:=hE.within (hB) hF.1 hF.2.1
  have hBq:RowB s E rb:=hB.within hE hF.1 hF.2.1
  exact ⟨_,_,_,PW.row hEq hqt (hF.2.2.2.resolve_left k1) k2 (E-rb) rb (by have:=hF.1;omega) (fun j h1 h2=>hF.2.2.1 j h1 h2),rb,t,E,i,hBq,hEq,hF,hI,.inr (.inl ⟨hw,by omega,.inr (.inr ⟨hk,hin⟩),rfl,rfl,rfl,rfl⟩)⟩
 | @met p t q i f o b hp1 hE hF hI k3 k4 k5 k6 _ ih=>
  intro rb hp hap hB hm hsm _ ho hob
  obtain rfl:=hm rfl
  exact ih rb hp hap hB (fun h=>by cases h) hsm (fun _ har=>⟨t,q,i,hE,hF,hI,k3,k4,k5,fun e1 e2 e3=>k6 e1 e2 (by omega),.inl hF.1⟩) ho hob
 | @white p f o b hp1 hw _ ih=>
  intro rb hp hap hB hm hsm hs ho hob
  have h10:byt s p≠10:=fun e=>by rw[e] at hw;cases hw
  suffices H:(false=false→a≤rb→Seen s wi n a rb (p+1))∧(o≠[]→a≤rb∨p+1=s.size∨byt s (p+1)=10) by
   obtain ⟨L0,S0,q,h1,h2⟩:=ih rb (by omega) (by omega) (hB.step h10) (fun h=>by cases h) hsm H.1 H.2 hob
   exact ⟨L0,S0,q,.white hp1 hw h1,h2⟩
  refine ⟨fun _ har=>?_,fun h=>?_⟩
  ·obtain ⟨t,g,i,hE,hF,hI,k3,k4,k5,k6,hc⟩:=hs rfl har
   have hpt:p≠t:=fun e=>by
    rcases hE.2.2.2 with e2|e2
    ·omega
    ·rw[←e] at e2;exact h10 e2
   have hpt2:=hE.1
   refine ⟨t,g,i,⟨by omega,hE.2.1,fun j h1 h2=>hE.2.2.1 j h1 (by omega),hE.2.2.2⟩,hF,hI,k3,k4,k5,k6,.inl ?_⟩
   rcases hc with hc|⟨hc,_⟩
   ·have:p≠g:=fun e=>by
     rcases hF.2.2.2 with e2|e2
     ·omega
     ·rw[←e,hw] at e2;cases e2
    omega
   ·exact absurd hc hpt
  ·rcases ho h with h|h|h
   ·exact .inl h
   ·omega
   ·exact absurd h h10
 | @lf p f o b hp1 h10 _ ih=>
  intro rb hp hap hB hm hsm hs ho hob
  obtain ⟨L0,S0,q,h1,h2⟩:=ih (p+1) (by omega) (by omega) (RowB.lf h10) (fun _=>rfl) (by rw[Bool.and_false];exact (decide_eq_false (by omega)).symm) (fun h=>by cases h) (fun _=>.inl (by omega)) hob
  exact ⟨L0,S0,q,.lf hp1 h10 h1,h2⟩
 | @com p t e k d f o b hp1 hn hE hK hA _ ih=>
  intro rb hp hap hB hm hsm hs ho hob
  have h35:=ntB_byte hn
  have hpt:=nt_row hn hp1 hE
  have hb2:(if o=[] then (sm&&f) else b)=(b||decide (rb<a)):=by
   split
   ·rename_i h
    rw[hob h,hsm,Bool.false_or]
   ·rename_i h
    have har:a≤rb:=by
     rcases ho h with h|h|h
     ·exact h
     ·omega
     ·omega
    rw[decide_eq_false (by omega),Bool.or_false]
  have hBt:RowB s t rb:=hB.within hE (by have:=hB.1;omega) (Nat.le_refl t)
  suffices H:false=false→a≤rb→Seen s wi n a rb t by
   obtain ⟨L0,S0,q,h1,h2⟩:=ih rb hE.2.1 (by omega) hBt (fun h=>by cases h) hsm H (fun _=>.inr hE.2.2.2) (fun h=>by simp at h)
   rw[hb2] at h1
   exact ⟨L0,S0,q,.com hp1 hn hB hE hK hA h1,h2⟩
  intro _ har
  ·obtain ⟨t2,g,i,hE2,hF,hI,k3,k4,k5,k6,hc⟩:=hs rfl har
   obtain rfl:=hE.uniq hE2
   refine ⟨t,g,i,⟨Nat.le_refl _,hE.2.1,fun j h1 h2=>by omega,hE.2.2.2⟩,hF,hI,k3,k4,k5,k6,.inr ⟨rfl,?_⟩⟩
   rcases hc with hc|⟨hc,_⟩
   ·have hpg:p=g:=by
     by_cases h:p=g
     ·exact h
     ·have:=hF.2.2.1 p (by omega) hB.1
      rw[h35] at this;cases this
    subst hpg
    exact kind_note k3 k4 (by omega) h35
   ·omega
 | @stop p f o b hp1 hw h10 hn h2 h3 h4 h5=>
  intro rb hp hap hB hm hsm hs ho hob
  subst h2 h3 h4 h5
  refine ⟨_,_,_,.stop hp1 hw h10 hn rfl rfl rfl,NFin.plain hp hB fun har=>?_⟩
  obtain ⟨t,g,i,hE,hF,hI,k3,k4,k5,k6,hc⟩:=hs rfl har
  have hpt:E≠t:=fun e=>by
   rcases hE.2.2.2 with e2|e2
   ·omega
   ·rw[←e] at e2;exact h10 e2
  have hpg:E=g:=by
   rcases hc with hc|⟨hc,_⟩
   ·by_cases h:E=g
    ·exact h
    ·have:=hF.2.2.1 E (by omega) hB.1
     rw[hw] at this;cases this
   ·exact absurd hc hpt
  subst hpg
  exact ⟨t,E,i,hE,hF,hI,k3,k4,k5,k6⟩
theorem NoteZ.pass {s:ByteArray} {wi:Bool} {n at':Int} {L:List (List UInt8 × Nat)} {S:Bool} {E C:Int} (h:NoteZ s wi n at' L S E C) :
  ∃ L0 S0 q E',E=((E':Nat):Int)∧PW s (clampN at' s.size) L0 S0 q (clampN at' s.size) [] false∧NFin s wi n (clampN at' s.size) L0 S0 q L S E' C:=by
 obtain ⟨r0,E',hB,hE,hN⟩:=h
 suffices H:(!(decide (clampN at' s.size=r0))&&true)=decide (r0<clampN at' s.size)∧(decide (clampN at' s.size=r0)=false→clampN at' s.size≤r0→Seen s wi n (clampN at' s.size) r0 (clampN at' s.size)) by
  obtain ⟨L0,S0,q,h1,h2⟩:=hN.pass r0 (clampN_le at' s.size) (Nat.le_refl _) hB (fun h=>by rw[decide_eq_true_eq] at h;exact h.symm) H.1 H.2 (fun h=>absurd rfl h) (fun _=>rfl)
  exact ⟨L0,S0,q,E',hE,h1,h2⟩
 refine ⟨?_,fun h har=>?_⟩
 ·rw[Bool.and_true,Bool.eq_iff_iff,Bool.not_eq_true',decide_eq_false_iff_not,decide_eq_true_eq]
  have:=hB.1
  omega
 ·rw[decide_eq_false_iff_not] at h
  have:=hB.1
  omega
end Go.Proofs.YthcmkpiajkbpnaaGreatDoor
namespace Go.Proofs.YthcmkpiajkbpnaaGreatDoor
open Go.RowKit
theorem byt_list (s:ByteArray) (j:Nat):byt s j=(s.data.toList.getD j 0).toNat:=by
 unfold byt;rw[Lib.getD_get!']
theorem byt_extract (s:ByteArray) (a b j:Nat) (h:a+j<b):byt (s.extract a b) j=byt s (a+j):=by
 rw[byt_list,byt_list,Lib.extract_data]
 simp only[List.getD,List.getElem?_take,List.getElem?_drop]
 rw[if_pos (by omega)]
theorem byt_bang (s:ByteArray) (j:Nat) (h:j<s.size):(s.data[j]!).toNat=byt s j:=by
 rw[byt_list,getElem!_pos s.data j (by simpa using h)]
 have hj2:j<s.data.toList.length:=by rw[←Lib.size_eq];exact h
 simp[List.getD,List.getElem?_eq_getElem hj2]
theorem size_take (s:ByteArray) (c:Nat) (hc:c≤s.size):(s.extract 0 c).size=c:=by rw[ByteArray.size_extract];omega
theorem size_piece (s:ByteArray) (a b:Nat) (hb:b≤s.size):(s.extract a b).size=b-a:=by rw[ByteArray.size_extract];omega
theorem last_begin (s:ByteArray) (c a:Nat) (hc:c≤s.size) (h:RowB s c a):Lib.lastIndexByte (s.extract 0 c) 10+1=(a:Int):=by
 have hsz:=size_take s c hc
 have hg:∀ j,j<c→(((s.extract 0 c).data[j]!).toNat:Int)=(byt s j:Int):=fun j hj=>by
  rw[byt_bang _ _ (by rw[hsz];exact hj),byt_extract s 0 c j (by omega),Nat.zero_add]
 rcases Lib.lastIndexByte_spec (s.extract 0 c) 10 with ⟨h1,h2⟩|⟨i,hi,h1,h2,h3⟩
 ·rw[hsz] at h2
  have hB:RowB s c 0:=⟨Nat.zero_le _,fun j hj _ e=>h2 j hj (by rw[hg j hj,e];rfl),.inl rfl⟩
  have:=h.uniq hB
  omega
 ·rw[hsz] at hi h3
  rw[hg i hi] at h2
  have h4:byt s i=10:=by omega
  have hB:RowB s c (i+1):=⟨hi,fun j hj hij e=>h3 j (by omega) hj (by rw[hg j hj,e];rfl),.inr h4⟩
  have:=h.uniq hB
  omega
theorem get_ext (s:ByteArray) (c k:Nat):(s.extract c s.size).data.toList[k]?=s.data.toList[c+k]?:=by
 rw[Lib.extract_data,List.take_of_length_le (by rw[List.length_drop,Lib.size_eq];exact Nat.le_refl _),List.getElem?_drop]
theorem get_byt (s:ByteArray) (j:Nat):s.data.toList[j]?=some 10↔j<s.size∧byt s j=10:=by
 rw[byt_list,Lib.size_eq]
 constructor
 ·intro h
  have hl:=(List.getElem?_eq_some_iff.1 h).1
  exact ⟨hl,by simp[List.getD,h]⟩
 ·rintro ⟨hl,h⟩
  simp only[List.getD,List.getElem?_eq_getElem hl,Option.getD_some] at h
  rw[List.getElem?_eq_getElem hl]
  exact congrArg some (UInt8.toNat_inj.1 h)
theorem index_end (s:ByteArray) (c b:Nat) (h:RowE s c b) :
  (Lib.indexByte (s.extract c s.size).data.toList (10:Int).toNat.toUInt8=-1∧b=s.size)∨∃ n:Nat,Lib.indexByte (s.extract c s.size).data.toList (10:Int).toNat.toUInt8=(n:Int)∧c+n=b:=by
 have h10:(10:Int).toNat.toUInt8=10:=rfl
 rw[h10]
 obtain ⟨i,hi⟩:∃ i,Lib.indexByte (s.extract c s.size).data.toList 10=i:=⟨_,rfl⟩
 have hge:=Lib.indexByte_ge (s.extract c s.size).data.toList 10
 rw[hi] at hge ⊢
 by_cases h1:i=-1
 ·subst h1
  have hn:=Lib.indexByte_none hi
  refine .inl ⟨rfl,?_⟩
  rcases h.2.2.2 with h2|h2
  ·exact h2
  ·by_cases h3:b=s.size
   ·exact h3
   ·exfalso
    have:=hn (b-c)
    rw[get_ext,show c+(b-c)=b from by have:=h.1;omega] at this
    exact this ((get_byt s b).2 ⟨by have:=h.2.1;omega,h2⟩)
 ·obtain ⟨o,ho⟩:∃ o:Nat,i=(o:Int):=⟨i.toNat,by omega⟩
  subst ho
  obtain ⟨h2,h3⟩:=Lib.indexByte_some hi
  rw[get_ext] at h2
  have h4:=(get_byt s _).1 h2
  refine .inr ⟨o,rfl,?_⟩
  have hE:RowE s c (c+o):=by
   refine ⟨by omega,by omega,fun j hj hcj e=>?_,.inr h4.2⟩
   have:=h3 (j-c) (by omega)
   rw[get_ext,show c+(j-c)=j from by omega] at this
   exact this ((get_byt s j).2 ⟨by omega,e⟩)
  exact hE.uniq h
theorem clamp_is (c:Nat) (s:ByteArray) (at':Int) (w:World) (hs:s.size≤1099511627776) (h:clampN at' s.size=c) :
  Calls Tryz.prog 58 #[.string s,.int .i64 at'] w fun e w'=>e=.returned (.int .i64 (c:Int))∧w=w':=by
 have hx:min (max at' 0) (s.size:Int)=(c:Int):=by
  rw[←h];unfold clampN;omega
 clear h
 go_enter Tryz.func58,Tryz.ntmps58
 go_wp2
 go_ret
 exact ⟨rfl,rfl⟩
theorem begin_is (a:Nat) (s:ByteArray) (c:Nat) (w:World) (hs:s.size≤1099511627776) (hc:c≤s.size) (h:RowB s c a) :
  Calls Tryz.prog 59 #[.string s,.int .i64 (c:Int)] w fun e w'=>e=.returned (.int .i64 (a:Int))∧w=w':=by
 have hf:=last_begin s c a hc h
 have hsz:=size_take s c hc
 have ha:=h.1
 clear h
 obtain ⟨i,hi⟩:∃ i,i=Lib.lastIndexByte (s.extract 0 c) 10:=⟨_,rfl⟩
 rw[←hi] at hf
 have HI:=Lib.hid hi
 clear hi
 go_enter Tryz.func59,Tryz.ntmps59
 go_wp2_with fail
 refine (Tryz.strings_LastIndexByte (s.extract 0 c) 10 (by rw[hsz];omega) _).mono ?_
 rintro e w1 ⟨rfl,rfl⟩
 rw[←HI.out]
 go_wp2
 go_ret
 exact ⟨rfl,rfl⟩
set_option maxHeartbeats 400000 in
theorem Row_is (a b:Nat) (s:ByteArray) (at':Int) (w:World) (hs:s.size≤1099511627776) (hB:RowB s (clampN at' s.size) a) (hE:RowE s (clampN at' s.size) b) :
  Calls Tryz.prog 34 #[.string s,.int .i64 at'] w fun e w'=>e=.returned (.tuple #[.int .i64 (a:Int),.int .i64 (b:Int)])∧w=w':=by
 have hcs:=clampN_le at' s.size
 obtain ⟨c,hc⟩:∃ c,clampN at' s.size=c:=⟨_,rfl⟩
 rw[hc] at hB hE hcs
 have HC:=Lib.hid hc
 have HB:=Lib.hid hB
 have hb1:=hE.1
 have hb2:=hE.2.1
 obtain ⟨i,hi⟩:∃ i,i=Lib.indexByte (s.extract c s.size).data.toList (10:Int).toNat.toUInt8:=⟨_,rfl⟩
 have key:=index_end s c b hE
 rw[←hi] at key
 have HI:=Lib.hid hi
 clear hc hB hE hi
 rcases key with ⟨rfl,rfl⟩|⟨n,rfl,rfl⟩
 all_goals
  go_enter Tryz.func34,Tryz.ntmps34
  go_wp2_with fail
  refine (clamp_is c s at' _ hs HC.out).mono ?_
  rintro e w' ⟨rfl,rfl⟩
  go_wp2_with fail
  refine (Tryz.strings_IndexByte (s.extract c s.size) 10 _).mono ?_
  rintro e w1 ⟨rfl,rfl⟩
  rw[←HI.out]
  go_wp2_with fail
  refine (begin_is a s c _ hs hcs HB.out).mono ?_
  rintro e w' ⟨rfl,rfl⟩
  go_wp2
  go_ret2
  exact ⟨rfl,rfl⟩
set_option maxHeartbeats 400000 in
theorem rowsIn_is (a b n:Nat) (s:ByteArray) (at':Int) (w:World) (hs:s.size≤1099511627776) (hB:RowB s (clampN at' s.size) a) (hE:RowE s (clampN at' s.size) b) (hN:InN s a b n) :
  Calls Tryz.prog 142 #[.string s,.int .i64 at'] w fun e w'=>e=.returned (.int .i64 (n:Int))∧w=w':=by
 have h1:=hB.1
 have h2:=hE.1
 have h3:=hE.2.1
 have h4:=hN.1
 have HB:=Lib.hid hB
 have HE:=Lib.hid hE
 have HN:=Lib.hid hN
 clear hB hE hN
 go_enter Tryz.func142,Tryz.ntmps142
 go_wp2_with fail
 refine (Row_is a b s at' _ hs HB.out HE.out).mono ?_
 rintro e w' ⟨rfl,rfl⟩
 go_wp2
 go_loop [17] (fun i=>∃ k:Nat,i=.int .i64 (k:Int)∧k≤n) (fun i=>n-(intOf i).toNat)
 case atStart=>exact ⟨0,rfl,Nat.zero_le _⟩
 case round=>
  obtain ⟨k,rfl,hk⟩:=hrel
  by_cases hkb:a+k<b
  ·have hix:=run_byt s (a+k) (by omega) _ rfl
   push_cast at hix
   by_cases hkn:k<n
   ·have hb:=HN.out.2.1 k hkn
    rw[hb] at hix
    go_wp2
    go_round
    case rel=>exact ⟨k+1,by go_num,hkn⟩
    case measure=>simp[intOf];omega
   ·obtain rfl:k=n:=by omega
    have hb:=HN.out.2.2.resolve_left (by omega)
    obtain ⟨x,hx⟩:∃ x,x=byt s (a+k):=⟨_,rfl⟩
    rw[←hx] at hix hb
    have hxb:((x:Int)==32)=false:=by simp;omega
    clear hx hb
    go_wp2
    go_ret
    exact ⟨rfl,rfl⟩
  ·obtain rfl:k=n:=by omega
   have hk2:(b:Int)-(a:Int)=(k:Int):=by omega
   go_wp2
   go_ret
   exact ⟨rfl,rfl⟩
theorem Col_is (a c:Nat) (s:ByteArray) (at':Int) (w:World) (hs:s.size≤1099511627776) (hc:clampN at' s.size=c) (hB:RowB s c a) :
  Calls Tryz.prog 43 #[.string s,.int .i64 at'] w fun e w'=>e=.returned (.int .i64 ((c:Int)-(a:Int)))∧w=w':=by
 have hcs:=clampN_le at' s.size
 rw[hc] at hcs
 have h1:=hB.1
 have HC:=Lib.hid hc
 have HB:=Lib.hid hB
 clear hc hB
 go_enter Tryz.func43,Tryz.ntmps43
 go_wp2_with fail
 refine (clamp_is c s at' _ hs HC.out).mono ?_
 rintro e w' ⟨rfl,rfl⟩
 go_wp2_with fail
 refine (begin_is a s c _ hs hcs HB.out).mono ?_
 rintro e w' ⟨rfl,rfl⟩
 go_wp2
 go_ret
 exact ⟨rfl,rfl⟩
end Go.Proofs.YthcmkpiajkbpnaaGreatDoor
namespace Go.Proofs.YthcmkpiajkbpnaaGreatDoor
open Go.RowKit
theorem endc_ne {b:Nat} (h:b≠10):U.endc (b:Int)=U.white (b:Int):=by
 rw[white_endc]
 have:((b:Int)==10)=false:=by simp;omega
 rw[this,Bool.or_false]
theorem prefix3 (s:ByteArray) (ch:UInt8):Lib.hasPrefix s.data.toList [ch,ch,ch]=decide (3≤s.size∧byt s 0=ch.toNat∧byt s 1=ch.toNat∧byt s 2=ch.toNat):=by
 rw[byt_list,byt_list,byt_list,Lib.size_eq]
 unfold Lib.hasPrefix
 rw[Bool.eq_iff_iff,decide_eq_true_eq]
 rcases hl:s.data.toList with _|⟨x,_|⟨y,_|⟨z,t⟩⟩⟩
 ·simp
 ·simp[List.isPrefixOf]
 ·simp[List.isPrefixOf]
 ·simp only[List.isPrefixOf,Bool.and_eq_true,beq_iff_eq,List.length_cons,List.getD_cons_zero,List.getD_cons_succ,Bool.and_true]
  constructor
  ·rintro ⟨rfl,rfl,rfl⟩
   exact ⟨by omega,rfl,rfl,rfl⟩
  ·rintro ⟨_,h1,h2,h3⟩
   exact ⟨(UInt8.toNat_inj.1 h1).symm,(UInt8.toNat_inj.1 h2).symm,(UInt8.toNat_inj.1 h3).symm⟩
theorem marked_row (s:ByteArray) (a b:Nat) (ch:UInt8) (hab:a≤b) (hb:b≤s.size) (hn:∀ j,j<b→a≤j→byt s j≠10) :
  (Lib.hasPrefix (s.extract a b).data.toList [ch,ch,ch]&&endsB (s.extract a b) 3)=mk3 s a b ch.toNat:=by
 have hsz:=size_piece s a b hb
 rw[prefix3,hsz]
 unfold mk3
 by_cases h3:3≤b-a
 ·rw[byt_extract s a b 0 (by omega),byt_extract s a b 1 (by omega),byt_extract s a b 2 (by omega),Nat.add_zero]
  have he:endsB (s.extract a b) 3=decide (a+3=b∨U.white (byt s (a+3):Int)=true):=by
   by_cases h4:a+3=b
   ·rw[endsB_out _ _ (.inr (by rw[hsz];omega))]
    simp[h4]
   ·rw[show (3:Int)=((3:Nat):Int) from rfl,endsB_in _ 3 (by rw[hsz];omega),byt_extract s a b 3 (by omega),endc_ne (hn _ (by omega) (by omega))]
    simp[h4]
  rw[he,Bool.eq_iff_iff]
  simp only[Bool.and_eq_true,decide_eq_true_eq]
  constructor
  ·rintro ⟨⟨_,h5,h6,h7⟩,h8⟩;exact ⟨by omega,h5,h6,h7,h8⟩
  ·rintro ⟨_,h5,h6,h7,h8⟩;exact ⟨⟨h3,h5,h6,h7⟩,h8⟩
 ·rw[decide_eq_false (fun h=>h3 h.1),Bool.false_and,decide_eq_false (fun h=>h3 (by omega))]
theorem marked_is (q:Bool) (r m:ByteArray) (ch:UInt8) (w:World) (hr:r.size≤1099511627776) (hm:m.size=3) (hd:m.data.toList=[ch,ch,ch]) (h:(Lib.hasPrefix r.data.toList [ch,ch,ch]&&endsB r 3)=q) :
  Calls Tryz.prog 56 #[.string r,.string m] w fun e w'=>e=.returned (.bool q)∧w=w':=by
 obtain ⟨x,hx⟩:∃ x,Lib.hasPrefix r.data.toList [ch,ch,ch]=x:=⟨_,rfl⟩
 obtain ⟨y,hy⟩:∃ y,endsB r 3=y:=⟨_,rfl⟩
 rw[hx,hy] at h
 rw[←hd] at hx
 have HX:=Lib.hid hx
 have HY:=Lib.hid hy
 clear hx hy hd
 cases x with
 | true=>
  go_enter Tryz.func56,Tryz.ntmps56
  go_wp2_with fail
  refine (Tryz.strings_HasPrefix r m _).mono ?_
  rintro e w1 ⟨rfl,rfl⟩
  rw[HX.out]
  go_wp2_with fail
  refine (Ends_is y r 3 _ hr HY.out).mono ?_
  rintro e w1 ⟨rfl,rfl⟩
  go_wp2
  go_ret
  exact ⟨by rw[←h,Bool.true_and];rfl,rfl⟩
 | false=>
  go_enter Tryz.func56,Tryz.ntmps56
  go_wp2_with fail
  refine (Tryz.strings_HasPrefix r m _).mono ?_
  rintro e w1 ⟨rfl,rfl⟩
  rw[HX.out]
  go_wp2
  go_ret
  exact ⟨by rw[←h,Bool.false_and];rfl,rfl⟩
set_option maxHeartbeats 800000 in
theorem rowsKind_is (q:Int) (a b p:Nat) (s:ByteArray) (at':Int) (w:World) (hs:s.size≤1099511627776) (hB:RowB s (clampN at' s.size) a) (hE:RowE s (clampN at' s.size) b) (hF:FirN s a b p) (hq:kindN s a b p=q) :
  Calls Tryz.prog 32 #[.string s,.int .i64 at'] w fun e w'=>e=.returned (.int .i64 q)∧w=w':=by
 have h1:=hB.1
 have h2:=hE.1
 have h3:=hE.2.1
 have h4:=hF.1
 have h5:=hF.2.1
 have hn:∀ j,j<b→a≤j→byt s j≠10:=(hB.within hE (by omega) (Nat.le_refl _)).2.1
 have hsz:=size_piece s a b h3
 obtain ⟨x,hx⟩:∃ x,mk3 s a b 45=x:=⟨_,rfl⟩
 obtain ⟨y,hy⟩:∃ y,mk3 s a b 46=y:=⟨_,rfl⟩
 unfold kindN at hq
 rw[hx,hy] at hq
 have HX:=Lib.hid ((marked_row s a b 45 (by omega) h3 hn).trans hx)
 have HY:=Lib.hid ((marked_row s a b 46 (by omega) h3 hn).trans hy)
 have HB:=Lib.hid hB
 have HE:=Lib.hid hE
 have HF:=Lib.hid hF
 have HX3:∀ j,a+j<b→byt (s.extract a b) j=byt s (a+j):=fun j hj=>byt_extract s a b j hj
 have HX4:=Lib.hid HX3
 clear hx hy hB hE hF hn HX3
 obtain ⟨r,hr⟩:∃ r,r=s.extract a b:=⟨_,rfl⟩
 rw[←hr] at HX HY HX4 hsz
 have hrs:r.size≤1099511627776:=by omega
 have HR:=Lib.hid hr
 clear hr
 cases x with
 | true=>
  go_enter Tryz.func32,Tryz.ntmps32
  go_wp2_with fail
  refine (Row_is a b s at' _ hs HB.out HE.out).mono ?_
  rintro e w' ⟨rfl,rfl⟩
  go_wp2_with fail
  rw[←HR.out]
  refine (marked_is true r _ 45 _ hrs rfl rfl HX.out).mono ?_
  rintro e w' ⟨rfl,rfl⟩
  go_wp2
  go_ret
  exact ⟨by rw[←hq];rfl,rfl⟩
 | false=>
  cases y with
  | true=>
   go_enter Tryz.func32,Tryz.ntmps32
   go_wp2_with fail
   refine (Row_is a b s at' _ hs HB.out HE.out).mono ?_
   rintro e w' ⟨rfl,rfl⟩
   go_wp2_with fail
   rw[←HR.out]
   refine (marked_is false r _ 45 _ hrs rfl rfl HX.out).mono ?_
   rintro e w' ⟨rfl,rfl⟩
   go_wp2_with fail
   refine (marked_is true r _ 46 _ hrs rfl rfl HY.out).mono ?_
   rintro e w' ⟨rfl,rfl⟩
   go_wp2
   go_ret
   exact ⟨by rw[←hq];rfl,rfl⟩
  | false=>
   simp only[Bool.false_eq_true,if_false] at hq
   go_enter Tryz.func32,Tryz.ntmps32
   go_wp2_with fail
   refine (Row_is a b s at' _ hs HB.out HE.out).mono ?_
   rintro e w' ⟨rfl,rfl⟩
   go_wp2_with fail
   rw[←HR.out]
   refine (marked_is false r _ 45 _ hrs rfl rfl HX.out).mono ?_
   rintro e w' ⟨rfl,rfl⟩
   go_wp2_with fail
   refine (marked_is false r _ 46 _ hrs rfl rfl HY.out).mono ?_
   rintro e w' ⟨rfl,rfl⟩
   go_wp2
   go_loop [27] (fun i=>∃ k:Nat,i=.int .i64 (k:Int)∧a+k≤p) (fun i=>p-a-(intOf i).toNat)
   case atStart=>exact ⟨0,rfl,by omega⟩
   case round=>
    obtain ⟨k,rfl,hk⟩:=hrel
    by_cases hkb:a+k<b
    ·have hix:=run_byt r k (by omega) _ rfl
     rw[HX4.out k hkb] at hix
     by_cases hkn:a+k<p
     ·have hw:=HF.out.2.2.1 _ hkn (by omega)
      obtain ⟨x,hx⟩:∃ x,x=byt s (a+k):=⟨_,rfl⟩
      rw[←hx] at hix hw
      have HW:=Lib.hid hw
      clear hx hw hq
      go_wp2_with fail
      refine (White_is true _ _ HW.out).mono ?_
      rintro e w' ⟨rfl,rfl⟩
      go_wp2
      go_round
      case rel=>exact ⟨k+1,by go_num,by omega⟩
      case measure=>simp[intOf];omega
     ·have hkp:a+k=p:=by omega
      have hw:=HF.out.2.2.2.resolve_left (by omega)
      rw[if_neg (by omega),←hkp] at hq
      rw[←hkp] at hw
      obtain ⟨x,hx⟩:∃ x,x=byt s (a+k):=⟨_,rfl⟩
      rw[←hx] at hix hw hq
      have HW:=Lib.hid hw
      clear hx hw
      by_cases h35:x=35
      ·subst h35
       rw[if_pos rfl] at hq
       go_wp2_with fail
       refine (White_is false _ _ HW.out).mono ?_
       rintro e w' ⟨rfl,rfl⟩
       go_wp2
       go_ret
       exact ⟨by rw[←hq];rfl,rfl⟩
      ·rw[if_neg h35] at hq
       have hxb:((x:Int)==35)=false:=by simp;omega
       clear h35
       go_wp2_with fail
       refine (White_is false _ _ HW.out).mono ?_
       rintro e w' ⟨rfl,rfl⟩
       go_wp2
       go_ret
       exact ⟨by rw[←hq];rfl,rfl⟩
    ·rw[if_pos (by omega)] at hq
     go_wp2
     go_ret
     exact ⟨by rw[←hq];rfl,rfl⟩
theorem wl_lf {b:Nat} (h:b=10):wl b=true:=by subst h;rfl
theorem wl_other {b:Nat} (h:b≠10):wl b=U.white (b:Int):=by
 unfold wl;rw[decide_eq_false h,Bool.false_or]
set_option maxHeartbeats 800000 in
theorem rowsAbove_is (n c k:Nat) (s:ByteArray) (at':Int) (w:World) (hs:s.size≤1099511627776) (hc:clampN at' s.size=c) (h:Abv s c k n) :
  Calls Tryz.prog 73 #[.string s,.int .i64 at'] w fun e w'=>e=.returned (.int .i64 (n:Int))∧w=w':=by
 have hcs:=clampN_le at' s.size
 rw[hc] at hcs
 have h1:=h.1
 have HC:=Lib.hid hc
 have H:=Lib.hid h
 clear hc h
 go_enter Tryz.func73,Tryz.ntmps73
 go_wp2_with fail
 refine (clamp_is c s at' _ hs HC.out).mono ?_
 rintro e w' ⟨rfl,rfl⟩
 go_wp2
 go_loop [5,12] (fun vf vi=>∃ i f:Nat,vi=.int .i64 (i:Int)∧vf=.int .i64 (f:Int)∧i+k≤c∧f≤i∧Hid (f+lfs s (c-i)=lfs s c)) (fun _ vi=>c-k-(intOf vi).toNat)
 case atStart=>exact ⟨0,0,rfl,rfl,by omega,Nat.le_refl _,by show _=_;rw[Nat.zero_add,Nat.sub_zero]⟩
 case round=>
  obtain ⟨i,f,rfl,rfl,hi,hf,HF⟩:=hrel
  by_cases hic:i<c
  ·have hix:=run_byt s (c-1-i) (by omega) ((c:Int)-1-(i:Int)) (by omega)
   have hci:c-i=c-1-i+1:=by omega
   by_cases hik:i+k<c
   ·have hw:=H.out.2.1 (c-1-i) (by omega) (by omega)
    by_cases hlf:byt s (c-1-i)=10
    ·have HN:Hid (f+1+lfs s (c-(i+1))=lfs s c):=by
      show _=_
      have h2:=HF.out
      rw[hci,lfs_lf hlf] at h2
      rw[show c-(i+1)=c-1-i from by omega]
      omega
     rw[hlf] at hix
     clear HF hw hci
     go_wp2
     go_round
     case rel=>exact ⟨i+1,f+1,by go_num,by go_num,by omega,by omega,HN⟩
     case measure=>simp[intOf];omega
    ·have HN:Hid (f+lfs s (c-(i+1))=lfs s c):=by
      show _=_
      have h2:=HF.out
      rw[hci,lfs_other hlf] at h2
      rw[show c-(i+1)=c-1-i from by omega]
      exact h2
     rw[wl_other hlf] at hw
     obtain ⟨x,hx⟩:∃ x,x=byt s (c-1-i):=⟨_,rfl⟩
     rw[←hx] at hix hw hlf
     have hxb:((x:Int)==10)=false:=by simp;omega
     have HW:=Lib.hid hw
     clear HF hw hci hx hlf
     go_wp2_with fail
     refine (White_is true _ _ HW.out).mono ?_
     rintro e w' ⟨rfl,rfl⟩
     go_wp2
     go_round
     case rel=>exact ⟨i+1,f,by go_num,rfl,by omega,by omega,HN⟩
     case measure=>simp[intOf];omega
   ·have hk:k=c-1-i+1:=by omega
    obtain ⟨_,hw,hn⟩:=H.out.2.2.resolve_left (by omega)
    rw[show k-1=c-1-i from by omega] at hw
    have hlf:byt s (c-1-i)≠10:=fun e=>by rw[wl_lf e] at hw;cases hw
    rw[wl_other hlf] at hw
    have h2:=HF.out
    rw[hci,←hk] at h2
    have hnf:n=f-1:=by omega
    obtain ⟨x,hx⟩:∃ x,x=byt s (c-1-i):=⟨_,rfl⟩
    rw[←hx] at hix hw hlf
    have hxb:((x:Int)==10)=false:=by simp;omega
    have HW:=Lib.hid hw
    have hmx:max ((f:Int)-1) 0=(n:Int):=by omega
    clear HF hw hci hx hlf hn h2 hk hnf
    go_wp2_with fail
    refine (White_is false _ _ HW.out).mono ?_
    rintro e w' ⟨rfl,rfl⟩
    go_wp2
    go_ret
    exact ⟨rfl,rfl⟩
  ·have hi2:i=c:=by omega
   have hk0:k=0:=by omega
   have hn:n=lfs s c:=by
    rcases H.out.2.2 with h2|h2
    ·exact h2.2
    ·omega
   have h2:=HF.out
   rw[hi2,Nat.sub_self] at h2
   have h0:lfs s 0=0:=rfl
   have hnf:n=f:=by omega
   subst hnf
   clear hn h2 h0 HF
   go_wp2
   go_ret
   exact ⟨rfl,rfl⟩
end Go.Proofs.YthcmkpiajkbpnaaGreatDoor
namespace Go.Proofs.YthcmkpiajkbpnaaGreatDoor
open Go.RowKit
def hRest (s:ByteArray):Nat→Nat × Nat × Nat→Nat × Nat × Nat
 | 0,x=>x
 | k+1,x=>hRest s k (hStep s x)
theorem hStep_dig {s:ByteArray} {p c:Nat} (h:p<s.size) (h1:49≤byt s p) (h2:byt s p≤57):hStep s (p,0,c)=(p+1,byt s p-48,c):=by
 unfold hStep
 dsimp only
 rw[if_pos h,if_pos ⟨rfl,h1,h2⟩]
theorem hStep_sgn {s:ByteArray} {p d:Nat} (h:p<s.size) (h1:byt s p=43∨byt s p=45):hStep s (p,d,0)=(p+1,d,byt s p):=by
 unfold hStep
 dsimp only
 rw[if_pos h,if_neg (by omega),if_pos ⟨rfl,h1⟩]
theorem hStep_none {s:ByteArray} {p d c:Nat} (h1:¬ (d=0∧49≤byt s p∧byt s p≤57)) (h2:¬ (c=0∧(byt s p=43∨byt s p=45))):hStep s (p,d,c)=(p,d,c):=by
 unfold hStep
 dsimp only
 by_cases h:p<s.size
 ·rw[if_pos h,if_neg h1,if_neg h2]
 ·rw[if_neg h]
end Go.Proofs.YthcmkpiajkbpnaaGreatDoor
namespace Go.Proofs.YthcmkpiajkbpnaaGreatDoor
open Go.RowKit
theorem OutC.form {B:Nat} {w:World} {v:Value} {cs:List (List UInt8 × Nat)} (h:OutC B w v cs):∃ ao cap,v=.slice ao cs.length cap:=by
 rcases h.2 with ⟨rfl,hn⟩|⟨g,cap,cur,rfl,_⟩
 ·exact ⟨none,0,by rw[hn]⟩
 ·exact ⟨_,_,rfl⟩
end Go.Proofs.YthcmkpiajkbpnaaGreatDoor
namespace Go.Proofs.YthcmkpiajkbpnaaGreatDoor
open Go.RowKit
instance (s:ByteArray) (a b x:Nat):Decidable (TabN s a b x):=by unfold TabN;infer_instance
instance (s:ByteArray) (a b:Nat):Decidable (NoTab s a b):=by unfold NoTab;infer_instance
end Go.Proofs.YthcmkpiajkbpnaaGreatDoor
