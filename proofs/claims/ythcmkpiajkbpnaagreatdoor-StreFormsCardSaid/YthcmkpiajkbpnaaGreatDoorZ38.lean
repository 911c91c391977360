/- Parts of the proof, put together from smaller texts (blanks that Lean does not want are struck). Conditions: those that each theorem writes out. -/
import Derived.Deep.CutBlock
import Derived.Deep.DeepCutAuto
import Derived.Deep.LoopGhost
import Derived.Great.BuildSlice
import Derived.KernelRfl
import Derived.Laws.CopyRow
import Derived.Laws.Tables
import Derived.Test.YthcmkpiajkbpnaaGreatDoorZ00
import Derived.Test.YthcmkpiajkbpnaaGreatDoorZ03
import Derived.Test.YthcmkpiajkbpnaaGreatDoorZ07
import Derived.Test.YthcmkpiajkbpnaaGreatDoorZ08
import Derived.Test.YthcmkpiajkbpnaaGreatDoorZ37
namespace Go.Proofs.YthcmkpiajkbpnaaGreatDoor
open Go.RowKit
def TabsE (w:World):Prop:=Lib.Utf8Tabs 1 2 w
end Go.Proofs.YthcmkpiajkbpnaaGreatDoor
namespace Go.Proofs.YthcmkpiajkbpnaaGreatDoor
open Go.RowKit
def FilN (s:ByteArray) (p q:Nat):Prop:=p≤q∧q≤s.size∧(∀ j,j<q→p≤j→byt s j=32∨byt s j=10)∧(q=s.size∨(byt s q≠32∧byt s q≠10))
theorem FilN.ex (s:ByteArray) (p:Nat) (h:p≤s.size):∃ q,FilN s p q:=by
 obtain ⟨q,h1,h2,h3,h4⟩:=run_ex (fun j=>byt s j=32∨byt s j=10) _ p s.size (Nat.le_refl _) h
 refine ⟨q,h1,h2,h3,?_⟩
 rcases h4 with h4|h4
 ·exact .inl h4
 ·exact .inr ⟨fun e=>h4 (.inl e),fun e=>h4 (.inr e)⟩
def FilR (s:ByteArray) (n:Int) (w p q:Nat):Prop:=
 (q=s.size∧w=s.size+1)∨(q<s.size∧∃ a b f i,p≤a∧RowB s a a∧RowB s q a∧RowE s a b∧RowE s q b∧InN s a b i∧FirN s a b f∧a+i=q∧q<b∧w=if n<(i:Int)∧kindN s a b f≠3∧kindN s a b f≠4 then i else s.size+1)
theorem RowB.next {s:ByteArray} {p b:Nat} (hb:RowE s p b) (h:b<s.size):RowB s (b+1) (b+1):=
 ⟨Nat.le_refl _,fun j h1 h2=>by omega,.inr (by rw[Nat.add_sub_cancel];exact hb.2.2.2.resolve_left (by omega))⟩
theorem WZ.fil {s:ByteArray} {n:Int} {w p:Nat} (h:WZ s n w p):(p<s.size→RowB s p p)→p≤s.size→∀ q,FilN s p q→FilR s n w p q:=by
 induction h with
 | over h1 h2=>
  intro _ hp q hq
  have:=hq.1
  have:=hq.2.1
  exact .inl ⟨by omega,h2⟩
 | @blank p b i h1 hb hi hib hw ih=>
  intro hB hp q hq
  have hb1:=hb.1
  have hb2:=hb.2.1
  have hin:∀ j,j<b→p≤j→byt s j=32:=fun j g1 g2=>by
   have:=hi.2.1 (j-p) (by omega)
   rwa [show p+(j-p)=j by omega] at this
  have hqb:b≤q:=by
   refine Decidable.byContradiction fun hc=>?_
   have h3:=hin q (by omega) hq.1
   rcases hq.2.2.2 with h4|h4
   ·omega
   ·exact h4.1 h3
  by_cases hbs:b<s.size
  ·have h10:=hb.2.2.2.resolve_left (by omega)
   have hq2:FilN s (b+1) q:=by
    refine ⟨?_,hq.2.1,fun j g1 g2=>hq.2.2.1 j g1 (by omega),hq.2.2.2⟩
    refine Decidable.byContradiction fun hc=>?_
    have e:q=b:=by omega
    rcases hq.2.2.2 with h4|h4
    ·omega
    ·exact h4.2 (by rw[e];exact h10)
   rcases ih (fun _=>RowB.next hb hbs) (by omega) q hq2 with h3|⟨h3,a,b',f,i',g1,g⟩
   ·exact .inl h3
   ·exact .inr ⟨h3,a,b',f,i',by omega,g⟩
  ·have hq1:=hq.2.1
   refine .inl ⟨by omega,?_⟩
   cases hw with
   | over _ e=>exact e
   | blank h3=>omega
   | text h3=>omega
 | @text p b i f h1 hb hi hf hib hw=>
  intro hB hp q hq
  have hb1:=hb.1
  have hb2:=hb.2.1
  have hi1:=hi.1
  have h32:=hi.2.2.resolve_left hib
  have h10:=hb.2.2.1 (p+i) (by omega) (by omega)
  have e:q=p+i:=by
   by_cases g1:q<p+i
   ·have h3:=hi.2.1 (q-p) (by have:=hq.1;omega)
    rw[show p+(q-p)=q by have:=hq.1;omega] at h3
    rcases hq.2.2.2 with h4|h4
    ·omega
    ·exact absurd h3 h4.1
   ·by_cases g2:p+i<q
    ·rcases hq.2.2.1 (p+i) g2 (by omega) with h3|h3
     ·exact absurd h3 h32
     ·exact absurd h3 h10
    ·omega
  have hBp:=hB h1
  refine .inr ⟨by omega,p,b,f,i,Nat.le_refl _,hBp,⟨by omega,fun j g1 g2=>hb.2.2.1 j (by omega) g2,hBp.2.2⟩,hb,hb.from (by omega) (by omega),hi,hf,e.symm,by omega,hw⟩
inductive FarZ (s:ByteArray) (w a:Nat):Nat→Option Nat→Prop
 | over {p}:a≤p→FarZ s w a p none
 | far {p b}:p<a→RowE s p b→w<b-p→FarZ s w a p (some (p+w))
 | next {p b x}:p<a→RowE s p b→b-p≤w→FarZ s w a (b+1) x→FarZ s w a p x
inductive GZ (s:ByteArray) (w:Nat) (R':List (List UInt8)) (L' h' E:Nat):Nat→List (List UInt8)→Nat→Nat→Prop
 | over {p R L h}:s.size≤p→R'=R→L'=L→h'=h→E=s.size→GZ s w R' L' h' E p R L h
 | stop {p b i q R L h}:p<s.size→RowE s p b→InN s p b i→FirN s p b q→p+i≠b→(i<w∨kindN s p b q=3∨kindN s p b q=4)→R'=R→L'=L→h'=h→E=p→GZ s w R' L' h' E p R L h
 | row {p b i q R L h}:p<s.size→RowE s p b→InN s p b i→FirN s p b q→(p+i=b∨(p+i≠b∧w≤i∧kindN s p b q≠3∧kindN s p b q≠4)) →
   GZ s w R' L' h' E (b+1) (R++[rowT s p b w]) (if w<b-p then R.length+1 else L) (if w<b-p then b else h)→GZ s w R' L' h' E p R L h
theorem BZ.gz {s:ByteArray} {d c w:Nat} {fo:Bool} {T:List UInt8} {E:Nat} {C:Int} {p L h:Nat} {R:List (List UInt8)} {f:Bool} (H:BZ s d c w fo T E C p R L h f) :
  (f=false∨d≠0∨s.size<w)→C=0∧∃ R' L' h',GZ s w R' L' h' E p R L h∧T=bTxt c fo R' L' (lfs s E-lfs s h'):=by
 induction H with
 | over h1 h2 h3 h4=>intro _;exact ⟨h4,_,_,_,.over h1 rfl rfl rfl h3,by rw[h3];exact h2⟩
 | stop h1 h2 h3 h4 h5 h6 h7 h8 h9=>intro _;exact ⟨h9,_,_,_,.stop h1 h2 h3 h4 h5 h6 rfl rfl rfl h8,by rw[h8];exact h7⟩
 | far h1 h2 h3 h4 h5 h6 h7=>intro hf;rcases hf with hf|hf|hf;exact absurd hf (by decide);exact absurd h5 hf;omega
 | row h1 h2 h3 h4 h5 h6 ih=>
  intro hf
  obtain ⟨g1,R',L',h',g2,g3⟩:=ih (hf.imp_left (fun e=>by rw[e];rfl))
  refine ⟨g1,R',L',h',.row h1 h2 h3 h4 ?_ g2,g3⟩
  rcases h5 with h5|h5
  ·exact .inl h5.1
  ·exact .inr h5
theorem BZ.split {s:ByteArray} {d c w:Nat} {fo:Bool} {T:List UInt8} {E:Nat} {C:Int} {p L h:Nat} {R:List (List UInt8)} {f:Bool} (H:BZ s d c w fo T E C p R L h f) :
  ∀ a b i,f=true→d=0→w≤s.size→p≤a→a<s.size→RowB s a a→RowE s a b→InN s a b i→a+i≠b→(∀ j,j<a→p≤j→byt s j=32∨byt s j=10) →
   (∃ x,FarZ s w a p (some x)∧E=x∧C=5)∨(FarZ s w a p none∧C=0∧∃ R' L' h',GZ s w R' L' h' E p R L h∧T=bTxt c fo R' L' (lfs s E-lfs s h')):=by
 have blank:∀ {p b i a:Nat},RowE s p b→InN s p b i→p<a→a<s.size→RowB s a a→(∀ j,j<a→p≤j→byt s j=32∨byt s j=10)→b<a∧p+i=b:=by
  intro p b i a hb hi hpa has ha hall
  have hba:b<a:=by
   refine Decidable.byContradiction fun hc=>?_
   rcases ha.2.2 with h0|h0
   ·omega
   ·exact hb.2.2.1 (a-1) (by omega) (by omega) h0
  refine ⟨hba,Decidable.byContradiction fun hc=>?_⟩
  have hi1:=hi.1
  rcases hall (p+i) (by omega) (by omega) with h3|h3
  ·exact absurd h3 (hi.2.2.resolve_left hc)
  ·exact hb.2.2.1 (p+i) (by omega) (by omega) h3
 induction H with
 | over h1 h2 h3 h4=>intro a b i _ _ _ hpa has;omega
 | @stop p b' i' q R L h f h1 h2 h3 h4 h5 h6 h7 h8 h9=>
  intro a b i hf hd hw hpa has ha hb hi hib hall
  have hap:a≤p:=by
   refine Decidable.byContradiction fun hc=>h5 (blank h2 h3 (by omega) has ha hall).2
  exact .inr ⟨.over hap,h9,_,_,_,.stop h1 h2 h3 h4 h5 h6 rfl rfl rfl h8,by rw[h8];exact h7⟩
 | @far p b' i' R L h h1 h2 h3 h4 h5 h6 h7 h8 h9 h10=>
  intro a b i hf hd hw hpa has ha hb hi hib hall
  have hpa2:p<a:=by
   refine Decidable.byContradiction fun hc=>?_
   obtain rfl:p=a:=by omega
   obtain rfl:=hb.uniq h2
   obtain rfl:=hi.uniq h3
   exact hib h4
  exact .inl ⟨p+w,.far hpa2 h2 (by omega),h9,h10⟩
 | @row p b' i' q R L h f h1 h2 h3 h4 h5 h6 ih=>
  intro a b i hf hd hw hpa has ha hb hi hib hall
  by_cases hpa2:p<a
  ·obtain ⟨g1,g2⟩:=blank h2 h3 hpa2 has ha hall
   have h5':¬ (f=true∧d=0∧w≤s.size∧w<i'):=by
    rcases h5 with h5|h5
    ·exact h5.2
    ·exact absurd g2 h5.1
   have hwi:b'-p≤w:=by
    refine Decidable.byContradiction fun hc=>h5' ⟨hf,hd,hw,by omega⟩
   have hff:(f&&decide (p+i'=b'))=true:=by rw[hf,decide_eq_true g2];rfl
   rcases ih a b i hff hd hw (by omega) has ha hb hi hib (fun j k1 k2=>hall j k1 (by have:=h2.1;omega)) with ⟨x,k1,k2⟩|⟨k1,k2,R',L',h',k3,k4⟩
   ·exact .inl ⟨x,.next hpa2 h2 hwi k1,k2⟩
   ·exact .inr ⟨.next hpa2 h2 hwi k1,k2,R',L',h',.row h1 h2 h3 h4 (.inl g2) k3,k4⟩
  ·obtain rfl:p=a:=by omega
   obtain rfl:=hb.uniq h2
   obtain rfl:=hi.uniq h3
   have h5':=h5.resolve_left (fun e=>hib e.1)
   have hff:(f&&decide (p+i=b))=false:=by rw[decide_eq_false hib,Bool.and_false]
   obtain ⟨g1,R',L',h',g2,g3⟩:=h6.gz (.inl hff)
   exact .inr ⟨.over (Nat.le_refl _),g1,R',L',h',.row h1 h2 h3 h4 (.inr h5') g2,g3⟩
theorem rowT_nil {s:ByteArray} {p b w:Nat} (h:¬ w<b-p):rowT s p b w=[]:=by unfold rowT;rw[if_neg h]
theorem rowT_ne {s:ByteArray} {p b w:Nat} (h:w<b-p) (hb:b≤s.size):rowT s p b w≠[]:=by
 unfold rowT
 rw[if_pos h]
 intro e
 have:=piece_len (s:=s) (p:=p+w) (q:=b) hb
 rw[e,List.length_nil] at this
 omega
theorem rowT_len {s:ByteArray} {p b w:Nat} (hb:b≤s.size):(rowT s p b w).length≤b-p:=by
 unfold rowT
 split
 ·rw[piece_len hb];omega
 ·exact Nat.zero_le _
theorem GZ.clip {s:ByteArray} {R':List (List UInt8)} {L' h' E p L h:Nat} {R:List (List UInt8)} (H:GZ s (s.size+1) R' L' h' E p R L h):1≤p→GZ s s.size R' L' h' E p R L h:=by
 induction H with
 | over h1 h2 h3 h4 h5=>intro _;exact .over h1 h2 h3 h4 h5
 | stop h1 h2 h3 h4 h5 h6 h7 h8 h9 h10=>
  intro hp
  have:=h2.2.1
  have:=h3.1
  exact .stop h1 h2 h3 h4 h5 (.inl (by omega)) h7 h8 h9 h10
 | row h1 h2 h3 h4 h5 h6 ih=>
  intro hp
  have k1:=h2.2.1
  have k2:=h2.1
  have k3:=ih (by omega)
  rw[rowT_nil (by omega),if_neg (by omega),if_neg (by omega)] at k3
  refine .row h1 h2 h3 h4 (h5.imp_right fun e=>?_) ?_
  ·have:=h3.1
   omega
  ·rw[rowT_nil (by omega),if_neg (by omega),if_neg (by omega)]
   exact k3
def CntN (R:List (List UInt8)) (k L:Nat):Prop:=L≤k∧(∀ j,L≤j→j<k→R.getD j []=[])∧(L=0∨R.getD (L-1) []≠[])
theorem CntN.uniq {R:List (List UInt8)} {k L M:Nat} (h1:CntN R k L) (h2:CntN R k M):L=M:=by
 obtain ⟨a1,a2,a3⟩:=h1
 obtain ⟨b1,b2,b3⟩:=h2
 by_cases g1:L<M
 ·exact absurd (a2 (M-1) (by omega) (by omega)) (b3.resolve_left (by omega))
 ·by_cases g2:M<L
  ·exact absurd (b2 (L-1) (by omega) (by omega)) (a3.resolve_left (by omega))
  ·omega
theorem CntN.step {R:List (List UInt8)} {k L:Nat} (h:CntN R k L):CntN R (k+1) (if R.getD k []=[] then L else k+1):=by
 obtain ⟨a1,a2,a3⟩:=h
 split
 ·rename_i h
  refine ⟨by omega,fun j g1 g2=>?_,a3⟩
  by_cases e:j=k
  ·rw[e];exact h
  ·exact a2 j g1 (by omega)
 ·rename_i h
  exact ⟨Nat.le_refl _,fun j g1 g2=>by omega,.inr h⟩
theorem getD_snoc (R:List (List UInt8)) (r:List UInt8) (j:Nat):(R++[r]).getD j []=if j<R.length then R.getD j [] else if j=R.length then r else []:=by
 split
 ·rename_i h
  simp[List.getD,List.getElem?_append_left h]
 ·rename_i h
  split
  ·rename_i h2
   subst h2
   simp[List.getD]
  ·rename_i h2
   simp only[List.getD]
   rw[List.getElem?_eq_none (by rw[List.length_append];simp;omega)]
   rfl
structure GI (s:ByteArray) (a p:Nat) (R:List (List UInt8)) (L h:Nat):Prop where
 le:p≤s.size+1
 tot:a+U.tot R≤p
 cnt:CntN R R.length L
 lf:p≤s.size→lfs s p=lfs s a+R.length
 hd:(L=0∧h=a)∨(0<L∧lfs s h=lfs s a+(L-1))
 hp:a≤h∧h≤p∧h≤s.size
theorem GI.begin {s:ByteArray} {a:Nat} (h:a≤s.size):GI s a a [] 0 a:=
 ⟨by omega,Nat.le_refl _,⟨Nat.le_refl _,fun j _ h=>absurd h (Nat.not_lt_zero _),.inl rfl⟩,fun _=>rfl,.inl ⟨rfl,rfl⟩,⟨Nat.le_refl _,Nat.le_refl _,h⟩⟩
theorem GI.next {s:ByteArray} {a p b w:Nat} {R:List (List UInt8)} {L h:Nat} (H:GI s a p R L h) (hp:p<s.size) (hb:RowE s p b) :
  GI s a (b+1) (R++[rowT s p b w]) (if w<b-p then R.length+1 else L) (if w<b-p then b else h):=by
 have hb1:=hb.1
 have hb2:=hb.2.1
 have hl:=rowT_len (s:=s) (p:=p) (w:=w) hb2
 have ht:=H.tot
 have hlb:lfs s b=lfs s a+R.length:=by rw[lfs_same b hb1 hb.2.2.1];exact H.lf (by omega)
 have hh:=H.hp
 refine ⟨by omega,?_,?_,fun hbs=>?_,?_,?_⟩
 ·rw[U.tot_append]
  simp only[U.tot]
  omega
 ·rw[List.length_append,List.length_singleton]
  have hc:=H.cnt
  by_cases hw:w<b-p
  ·rw[if_pos hw]
   refine ⟨Nat.le_refl _,fun j g1 g2=>by omega,.inr ?_⟩
   rw[Nat.add_sub_cancel,getD_snoc,if_neg (Nat.lt_irrefl _),if_pos rfl]
   exact rowT_ne hw hb2
  ·rw[if_neg hw]
   refine ⟨by have:=hc.1;omega,fun j g1 g2=>?_,hc.2.2.imp_right fun e=>?_⟩
   ·rw[getD_snoc,rowT_nil hw]
    split
    ·exact hc.2.1 j g1 (by assumption)
    ·split <;> rfl
   ·rw[getD_snoc]
    by_cases h0:L=0
    ·subst h0
     split
     ·exact e
     ·rename_i h1
      simp only[Nat.zero_sub] at e h1
      exfalso
      refine e ?_
      simp only[List.getD]
      rw[List.getElem?_eq_none (by omega)]
      rfl
    ·rw[if_pos (by have:=hc.1;omega)]
     exact e
 ·have h10:=hb.2.2.2.resolve_left (by omega)
  rw[lfs_lf h10,hlb,List.length_append,List.length_singleton,Nat.add_assoc]
 ·by_cases hw:w<b-p
  ·rw[if_pos hw,if_pos hw]
   exact .inr ⟨by omega,by rw[hlb,Nat.add_sub_cancel]⟩
  ·rw[if_neg hw,if_neg hw]
   exact H.hd
 ·by_cases hw:w<b-p
  ·rw[if_pos hw]
   omega
  ·rw[if_neg hw]
   omega
theorem GZ.facts {s:ByteArray} {w:Nat} {R':List (List UInt8)} {L' h' E p L h a:Nat} {R:List (List UInt8)} (H:GZ s w R' L' h' E p R L h):GI s a p R L h →
  (p≤E∨s.size<p)∧E≤s.size∧a≤E∧U.tot R'≤s.size+1∧CntN R' R'.length L'∧((L'=0∧h'=a)∨(0<L'∧lfs s h'=lfs s a+(L'-1)))∧a≤h'∧h'≤E:=by
 induction H with
 | over h1 h2 h3 h4 h5=>
  intro g
  subst h2 h3 h4 h5
  have:=g.hp
  have:=g.tot
  have:=g.le
  exact ⟨by omega,Nat.le_refl _,by omega,by omega,g.cnt,g.hd,by omega,by omega⟩
 | stop h1 h2 h3 h4 h5 h6 h7 h8 h9 h10=>
  intro g
  subst h7 h8 h9 h10
  have:=g.hp
  have:=g.tot
  exact ⟨.inl (Nat.le_refl _),by omega,by omega,by omega,g.cnt,g.hd,by omega,by omega⟩
 | row h1 h2 h3 h4 h5 h6 ih=>
  intro g
  have k:=ih (g.next h1 h2)
  have k1:=h2.1
  have k2:=h2.2.1
  refine ⟨?_,k.2⟩
  rcases k.1 with k3|k3
  ·exact .inl (by omega)
  ·refine .inl ?_
   cases h6 with
   | over _ _ _ _ e=>omega
   | stop e=>omega
   | row e=>omega
end Go.Proofs.YthcmkpiajkbpnaaGreatDoor
namespace Go.Proofs.YthcmkpiajkbpnaaGreatDoor
open Go.RowKit
set_option maxHeartbeats 800000 in
theorem blocClone_is (s:ByteArray) (w:World) (hs:s.size≤1099511627776) :
  Calls Tryz.prog 62 #[.string s] w fun e w'=>e=.returned (.string s)∧Below w.heap.size w w':=by
 go_enter Tryz.func62,Tryz.ntmps62
 go_wp2_with fail
 refine (Tryz.stringslite_Clone s _ (by omega)).mono ?_
 rintro e w1 ⟨rfl,b1⟩
 go_wp2
 go_ret
 exact ⟨rfl,b1⟩
theorem results_tmp3 {fn:Func} {t u v:Tmp} (h:fn.results=#[.tmp t,.tmp u,.tmp v]) (tmps:Array Value) (P:Program) (w:World) :
  (results fn tmps).run P w=.ok (.tuple #[tmps.getD t undef,tmps.getD u undef,tmps.getD v undef]) w:=by
 simp[results,h,go_sem]
def hdrA (d c:Nat) (h:Bool) (note:List UInt8):Array Value:=#[.int .i64 (d:Int),.int .u8 (c:Int),.bool h,.string ⟨note.toArray⟩]
theorem blocRest {s:ByteArray} (R:ByteArray) (p q t:Nat) (hR:R=s.extract 0 t) (ht:t≤s.size) (hF:FirN s p t q):Lib.trimLeftS (R.extract p R.size).data.toList [32,9]=pieceL s q t:=by
 subst hR
 have h1:=hF.1
 have h2:=hF.2.1
 have e:(s.extract 0 t).extract p (s.extract 0 t).size=s.extract p t:=by
  rw[ByteArray.extract_extract,ByteArray.size_extract]
  congr 1 <;> omega
 rw[e,piece_ext]
 exact trim_piece ht hF
theorem headB (l:List UInt8):Lib.hasPrefix l [35]=true∧(∃ r,l=35 :: r∧Lib.trimPrefix l [35]=r)∨Lib.hasPrefix l [35]=false∧l.head?≠some 35∧Lib.trimPrefix l [35]=l:=by
 cases l with
 | nil=>exact .inr ⟨rfl,by simp,rfl⟩
 | cons b r=>
  by_cases h:b=35
  ·subst h
   have e:Lib.hasPrefix (35 :: r) [35]=true:=by simp[Lib.hasPrefix]
   refine .inl ⟨e,r,rfl,?_⟩
   unfold Lib.trimPrefix
   rw[e,if_pos rfl]
   rfl
  ·have e:Lib.hasPrefix (b :: r) [35]=false:=by
    have h2:((35:UInt8)==b)=false:=beq_eq_false_iff_ne.2 (Ne.symm h)
    unfold Lib.hasPrefix
    rw[List.isPrefixOf,h2,Bool.false_and]
   refine .inr ⟨e,by simpa using h,?_⟩
   unfold Lib.trimPrefix
   rw[e]
   rfl
theorem mkl_data (l:List UInt8):(⟨l.toArray⟩:ByteArray).data.toList=l:=by simp
def hdr0:Array Value:=#[.int .i64 0,.int .u8 0,.bool false,.string ⟨#[]⟩]
theorem size_row {s R:ByteArray} {t:Nat} (hR:R=s.extract 0 t) (ht:t≤s.size):R.size=t:=by rw[hR,ByteArray.size_extract];omega
theorem piece_head {s:ByteArray} {q t:Nat} (hq:q<t) (ht:t≤s.size):∃ b r,pieceL s q t=b :: r∧b.toNat=byt s q∧r=pieceL s (q+1) t:=by
 have hlen:q<s.data.toList.length:=by rw[←Lib.size_eq];omega
 refine ⟨s.data.toList[q],pieceL s (q+1) t,?_,?_,rfl⟩
 ·unfold pieceL
  rw[List.drop_eq_getElem_cons hlen,show t-q=(t-(q+1))+1 by omega,List.take_succ_cons]
 ·rw[byt_list]
  simp[List.getD,List.getElem?_eq_getElem hlen]
set_option maxRecDepth 100000 in
set_option maxHeartbeats 800000 in
theorem readTrail_bad (d c:Nat) (h0:Bool) (N0 R s:ByteArray) (p q t:Nat) (w:World) (hs:s.size≤1099511627776) (hR:R=s.extract 0 t) (ht:t≤s.size) (hF:FirN s p t q) (hqt:q<t) (hb:¬ (byt s q=35∧p<q)) :
  Calls Tryz.prog 139 #[.agg #[.int .i64 (d:Int),.int .u8 (c:Int),.bool h0,.string N0],.string R,.int .i64 (p:Int)] w fun e w'=>e=.returned (.tuple #[.agg hdr0,.int .i64 (q:Int),.int .i64 5])∧Below w.heap.size w w':=by
 have hRs:=size_row hR ht
 have hp1:=hF.1
 have hTL:=blocRest R p q t hR ht hF
 obtain ⟨b,r,hbr,hbq,hr⟩:=piece_head hqt ht
 have hZl:=piece_len (s:=s) (p:=q) (q:=t) ht
 obtain ⟨Z,hZ⟩:∃ Z:ByteArray,(⟨(pieceL s q t).toArray⟩:ByteArray)=Z:=⟨_,rfl⟩
 have hZs:Z.size=t-q:=by rw[←hZ,size_mk,hZl]
 have hZd:Z.data.toList=pieceL s q t:=by rw[←hZ,mkl_data]
 have CT:=fun W=>quotTrimL Z (R.extract p t) W (by rw[hRs] at hTL;rw[hTL];exact hZ)
 have CC:=fun W=>Tryz.strings_CutPrefix Z ⟨#[35]⟩ W
 rw[hZd,show (⟨#[35]⟩:ByteArray).data.toList=[35] from rfl] at CC
 obtain ⟨X,hX⟩:∃ X:ByteArray,(⟨(Lib.trimPrefix (pieceL s q t) [35]).toArray⟩:ByteArray)=X:=⟨_,rfl⟩
 obtain ⟨hp,hhp⟩:∃ hp,Lib.hasPrefix (pieceL s q t) [35]=hp:=⟨_,rfl⟩
 have hcase:hp=false∨(hp=true∧p=q):=by
  rcases headB (pieceL s q t) with ⟨h1,⟨r2,h2,_⟩⟩|⟨h1,_⟩
  ·rw[hbr] at h2
   have hb35:b=35:=(List.cons.inj h2).1
   refine .inr ⟨by rw[←hhp];exact h1,?_⟩
   refine Decidable.byContradiction fun hc=>hb ⟨by rw[←hbq,hb35];rfl,by omega⟩
  ·exact .inl (by rw[←hhp];exact h1)
 rw[hX,hhp] at CC
 have hZe:Z.toList.isEmpty=false:=by rw[Lib.toList_data,hZd,hbr];rfl
 have hsub:(t:Int)-(Z.size:Int)=(q:Int):=by omega
 have hz0:∀ W:World,W.heap[w.heap.size+1]?=some (.cells hdr0 125 (0,0))→∀ j,W.cell? ⟨w.heap.size+1,j,none⟩=hdr0[j]?:=fun W hW j=>cell_of_row W _ j _ _ _ hW
 have hx0:((w.alloc (.cells #[.int .i64 (d:Int),.int .u8 (c:Int),.bool h0,.string N0] 125)).alloc (.cells hdr0 125)).heap[w.heap.size+1]?=some (.cells hdr0 125 (0,0)):=by
  have:=heap_alloc_new (w.alloc (.cells #[.int .i64 (d:Int),.int .u8 (c:Int),.bool h0,.string N0] 125)) (.cells hdr0 125)
  rwa [show (w.alloc (.cells #[.int .i64 (d:Int),.int .u8 (c:Int),.bool h0,.string N0] 125)).heap.size=w.heap.size+1 by simp] at this
 have hbA:Below w.heap.size w ((w.alloc (.cells #[.int .i64 (d:Int),.int .u8 (c:Int),.bool h0,.string N0] 125)).alloc (.cells hdr0 125)):=((Below.refl _ _).alloc (Nat.le_refl _) _).alloc (by simp) _
 unfold hdr0 at hbA
 have HB:=Lib.hid hb
 clear hZs hb hF hTL hbr hbq hr hZl hZ hZd hX hhp hR
 go_enter Tryz.func139,Tryz.ntmps139
 go_wp2_with fail
 refine (CT _).mono ?_
 rintro e w1 ⟨rfl,hb1⟩
 go_wp2_with fail
 refine (CC _).mono ?_
 rintro e w2 ⟨rfl,rfl⟩
 have hx1:=(hb1.block (w.heap.size+1) (by simp)).trans hx0
 have hb1':=hbA.trans (hb1.mono hbA.size)
 have hz1:=hz0 w2 hx1
 rcases hcase with rfl|⟨rfl,rfl⟩
 ·go_wp2_with (first|(refine wpList_buildTo rfl 125 #[] rfl (some 38) rfl hdr0 (by kernel_rfl) ?_)|(refine wpList_store_row rfl 125 _ _ rfl (w.heap.size+1) hdr0 rfl rfl 125 hdr0 hx1 (by kernel_rfl) rfl (by kernel_rfl) ?_;rw[setRow_self _ _ _ _ _ hx1]))
  refine bodyPost_ret (v:=.tuple #[.agg hdr0,.int .i64 (q:Int),.int .i64 5]) (by simp[results,Tryz.results139,go_sem,hz1,hdr0]) rfl ?_
  exact ⟨rfl,hb1'⟩
 ·go_wp2_with (first|(refine wpList_buildTo rfl 125 #[] rfl (some 38) rfl hdr0 (by kernel_rfl) ?_)|(refine wpList_store_row rfl 125 _ _ rfl (w.heap.size+1) hdr0 rfl rfl 125 hdr0 hx1 (by kernel_rfl) rfl (by kernel_rfl) ?_;rw[setRow_self _ _ _ _ _ hx1]))
  refine bodyPost_ret (v:=.tuple #[.agg hdr0,.int .i64 (p:Int),.int .i64 5]) (by simp[results,Tryz.results139,go_sem,hz1,hdr0]) rfl ?_
  exact ⟨rfl,hb1'⟩
set_option maxRecDepth 100000 in
set_option maxHeartbeats 800000 in
theorem readTrail_good (d c:Nat) (h:Bool) (note:List UInt8) (R s:ByteArray) (p q t:Nat) (w:World) (hs:s.size≤1099511627776) (hR:R=s.extract 0 t) (ht:t≤s.size) (hF:FirN s p t q) (hN:NotZ s p t q h note) :
  Calls Tryz.prog 139 #[.agg #[.int .i64 (d:Int),.int .u8 (c:Int),.bool false,.string ⟨#[]⟩],.string R,.int .i64 (p:Int)] w fun e w'=>e=.returned (.tuple #[.agg (hdrA d c h note),.int .i64 0,.int .i64 0])∧Below w.heap.size w w':=by
 have hRs:=size_row hR ht
 have hp1:=hF.1
 have hp2:=hF.2.1
 have hTL:=blocRest R p q t hR ht hF
 have hZl:=piece_len (s:=s) (p:=q) (q:=t) ht
 obtain ⟨Z,hZ⟩:∃ Z:ByteArray,(⟨(pieceL s q t).toArray⟩:ByteArray)=Z:=⟨_,rfl⟩
 have hZs:Z.size=t-q:=by rw[←hZ,size_mk,hZl]
 have hZd:Z.data.toList=pieceL s q t:=by rw[←hZ,mkl_data]
 have CT:=fun W=>quotTrimL Z (R.extract p t) W (by rw[hRs] at hTL;rw[hTL];exact hZ)
 have CC:=fun W=>Tryz.strings_CutPrefix Z ⟨#[35]⟩ W
 rw[hZd,show (⟨#[35]⟩:ByteArray).data.toList=[35] from rfl] at CC
 obtain ⟨Xl,hXl⟩:∃ Xl,Lib.trimPrefix (pieceL s q t) [35]=Xl:=⟨_,rfl⟩
 obtain ⟨X,hX⟩:∃ X:ByteArray,(⟨Xl.toArray⟩:ByteArray)=X:=⟨_,rfl⟩
 obtain ⟨hp,hhp⟩:∃ hp,Lib.hasPrefix (pieceL s q t) [35]=hp:=⟨_,rfl⟩
 have hXs:X.size≤1099511627776:=by
  rw[←hX,size_mk,←hXl]
  rcases headB (pieceL s q t) with ⟨_,⟨r2,h2,h3⟩⟩|⟨_,_,h3⟩
  ·rw[h3]
   rw[h2,List.length_cons] at hZl
   omega
  ·rw[h3];omega
 have hcase:(Z.toList.isEmpty=true∧hp=false∧h=false∧Lib.trimRightS X.data.toList [32,9]=note)∨(Z.toList.isEmpty=false∧hp=true∧h=true∧p<q∧Lib.trimRightS X.data.toList [32,9]=note):=by
  have hXd:X.data.toList=Xl:=by rw[←hX,mkl_data]
  rw[hXd,Lib.toList_data,hZd]
  rcases hN with ⟨rfl,rfl,rfl⟩|⟨h1,h2,h3,rfl,e,hE,rfl⟩
  ·have h0:pieceL s q q=[]:=List.eq_nil_of_length_eq_zero (by omega)
   rw[h0] at hhp hXl ⊢
   subst hhp hXl
   exact .inl ⟨rfl,rfl,rfl,rfl⟩
  ·obtain ⟨b,r,hbr,hbq,hr⟩:=piece_head h1 ht
   have hb35:b=35:=UInt8.toNat_inj.1 (by rw[hbq,h2];rfl)
   subst hb35
   rw[hbr] at hhp hXl ⊢
   rcases headB (35 :: r) with ⟨g1,⟨r2,g2,g3⟩⟩|⟨_,g2,_⟩
   ·refine .inr ⟨rfl,by rw[←hhp];exact g1,rfl,h3,?_⟩
    rw[←hXl,g3,←(List.cons.inj g2).2,hr]
    exact trim_tail ht hE
   ·exact absurd rfl g2
 have hnl:note.length≤1099511627776:=by
  have key:∀ l:List UInt8,(Lib.trimRightS l [32,9]).length≤l.length:=fun l=>by
   unfold Lib.trimRightS
   rw[List.length_reverse]
   exact Nat.le_trans (List.dropWhile_sublist _).length_le (by rw[List.length_reverse];exact Nat.le_refl _)
  have:=key X.data.toList
  rw[Lib.size_eq] at hXs
  rcases hcase with g|g
  ·rw[←g.2.2.2];omega
  ·rw[←g.2.2.2.2];omega
 have hcase2:Lib.trimRightS X.data.toList [32,9]=note:=by
  rcases hcase with g|g
  ·exact g.2.2.2
  ·exact g.2.2.2.2
 have CR:=fun W=>quotTrimR note X W (by omega) hcase2
 obtain ⟨NB,hNB⟩:∃ NB:ByteArray,(⟨note.toArray⟩:ByteArray)=NB:=⟨_,rfl⟩
 have hNBs:NB.size≤1099511627776:=by rw[←hNB,size_mk];exact hnl
 have hcase3:(Z.toList.isEmpty=true∧hp=false∧h=false)∨(Z.toList.isEmpty=false∧hp=true∧h=true∧p<q):=by
  rcases hcase with g|g
  ·exact .inl ⟨g.1,g.2.1,g.2.2.1⟩
  ·exact .inr ⟨g.1,g.2.1,g.2.2.1,g.2.2.2.1⟩
 rw[hXl,hX,hhp] at CC
 rw[hNB] at CR
 have hsub:(t:Int)-(Z.size:Int)=(q:Int):=by omega
 obtain ⟨W0,hW0⟩:∃ W0,W0=(w.alloc (.cells #[.int .i64 (d:Int),.int .u8 (c:Int),.bool false,.string ⟨#[]⟩] 125)).alloc (.cells #[.int .i64 0,.int .u8 0,.bool false,.string ⟨#[]⟩] 125):=⟨_,rfl⟩
 have hbA:Below w.heap.size w W0:=by rw[hW0];exact ((Below.refl _ _).alloc (Nat.le_refl _) _).alloc (by simp) _
 have hx0:W0.heap[w.heap.size+1]?=some (.cells hdr0 125 (0,0)):=by
  have:=heap_alloc_new (w.alloc (.cells #[.int .i64 (d:Int),.int .u8 (c:Int),.bool false,.string ⟨#[]⟩] 125)) (.cells hdr0 125)
  rw[show (w.alloc (.cells #[.int .i64 (d:Int),.int .u8 (c:Int),.bool false,.string ⟨#[]⟩] 125)).heap.size=w.heap.size+1 by simp] at this
  rw[hW0]
  exact this
 have hy0:W0.heap[w.heap.size]?=some (.cells (hdrA d c false []) 125 (0,0)):=by
  rw[hW0]
  exact (heap_alloc_old _ _ (by simp)).trans (heap_alloc_new w _)
 have hW0s:W0.heap.size=w.heap.size+2:=by rw[hW0];simp
 have HNB:=Lib.hid hNB
 clear hZs hF hTL hZl hZ hZd hX hXl hhp hR hN hcase hcase2 hNB hXs hnl
 go_enter Tryz.func139,Tryz.ntmps139
 go_wp2_with fail
 rw[←hW0]
 refine (CT _).mono ?_
 rintro e w1 ⟨rfl,hb1⟩
 go_wp2_with fail
 refine (CC _).mono ?_
 rintro e w2 ⟨rfl,rfl⟩
 have hx1:=(hb1.block (w.heap.size+1) (by omega)).trans hx0
 have hy1:=(hb1.block w.heap.size (by omega)).trans hy0
 have hb1':=hbA.trans (hb1.mono hbA.size)
 have hs1:=hb1.size
 clear hx0 hy0 hb1 hbA
 have c1:w2.cell? ⟨w.heap.size,2,none⟩=some (.bool false):=by rw[cell_of_row w2 _ 2 _ _ _ hy1];rfl
 have z1:w2.frozen? ⟨w.heap.size,2,none⟩=false:=frozen_of_row w2 _ 2 _ _ hy1
 have hcase4:(Z.toList.isEmpty=true∧hp=false∧h=false)∨(Z.toList.isEmpty=false∧hp=true∧h=true∧((q:Int)==(p:Int))=false):=by
  rcases hcase3 with g|⟨g1,g2,g3,g4⟩
  ·exact .inl g
  ·exact .inr ⟨g1,g2,g3,by simp;omega⟩
 have x2:=fun v=>heap_setCell_same w2 w.heap.size 2 (hdrA d c false []) 125 v hy1
 have y2:=fun v=>(heap_setCell_other w2 ⟨w.heap.size,2,none⟩ (w.heap.size+1) v (by show w.heap.size+1≠w.heap.size;omega)).trans hx1
 have b2:∀ v,Below w.heap.size w (w2.setCell ⟨w.heap.size,2,none⟩ v):=fun v=>hb1'.setCell (by show w.heap.size≤w.heap.size;omega) _
 have s2:∀ v,(w2.setCell ⟨w.heap.size,2,none⟩ v).heap.size=w2.heap.size:=fun v=>by simp[World.setCell]
 have X2:=Lib.hid x2
 have Y2:=Lib.hid y2
 have B2:=Lib.hid b2
 have S2:=Lib.hid s2
 clear hcase3 x2 y2 b2 s2 hx1 hy1 hb1'
 rcases hcase4 with ⟨g1,rfl,rfl⟩|⟨g1,rfl,rfl,g2⟩
 ·skip
  go_wp2_with fail
  refine (CR _).mono ?_
  rintro e w3 ⟨rfl,hb3⟩
  go_wp2_with fail
  refine (blocClone_is NB _ hNBs).mono ?_
  rintro e w4 ⟨rfl,hb4⟩
  have x3:=X2.out (.bool false)
  have y3:=Y2.out (.bool false)
  have b3:=B2.out (.bool false)
  have s3:=S2.out (.bool false)
  have x4:w4.heap[w.heap.size]?=some (.cells #[.int .i64 (d:Int),.int .u8 (c:Int),.bool false,.string ⟨#[]⟩] 125 (0,0)):=(hb4.block _ (by have:=hb3.size;omega)).trans ((hb3.block _ (by omega)).trans x3)
  have y4:w4.heap[w.heap.size+1]?=some (.cells hdr0 125 (0,0)):=(hb4.block _ (by have:=hb3.size;omega)).trans ((hb3.block _ (by omega)).trans y3)
  have b4:Below w.heap.size w w4:=(b3.trans (hb3.mono (by omega))).trans (hb4.mono (by have:=hb3.size;omega))
  have c4:w4.cell? ⟨w.heap.size,3,none⟩=some (.string ⟨#[]⟩):=by rw[cell_of_row w4 _ 3 _ _ _ x4];rfl
  have z4:w4.frozen? ⟨w.heap.size,3,none⟩=false:=frozen_of_row w4 _ 3 _ _ x4
  have x5:(w4.setCell ⟨w.heap.size,3,none⟩ (.string NB)).heap[w.heap.size]?=some (.cells #[.int .i64 (d:Int),.int .u8 (c:Int),.bool false,.string NB] 125 (0,0)):=heap_setCell_same w4 w.heap.size 3 _ _ _ x4
  have y5:(w4.setCell ⟨w.heap.size,3,none⟩ (.string NB)).heap[w.heap.size+1]?=some (.cells hdr0 125 (0,0)):=(heap_setCell_other w4 ⟨w.heap.size,3,none⟩ (w.heap.size+1) _ (by show w.heap.size+1≠w.heap.size;omega)).trans y4
  have b5:Below w.heap.size w (w4.setCell ⟨w.heap.size,3,none⟩ (.string NB)):=b4.setCell (by show w.heap.size≤w.heap.size;omega) _
  clear x3 y3 b3 s3 x4 y4 b4 hb3 hb4 X2 Y2 B2 S2 hs1 CR CC CT
  go_upto_region 8 with fail
  obtain ⟨W5,hW5⟩:∃ W5,W5=w4.setCell ⟨w.heap.size,3,none⟩ (.string NB):=⟨_,rfl⟩
  rw[←hW5] at x5 y5 b5 ⊢
  clear hW5 c4 z4
  have hcx:∀ j,W5.cell? ⟨w.heap.size,j,none⟩=(#[.int .i64 (d:Int),.int .u8 (c:Int),.bool false,.string NB]:Array Value)[j]?:=fun j=>cell_of_row W5 _ j _ _ _ x5
  have hcz:∀ j,(W5.setRow (w.heap.size+1) #[.int .i64 (d:Int),.int .u8 (c:Int),.bool false,.string NB]).cell? ⟨w.heap.size+1,j,none⟩=(#[.int .i64 (d:Int),.int .u8 (c:Int),.bool false,.string NB]:Array Value)[j]?:=fun j=>cell_of_row _ _ j _ _ _ (setRow_heap W5 (w.heap.size+1) hdr0 _ _ _ y5)
  have hbr:Below w.heap.size w (W5.setRow (w.heap.size+1) #[.int .i64 (d:Int),.int .u8 (c:Int),.bool false,.string NB]):=b5.trans ⟨rfl,rfl,rfl,by simp[World.setRow],fun k hk=>setRow_other W5 _ k _ (by omega)⟩
  go_wp2_with (refine wpList_store_row rfl 125 _ _ rfl (w.heap.size+1) #[.int .i64 (d:Int),.int .u8 (c:Int),.bool false,.string NB] rfl rfl 125 hdr0 y5 (by kernel_rfl) rfl (by kernel_rfl) ?_)
  obtain ⟨W6,hW6⟩:∃ W6,W6=W5.setRow (w.heap.size+1) #[.int .i64 (d:Int),.int .u8 (c:Int),.bool false,.string NB]:=⟨_,rfl⟩
  rw[←hW6] at hcz hbr ⊢
  clear hW6
  refine bodyPost_ret (v:=.tuple #[.agg #[.int .i64 (d:Int),.int .u8 (c:Int),.bool false,.string NB],.int .i64 0,.int .i64 0]) (by simp[results,Tryz.results139,go_sem,hcz]) rfl ?_
  exact ⟨by rw[←HNB.out];rfl,hbr⟩
 ·skip
  go_wp2_with fail
  refine (CR _).mono ?_
  rintro e w3 ⟨rfl,hb3⟩
  go_wp2_with fail
  refine (blocClone_is NB _ hNBs).mono ?_
  rintro e w4 ⟨rfl,hb4⟩
  have x3:=X2.out (.bool true)
  have y3:=Y2.out (.bool true)
  have b3:=B2.out (.bool true)
  have s3:=S2.out (.bool true)
  have x4:w4.heap[w.heap.size]?=some (.cells #[.int .i64 (d:Int),.int .u8 (c:Int),.bool true,.string ⟨#[]⟩] 125 (0,0)):=(hb4.block _ (by have:=hb3.size;omega)).trans ((hb3.block _ (by omega)).trans x3)
  have y4:w4.heap[w.heap.size+1]?=some (.cells hdr0 125 (0,0)):=(hb4.block _ (by have:=hb3.size;omega)).trans ((hb3.block _ (by omega)).trans y3)
  have b4:Below w.heap.size w w4:=(b3.trans (hb3.mono (by omega))).trans (hb4.mono (by have:=hb3.size;omega))
  have c4:w4.cell? ⟨w.heap.size,3,none⟩=some (.string ⟨#[]⟩):=by rw[cell_of_row w4 _ 3 _ _ _ x4];rfl
  have z4:w4.frozen? ⟨w.heap.size,3,none⟩=false:=frozen_of_row w4 _ 3 _ _ x4
  have x5:(w4.setCell ⟨w.heap.size,3,none⟩ (.string NB)).heap[w.heap.size]?=some (.cells #[.int .i64 (d:Int),.int .u8 (c:Int),.bool true,.string NB] 125 (0,0)):=heap_setCell_same w4 w.heap.size 3 _ _ _ x4
  have y5:(w4.setCell ⟨w.heap.size,3,none⟩ (.string NB)).heap[w.heap.size+1]?=some (.cells hdr0 125 (0,0)):=(heap_setCell_other w4 ⟨w.heap.size,3,none⟩ (w.heap.size+1) _ (by show w.heap.size+1≠w.heap.size;omega)).trans y4
  have b5:Below w.heap.size w (w4.setCell ⟨w.heap.size,3,none⟩ (.string NB)):=b4.setCell (by show w.heap.size≤w.heap.size;omega) _
  clear x3 y3 b3 s3 x4 y4 b4 hb3 hb4 X2 Y2 B2 S2 hs1 CR CC CT
  go_upto_region 8 with fail
  obtain ⟨W5,hW5⟩:∃ W5,W5=w4.setCell ⟨w.heap.size,3,none⟩ (.string NB):=⟨_,rfl⟩
  rw[←hW5] at x5 y5 b5 ⊢
  clear hW5 c4 z4
  have hcx:∀ j,W5.cell? ⟨w.heap.size,j,none⟩=(#[.int .i64 (d:Int),.int .u8 (c:Int),.bool true,.string NB]:Array Value)[j]?:=fun j=>cell_of_row W5 _ j _ _ _ x5
  have hcz:∀ j,(W5.setRow (w.heap.size+1) #[.int .i64 (d:Int),.int .u8 (c:Int),.bool true,.string NB]).cell? ⟨w.heap.size+1,j,none⟩=(#[.int .i64 (d:Int),.int .u8 (c:Int),.bool true,.string NB]:Array Value)[j]?:=fun j=>cell_of_row _ _ j _ _ _ (setRow_heap W5 (w.heap.size+1) hdr0 _ _ _ y5)
  have hbr:Below w.heap.size w (W5.setRow (w.heap.size+1) #[.int .i64 (d:Int),.int .u8 (c:Int),.bool true,.string NB]):=b5.trans ⟨rfl,rfl,rfl,by simp[World.setRow],fun k hk=>setRow_other W5 _ k _ (by omega)⟩
  go_wp2_with (refine wpList_store_row rfl 125 _ _ rfl (w.heap.size+1) #[.int .i64 (d:Int),.int .u8 (c:Int),.bool true,.string NB] rfl rfl 125 hdr0 y5 (by kernel_rfl) rfl (by kernel_rfl) ?_)
  obtain ⟨W6,hW6⟩:∃ W6,W6=W5.setRow (w.heap.size+1) #[.int .i64 (d:Int),.int .u8 (c:Int),.bool true,.string NB]:=⟨_,rfl⟩
  rw[←hW6] at hcz hbr ⊢
  clear hW6
  refine bodyPost_ret (v:=.tuple #[.agg #[.int .i64 (d:Int),.int .u8 (c:Int),.bool true,.string NB],.int .i64 0,.int .i64 0]) (by simp[results,Tryz.results139,go_sem,hcz]) rfl ?_
  exact ⟨by rw[←HNB.out];rfl,hbr⟩
end Go.Proofs.YthcmkpiajkbpnaaGreatDoor
