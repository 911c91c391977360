/- Parts of the proof, put together from smaller texts (blanks that Lean does not want are struck). Conditions: those that each theorem writes out. -/
import Derived.Test.YthcmkpiajkbpnaaGreatDoorZ19
import Derived.Test.YthcmkpiajkbpnaaGreatDoorZ20
namespace Go.Proofs.YthcmkpiajkbpnaaGreatDoor
open Go.RowKit
theorem leaf_kind {s:ByteArray} {n:Int} {d q:Nat} {x:NT × Nat} (h:leafR s n d false q (.ok x)):(x.1.h.kind=2↔isB s q 42=true):=by
 unfold leafR at h
 split at h
 ·rename_i h42
  rw[if_neg (by decide)] at h
  obtain ⟨A,E,C,_,h⟩:=h
  split at h
  ·injection h with h;subst h;exact ⟨fun _=>h42,fun _=>rfl⟩
  ·cases h
 ·rename_i h42
  refine ⟨fun hk=>?_,fun e=>absurd e h42⟩
  exfalso
  split at h
  ·obtain ⟨T,E,O,C,_,h⟩:=h
   split at h
   ·injection h with h;subst h;cases hk
   ·cases h
  ·split at h
   ·obtain ⟨y,E,C,hZ,h⟩:=h
    cases y with
    | none=>cases h
    | some y=>
     injection h with h;subst h
     unfold FlowZ at hZ
     split at hZ
     ·obtain ⟨g,o,hc,hm⟩:=hZ
      cases o with
      | bad p c=>cases hm.1
      | ok r=>
       obtain ⟨e1,_,_⟩:=hm
       injection e1 with e1;subst e1
       cases g with
       | zero=>exact hc.elim
       | succ g=>
        rcases hc with ⟨_,e⟩|⟨_,hc⟩
        ·cases e
        ·rcases hc with ⟨_,_,_,e⟩|⟨b,_,hc⟩
         ·cases e
         ·rcases hc with ⟨_,_,_,e⟩|⟨z,_,e⟩
          ·cases e
          ·injection e with e
           rw[e] at hk
           have hk:(if isB s ((q:Int)).toNat 91=true then (3:Int) else 4)=2:=hk
           split at hk <;> cases hk
     ·cases hZ.1
   ·split at h
    ·obtain ⟨st,T,hd,t,E,C,_,h⟩:=h
     split at h
     ·injection h with h;subst h;cases hk
     ·cases h
    ·split at h
     ·obtain ⟨T,E,O,C,_,h⟩:=h
      split at h
      ·injection h with h;subst h;cases hk
      ·cases h
     ·cases h
theorem key_way {s:ByteArray} {p t q E:Nat} {o:Option Nat} (ht:RowE s p t) (hqt:q<t) (hpq:p≤q) (hw:U.white (byt s q:Int)=false) (hm:markB s q 58=false)
  (h:if isB s q 42=true then (if p<E then o=none else ∃ A E C,AliZ s (q:Int) A E C∧if C≠0 then o=none else colonR s t E.toNat o)
   else if isB s q 34=true∨isB s q 39=true then ∃ T E O C,QuoZ (cutB s t) (q:Int) (-1) T E O C∧if C≠0 then o=none else colonR s t E.toNat o
   else if isB s q 91=true∨isB s q 123=true then ∃ x E C,FlowZ (cutB s t) (q:Int) (-1) 0 x E C∧match x with
    | none=>o=none
    | some _=>colonR s t E.toNat o
   else if begB s (q:Int) false=true then ∃ e,ParN s false q e∧colonR s t e o
   else colonR s t q o) :
  ∃ lo,leafR (cutB s t) (-1) 0 false q lo∧match lo with
   | .bad _ _=>o=none
   | .ok x=>x.2≤t∧if isB s q 42=true∧p<E then o=none else colonR s t x.2 o:=by
 have hsz:=cutB_size ht.2.1
 have h1:=ht.2.1
 have cb:∀ c,isB (cutB s t) q c=isB s q c:=fun c=>cut_isB ht hqt
 unfold leafR
 simp only[cb]
 by_cases h42:isB s q 42=true
 ·simp only[if_pos h42] at h ⊢
  simp only[if_neg (by decide:¬ (false=true))]
  by_cases hpE:p<E
  ·rw[if_pos hpE] at h
   obtain ⟨A,E2,C,hZ⟩:=AliZ.ex (cutB s t) (q:Int)
   obtain ⟨E3,rfl,hE3⟩:∃ E3:Nat,E2=(E3:Int)∧E3≤t:=by
    rcases hZ.far_le with ⟨_,E4,rfl,_,h5⟩|⟨_,h5⟩
    ·exact ⟨E4,rfl,by omega⟩
    ·exact ⟨q,by omega,by omega⟩
   refine ⟨_,⟨A,_,C,hZ,rfl⟩,?_⟩
   rw[Int.toNat_natCast]
   split
   ·rename_i e
    split at e
    ·cases e
    ·exact h
   ·rename_i x e
    split at e
    ·injection e with e
     subst e
     exact ⟨hE3,by rw[if_pos ⟨h42,hpE⟩];exact h⟩
    ·cases e
  ·rw[if_neg hpE] at h
   obtain ⟨A,E2,C,hZ,h⟩:=h
   have hZ2:=cut_ali ht hqt hZ
   obtain ⟨E3,rfl,hE3⟩:∃ E3:Nat,E2=(E3:Int)∧E3≤t:=by
    rcases hZ2.far_le with ⟨_,E4,rfl,_,h5⟩|⟨_,h5⟩
    ·exact ⟨E4,rfl,by omega⟩
    ·exact ⟨q,by omega,by omega⟩
   refine ⟨_,⟨A,_,C,hZ2,rfl⟩,?_⟩
   rw[Int.toNat_natCast] at h ⊢
   by_cases hC:C=0
   ·rw[if_pos hC]
    rw[if_neg (by omega)] at h
    exact ⟨hE3,by rw[if_neg (fun e=>hpE e.2)];exact h⟩
   ·rw[if_neg hC]
    rw[if_pos hC] at h
    exact h
 simp only[if_neg h42] at h ⊢
 have n42:∀ x,¬ (isB s q 42=true∧x):=fun x e=>h42 e.1
 by_cases hqq:isB s q 34=true∨isB s q 39=true
 ·simp only[if_pos hqq] at h ⊢
  obtain ⟨T,E2,O,C,hZ,h⟩:=h
  obtain ⟨E3,rfl,_,h5⟩:=hZ.far_le (by omega) (by rw[cutB_byt hqt];rcases hqq with e|e;exact .inr (isB_lt e).2;exact .inl (isB_lt e).2)
  refine ⟨_,⟨T,_,O,C,hZ,rfl⟩,?_⟩
  rw[Int.toNat_natCast] at h ⊢
  by_cases hC:C=0
  ·rw[if_pos hC]
   rw[if_neg (by omega)] at h
   exact ⟨by show E3≤t;omega,by rw[if_neg (n42 _)];exact h⟩
  ·rw[if_neg hC]
   rw[if_pos hC] at h
   exact h
 simp only[if_neg hqq] at h ⊢
 by_cases hbr:isB s q 91=true∨isB s q 123=true
 ·simp only[if_pos hbr] at h ⊢
  obtain ⟨x,E2,C,hZ,h⟩:=h
  cases x with
  | none=>exact ⟨_,⟨none,E2,C,hZ,rfl⟩,h⟩
  | some x=>
   obtain ⟨E3,rfl,_,h5,_⟩:=hZ.far
   refine ⟨_,⟨some x,_,C,hZ,rfl⟩,?_⟩
   have h:colonR s t (E3:Int).toNat o:=h
   rw[Int.toNat_natCast] at h
   show (E3:Int).toNat≤t∧_
   rw[Int.toNat_natCast]
   exact ⟨by omega,by rw[if_neg (n42 _)];exact h⟩
 simp only[if_neg hbr] at h ⊢
 have fin:colonR s t q o→o=none:=fun h=>by
  unfold colonR at h
  rw[if_neg (by omega)] at h
  obtain ⟨q2,hq2,h⟩:=h
  have:q2=q:=by
   have:=hq2.1
   refine Decidable.byContradiction fun hn=>?_
   have:=hq2.2.2.1 q (by omega) (Nat.le_refl _)
   rw[hw] at this
   cases this
  rw[this,hm,if_neg (by decide)] at h
  exact h
 have fin2:o=none→colonR s t t o:=fun h=>by
  unfold colonR
  rw[if_neg (by omega)]
  refine ⟨t,⟨Nat.le_refl _,Nat.le_refl _,fun j j1 j2=>by omega,.inl rfl⟩,?_⟩
  rw[h,if_neg]
  intro hmt
  unfold markB at hmt
  rw[Bool.and_eq_true] at hmt
  have:=isB_lt hmt.1
  rcases ht.2.2.2 with e|e <;> omega
 have hbe:=cut_beg ht hqt
 by_cases hbl:isB s q 124=true∨isB s q 62=true
 ·simp only[if_pos hbl]
  have hnb:¬ (begB s (q:Int) false=true):=fun e=>by
   obtain ⟨_,_,_,h4,_⟩:=beg_not e
   rcases hbl with hb|hb
   ·exact h4 124 (by simp) (isB_lt hb).2
   ·exact h4 62 (by simp) (isB_lt hb).2
  rw[if_neg hnb] at h
  have ho:=fin h
  obtain ⟨st,T,hd,nt,E2,C,hZ⟩:=BlocZ.ex (cutB s t) (q:Int) (-1)
  have hbc:blocB (cutB s t) (q:Int)=true:=by
   unfold blocB
   rw[Int.toNat_natCast,cutB_byt hqt,decide_eq_true_eq]
   exact ⟨by omega,by omega,hbl.imp (fun e=>(isB_lt e).2) fun e=>(isB_lt e).2⟩
  have hE:∃ E3:Nat,E2=(E3:Int)∧(C=0→E3=t):=by
   rcases hZ with ⟨_,hI⟩|⟨e,_⟩
   ·rw[Int.toNat_natCast] at hI
    obtain ⟨t',q',p',d,c,_,ht',_,hI⟩:=hI
    have ht2:t'=t:=by
     have h3:=ht'.1
     have h4:=ht'.2.1
     rw[hsz] at h4
     refine Decidable.byContradiction fun hn=>?_
     rcases ht'.2.2.2 with h|h
     ·omega
     ·rw[cutB_byt (show t'<t by omega)] at h
      exact ht.2.2.1 t' (by omega) (by omega) h
    rcases hI with ⟨_,_,rfl,rfl⟩|⟨_,_,w,E',rfl,_,hB⟩
    ·exact ⟨_,rfl,fun e=>by cases e⟩
    ·refine ⟨_,rfl,fun _=>?_⟩
     rw[hsz,ht2,Nat.min_eq_right (by omega)] at hB
     cases hB with
     | over _ _ e _=>rw[e,hsz]
     | stop g _ _ _ _ _ _ _ _=>omega
     | far g _ _ _ _ _ _ _ _ _=>omega
     | row g _ _ _ _ _=>omega
   ·rw[hbc] at e;cases e
  obtain ⟨E3,rfl,hE3⟩:=hE
  refine ⟨_,⟨st,T,hd,nt,_,C,hZ,rfl⟩,?_⟩
  rw[Int.toNat_natCast]
  by_cases hC:C=0
  ·rw[if_pos hC]
   exact ⟨by show E3≤t;rw[hE3 hC];exact Nat.le_refl _,by rw[if_neg (n42 _)];show colonR s t E3 o;rw[hE3 hC];exact fin2 ho⟩
  ·rw[if_neg hC]
   exact ho
 simp only[if_neg hbl]
 by_cases hbg:begB s (q:Int) false=true
 ·rw[if_pos hbg] at h
  obtain ⟨e,hP,h⟩:=h
  obtain ⟨hZ,het⟩:=cut_plain ht hpq hqt hbg hP
  simp only[if_pos (show begB (cutB s t) (q:Int) false=true by rw[hbe];exact hbg)]
  refine ⟨_,⟨_,_,true,0,hZ,rfl⟩,?_⟩
  rw[if_pos rfl,Int.toNat_natCast]
  exact ⟨het,by rw[if_neg (n42 _)];exact h⟩
 ·rw[if_neg hbg] at h
  simp only[if_neg (show ¬ (begB (cutB s t) (q:Int) false=true) by rw[hbe];exact hbg)]
  exact ⟨_,rfl,fin h⟩
theorem row_mark {s:ByteArray} {p t q:Nat} (ht:RowE s p t) (hq:q≤t):markB (cutB s t) q 58=markB s q 58:=by
 by_cases h:q<t
 ·exact cut_mark ht h
 ·have:q=t:=by omega
  subst this
  have h1:markB s q 58=false:=by
   unfold markB
   rw[Bool.and_eq_false_iff]
   left
   rcases ht.2.2.2 with e|e
   ·unfold isB;rw[decide_eq_false_iff_not];omega
   ·exact isB_no (by rw[e];decide)
  rw[h1]
  unfold markB isB
  rw[cutB_size ht.2.1,decide_eq_false (fun e=>absurd e.1 (Nat.lt_irrefl _)),Bool.false_and]
theorem colon_way {s:ByteArray} {p t x:Nat} {o:Option Nat} (ht:RowE s p t) (hx:x≤t) (h:colonR s t x o):∃ q,WhN (cutB s t) x q∧q≤t∧(q<t→U.white (byt (cutB s t) q:Int)=false)∧o=if markB (cutB s t) q 58=true then some q else none:=by
 unfold colonR at h
 rw[if_neg (by omega)] at h
 obtain ⟨q,hq,h⟩:=h
 refine ⟨q,⟨hq.1,fun j j1 j2=>by rw[cutB_byt (by have:=hq.2.1;omega)];exact hq.2.2.1 j j1 j2⟩,hq.2.1,fun hl=>?_,by rw[row_mark ht hq.2.1];exact h⟩
 rw[cutB_byt hl]
 rcases hq.2.2.2 with e|e
 ·omega
 ·exact e
set_option maxRecDepth 100000 in
set_option maxHeartbeats 3200000 in
theorem trKey_is {Ev:World→Prop} {P:ByteArray→Prop} (K:CntC Ev P) (o:Option Nat) (s:ByteArray) (p:Nat) (w:World) (hs:s.size≤10000) (hPs:P s) (hEv:Ev w) (hw:U.white (byt s p:Int)=false) (h:KeyR s p o) :
  Calls Tryz.prog 19 #[.string s,.int .i64 (p:Int)] w fun e w'=>e=.returned (.tuple #[.int .i64 ((o.getD 0:Nat):Int),.bool o.isSome])∧Below w.heap.size w w':=by
 have d0:¬ ((p:Int)<0):=by omega
 unfold KeyR at h
 by_cases hp:s.size≤p
 ·rw[if_pos hp] at h
  subst h
  have d1:(s.size:Int)≤(p:Int):=by omega
  clear hp hw
  go_enter Tryz.func19,Tryz.ntmps19
  go_wp2
  go_ret2
  exact ⟨rfl,Below.refl _ _⟩
 rw[if_neg hp] at h
 obtain ⟨t,A,T,E,C,ht,hP,h⟩:=h
 have d1:¬ ((s.size:Int)≤(p:Int)):=by omega
 have ht1:=ht.1
 have ht2:=ht.2.1
 obtain ⟨rb,hrb⟩:=RowB.ex s p
 have CR:=fun W=>Row_is rb t s (p:Int) W (by omega) (by rw[clampN_self _ _ (by omega)];exact hrb) (by rw[clampN_self _ _ (by omega)];exact ht)
 have hP2:=cut_prop ht hP
 have hsz:=cutB_size ht2
 obtain ⟨S,hS⟩:∃ S,S=cutB s t:=⟨_,rfl⟩
 have hcut:s.extract 0 t=S:=hS.symm
 have d2:(t:Int)≤(s.size:Int):=by omega
 rw[←hS] at hP2 hsz
 have CP:=fun W=>propRead_is A T E C S (p:Int) false W (by omega) hP2
 by_cases hC:C=0
 rotate_left
 ·rw[if_pos hC] at h
  subst h
  have hb:(C != 0)=true:=by rw[bne,Bool.not_eq_eq_eq_not,Bool.not_true,beq_eq_false_iff_ne];exact hC
  clear hP hP2 hS hw hp ht hrb hC
  go_enter Tryz.func19,Tryz.ntmps19
  go_wp2_with fail
  refine (CR _).mono ?_
  rintro e w1 ⟨rfl,rfl⟩
  go_wp2_with fail
  refine (CP _).mono ?_
  rintro e w1 ⟨rfl,b1⟩
  go_wp2
  go_ret2
  exact ⟨rfl,b1⟩
 rw[if_neg (by omega)] at h
 subst hC
 obtain ⟨E',rfl,e1,e2⟩:=hP2.far_le (by omega)
 rw[hsz] at e2
 obtain ⟨q,hq,h⟩:=h
 rw[Int.toNat_natCast] at hq h
 have hq2:WhN S E' q∧q≤t∧p≤q∧(q<S.size→U.white (byt S q:Int)=false):=by
  rw[hsz,hS]
  split at hq
  ·refine ⟨⟨hq.1,fun j j1 j2=>by rw[cutB_byt (by have:=hq.2.1;omega)];exact hq.2.2.1 j j1 j2⟩,hq.2.1,by have:=hq.1;omega,fun hl=>?_⟩
   rw[cutB_byt hl]
   rcases hq.2.2.2 with e|e
   ·omega
   ·exact e
  ·have:E'=p:=by omega
   subst this hq
   exact ⟨⟨Nat.le_refl _,fun j j1 j2=>by omega⟩,ht1,Nat.le_refl _,fun hl=>by rw[cutB_byt hl];exact hw⟩
 obtain ⟨hq1,hq2,hq3,hq4⟩:=hq2
 have CW:=fun W=>trWhite_is S E' q W (by omega) hq1 (by omega) hq4
 have CM:=fun W=>trMark_fn S q W (markB S q 58) 58 (by omega) rfl
 by_cases hz:t≤q∨markB s q 58=true
 ·rw[if_pos hz] at h
  obtain ⟨q2,g1,g2,g3,g4⟩:=colon_way ht hq2 h
  rw[←hS] at g1 g3 g4
  have e3:q2=q:=by
   refine Decidable.byContradiction fun hn=>?_
   have g0:=g1.1
   have:=hq4 (by omega)
   rw[g1.2 q (by omega) (Nat.le_refl _)] at this
   cases this
  rw[e3] at g4
  have hmk:markB S q 58=markB s q 58:=by rw[hS];exact row_mark ht hq2
  by_cases hqt:q<t
  ·have hm:markB s q 58=true:=hz.resolve_left (by omega)
   rw[hmk,hm] at CM g4
   rw[if_pos rfl] at g4
   subst g4
   have d3:(q:Int)<(t:Int):=by omega
   clear hP hP2 hS hw hp ht hrb hz h hq hq1 hq4 g1 g3 hm hmk
   go_enter Tryz.func19,Tryz.ntmps19
   go_wp2_with fail
   refine (CR _).mono ?_
   rintro e w1 ⟨rfl,rfl⟩
   go_wp2_with fail
   refine (CP _).mono ?_
   rintro e w1 ⟨rfl,b1⟩
   go_wp2_with fail
   refine (CW _).mono ?_
   rintro e w2 ⟨rfl,rfl⟩
   go_wp2_with fail
   refine (CM _).mono ?_
   rintro e w3 ⟨rfl,rfl⟩
   go_wp2_with fail
   refine (CM _).mono ?_
   rintro e w4 ⟨rfl,rfl⟩
   go_wp2
   go_ret2
   exact ⟨rfl,b1⟩
  ·have hm:markB S q 58=false:=by
    unfold markB isB
    rw[decide_eq_false (by omega),Bool.false_and]
   rw[hm] at CM g4
   rw[if_neg (by decide)] at g4
   subst g4
   have d3:(t:Int)≤(q:Int):=by omega
   clear hP hP2 hS hw hp ht hrb hz h hq hq1 hq4 g1 g3 hm hmk
   go_enter Tryz.func19,Tryz.ntmps19
   go_wp2_with fail
   refine (CR _).mono ?_
   rintro e w1 ⟨rfl,rfl⟩
   go_wp2_with fail
   refine (CP _).mono ?_
   rintro e w1 ⟨rfl,b1⟩
   go_wp2_with fail
   refine (CW _).mono ?_
   rintro e w2 ⟨rfl,rfl⟩
   go_wp2_with fail
   refine (CM _).mono ?_
   rintro e w4 ⟨rfl,rfl⟩
   go_wp2
   go_ret2
   exact ⟨rfl,b1⟩
 ·rw[if_neg hz] at h
  rw[not_or] at hz
  have hm:markB s q 58=false:=by simpa using hz.2
  have hqt:q<t:=by omega
  have hmk:markB S q 58=false:=by rw[hS,row_mark ht hq2];exact hm
  rw[hmk] at CM
  have hwq:U.white (byt s q:Int)=false:=by
   have:=hq4 (by omega)
   rw[hS,cutB_byt hqt] at this
   exact this
  obtain ⟨lo,hlo,hres⟩:=key_way (E:=E') ht hqt hq3 hwq hm h
  rw[←hS] at hlo
  have d3:(q:Int)<(t:Int):=by omega
  have CT:=fun W hW=>K.cnt S q (-1) 0 lo W (by omega) (hS ▸ K.cut s t hPs) (by omega) hW hlo
  have HS:=Lib.hid hS
  have HT:=Lib.hid ht
  have HL:=Lib.hid hlo
  clear hP hP2 hS hw hp ht hrb hz h hq hq1 hq4 hm hmk hlo
  have fin:∀ e w',CntPost w lo e w'→True:=fun _ _ _=>trivial
  cases lo with
  | bad r c=>
   have hres:o=none:=hres
   subst hres
   clear fin
   go_enter Tryz.func19,Tryz.ntmps19
   go_wp2_with fail
   refine (CR _).mono ?_
   rintro e w1 ⟨rfl,rfl⟩
   go_wp2_with fail
   refine (CP _).mono ?_
   rintro e w1 ⟨rfl,b1⟩
   go_wp2_with fail
   refine (CW _).mono ?_
   rintro e w2 ⟨rfl,rfl⟩
   go_wp2_with fail
   refine (CM _).mono ?_
   rintro e w3 ⟨rfl,rfl⟩
   go_wp2_with fail
   refine (CT _ (K.below _ _ hEv b1)).mono ?_
   rintro e w4 ⟨cs,R,E2,C2,rfl,h12,-,b4,rfl,hc2,rfl⟩
   obtain ⟨y0,y1,y2,y3,y4,y5,y6,ya,yb,yc,yd,ye,yf,yg,yh,yi,y7,y8,rfl⟩:=h12
   have hb:(C2 != 0)=true:=by rw[bne,Bool.not_eq_eq_eq_not,Bool.not_true,beq_eq_false_iff_ne];exact hc2
   go_wp2
   go_ret2
   exact ⟨rfl,(b1.trans (b4.mono b1.size)).alloc (Nat.le_trans b1.size b4.size) _⟩
  | ok x=>
   obtain ⟨hxt,hres⟩:=hres
   have hk:=leaf_kind HL.out
   by_cases hal:isB s q 42=true∧p<E'
   ·rw[if_pos hal] at hres
    subst hres
    have hk2:x.1.h.kind=2:=hk.2 (by rw[HS.out,cut_isB HT.out hqt];exact hal.1)
    have d4:(p:Int)<(E':Int):=by have:=hal.2;omega
    clear fin hk hal
    go_enter Tryz.func19,Tryz.ntmps19
    go_wp2_with fail
    refine (CR _).mono ?_
    rintro e w1 ⟨rfl,rfl⟩
    go_wp2_with fail
    refine (CP _).mono ?_
    rintro e w1 ⟨rfl,b1⟩
    go_wp2_with fail
    refine (CW _).mono ?_
    rintro e w2 ⟨rfl,rfl⟩
    go_wp2_with fail
    refine (CM _).mono ?_
    rintro e w3 ⟨rfl,rfl⟩
    go_wp2_with fail
    refine (CT _ (K.below _ _ hEv b1)).mono ?_
    rintro e w4 ⟨cs,R,E2,C2,rfl,h12,-,b4,rfl,rfl,hN⟩
    obtain ⟨y0,y1,y2,y3,y4,y5,y6,ya,yb,yc,yd,ye,yf,yg,yh,yi,y7,y8,rfl⟩:=h12
    have hy0:y0=2:=by
     obtain ⟨kv,lv,fv,e,_⟩:=hN.open
     unfold headC at e
     simp only[List.cons.injEq,Value.int.injEq] at e
     rw[e.1.2,hk2]
    subst hy0
    have HN:=Lib.hid hN
    clear hN
    go_wp2
    go_ret2
    exact ⟨rfl,(b1.trans (b4.mono b1.size)).alloc (Nat.le_trans b1.size b4.size) _⟩
   ·rw[if_neg hal] at hres
    obtain ⟨q2,g1,g2,g3,g4⟩:=colon_way HT.out hxt hres
    rw[←HS.out] at g1 g3 g4
    have CW2:=fun W=>trWhite_is S x.2 q2 W (by omega) g1 (by omega) (by rw[hsz];exact g3)
    have CM2:=fun W=>trMark_fn S q2 W (markB S q2 58) 58 (by omega) rfl
    have hal2:x.1.h.kind≠2∨¬ ((p:Int)<(E':Int)):=by
     by_cases h42:isB s q 42=true
     ·right;intro e;exact hal ⟨h42,by omega⟩
     ·left;intro e;exact h42 (by have:=hk.1 e;rwa [HS.out,cut_isB HT.out hqt] at this)
    clear fin hk hal g1 g3 hres
    go_enter Tryz.func19,Tryz.ntmps19
    go_wp2_with fail
    refine (CR _).mono ?_
    rintro e w1 ⟨rfl,rfl⟩
    go_wp2_with fail
    refine (CP _).mono ?_
    rintro e w1 ⟨rfl,b1⟩
    go_wp2_with fail
    refine (CW _).mono ?_
    rintro e w2 ⟨rfl,rfl⟩
    go_wp2_with fail
    refine (CM _).mono ?_
    rintro e w3 ⟨rfl,rfl⟩
    go_wp2_with fail
    refine (CT _ (K.below _ _ hEv b1)).mono ?_
    rintro e w4 ⟨cs,R,E2,C2,rfl,h12,-,b4,rfl,rfl,hN⟩
    obtain ⟨y0,y1,y2,y3,y4,y5,y6,ya,yb,yc,yd,ye,yf,yg,yh,yi,y7,y8,rfl⟩:=h12
    have hy0:y0=x.1.h.kind:=by
     obtain ⟨kv,lv,fv,e,_⟩:=hN.open
     unfold headC at e
     simp only[List.cons.injEq,Value.int.injEq] at e
     exact e.1.2
    rw[←hy0] at hal2
    have HN:=Lib.hid hN
    clear hN hy0
    have bb:∀ ob,Below w.heap.size w (w4.alloc ob):=fun ob=>(b1.trans (b4.mono b1.size)).alloc (Nat.le_trans b1.size b4.size) _
    obtain ⟨mk,hmk2⟩:∃ mk,markB S q2 58=mk:=⟨_,rfl⟩
    rw[hmk2] at CM2 g4
    clear hmk2
    have ways:(y0==2)=false∨((y0==2)=true∧¬ ((p:Int)<(E':Int))):=by
     cases hy:(y0==2) with
     | false=>exact .inl rfl
     | true=>
      refine .inr ⟨rfl,?_⟩
      rw[beq_iff_eq] at hy
      rcases hal2 with h9|h9
      ·exact absurd hy h9
      ·omega
    clear hal2
    rcases ways with d5|⟨d5,d6⟩
    all_goals
     go_wp2_with fail
     refine (CW2 _).mono ?_
     rintro e w5 ⟨rfl,rfl⟩
     go_wp2_with fail
     refine (CM2 _).mono ?_
     rintro e w6 ⟨rfl,rfl⟩
     cases mk with
     | true=>
      rw[if_pos rfl] at g4
      subst g4
      go_wp2
      go_ret2
      exact ⟨rfl,bb _⟩
     | false=>
      rw[if_neg (by decide)] at g4
      subst g4
      go_wp2
      go_ret2
      exact ⟨rfl,bb _⟩
theorem key_query {s:ByteArray} {p:Nat} (h:markB s p 63=true):KeyR s p none∧U.white (byt s p:Int)=false:=by
 have h0:=h
 unfold markB at h
 rw[Bool.and_eq_true] at h
 have hb:=isB_lt h.1
 have hw:U.white (byt s p:Int)=false:=by rw[hb.2];decide
 have no:∀ c,c≠63→isB s p c=false:=fun c hc=>isB_no (by rw[hb.2];exact fun e=>hc e.symm)
 have hm:markB s p 58=false:=by unfold markB;rw[no 58 (by decide),Bool.false_and]
 refine ⟨?_,hw⟩
 unfold KeyR
 rw[if_neg (by omega)]
 obtain ⟨t,ht⟩:=RowE.ex s p (by omega)
 have hP:PropZ s (p:Int) false [] [] (p:Int) 0:=by
  refine .inl ⟨by omega,p,rfl,?_⟩
  rw[Int.toNat_natCast]
  refine .none ?_ rfl rfl rfl rfl
  rintro ⟨_,e|e⟩ <;> rw[hb.2] at e <;> cases e
 refine ⟨t,[],[],(p:Int),0,ht,hP,?_⟩
 rw[if_neg (by decide),Int.toNat_natCast]
 have hpt:p<t:=by
  refine Decidable.byContradiction fun hn=>?_
  have h1:=ht.1
  have e:t=p:=by omega
  rcases ht.2.2.2 with h2|h2
  ·omega
  ·rw[e,hb.2] at h2;cases h2
 have hbg:¬ (begB s (p:Int) false=true):=fun e=>by
  obtain ⟨_,_,_,_,h5⟩:=beg_not e
  rw[h5 63 (by simp)] at h0
  cases h0
 refine ⟨p,by rw[if_neg (by omega)],?_⟩
 rw[no 42 (by decide),no 34 (by decide),no 39 (by decide),no 91 (by decide),no 123 (by decide),if_neg (by rintro (h2|h2);omega;rw[hm] at h2;cases h2),if_neg (by decide),if_neg (by decide),if_neg (by decide),if_neg hbg]
 unfold colonR
 rw[if_neg (by omega)]
 exact ⟨p,⟨Nat.le_refl _,by omega,fun j j1 j2=>by omega,.inr hw⟩,by rw[hm,if_neg (by decide)]⟩
set_option maxRecDepth 100000 in
set_option maxHeartbeats 800000 in
theorem trKeyed_is {Ev:World→Prop} {P:ByteArray→Prop} (K:CntC Ev P) (g:Nat) (s:ByteArray) (p:Nat) (v:Value) (w:World) (r:Option Nat) (q:Bool) (h:TrAt g s p v w) (hs:s.size≤10000) (hPs:P s) (hEv:Ev w) (hw:U.white (byt s p:Int)=false) (hr:KeyR s p r) (hq:(r.isSome||markB s p 63)=q) :
  Calls Tryz.prog 50 #[.pointer (some ⟨g,0,none⟩)] w fun e w'=>e=.returned (.bool q)∧Below w.heap.size w w':=by
 have CW:=fun W hW=>trKey_is K r s p W hs hPs hW hw hr
 have CM:=fun W hW=>trMark_is g s p v W (markB s p 63) 63 hW hs rfl
 have hg:=h.lt
 have hc:=h.cell
 have HA:=Lib.hid h
 have HEv:=Lib.hid hEv
 obtain ⟨r1,hr1⟩:∃ r1:Int,r1=((r.getD 0:Nat):Int):=⟨_,rfl⟩
 obtain ⟨r2,hr2⟩:∃ r2,r.isSome=r2:=⟨_,rfl⟩
 rw[←hr1,hr2] at CW
 rw[hr2] at hq
 clear h hr hr1 hr2 hEv hw
 go_enter Tryz.func50,Tryz.ntmps50
 go_wp2_with fail
 have hS0:(w.drew.cell? ⟨g,0,none⟩=some (.string s)∧w.drew.cell? ⟨g,1,none⟩=some (.int .i64 (p:Int)))∧Below w.heap.size w w.drew:=⟨⟨hc 0,hc 1⟩,(Below.refl _ _).drew⟩
 have CS:∀ W:World,((W.cell? ⟨g,0,none⟩=some (.string s)∧W.cell? ⟨g,1,none⟩=some (.int .i64 (p:Int)))∧Below w.heap.size w W)→Calls Tryz.prog 19 #[.string s,.int .i64 (p:Int)] W fun e w'=>e=.returned (.tuple #[.int .i64 r1,.bool r2])∧((w'.cell? ⟨g,0,none⟩=some (.string s)∧w'.cell? ⟨g,1,none⟩=some (.int .i64 (p:Int)))∧Below w.heap.size w w'):=fun W hS=>by
  refine (CW W (K.below _ _ HEv.out hS.2)).mono ?_
  rintro e w8 ⟨a1,a3⟩
  have b8:=hS.2.trans (a3.mono hS.2.size)
  have h8:=HA.out.below b8 hg
  exact ⟨a1,⟨h8.cell 0,h8.cell 1⟩,b8⟩
 clear hc
 go_region_held3 (fun w'=>(w'.cell? ⟨g,0,none⟩=some (.string s)∧w'.cell? ⟨g,1,none⟩=some (.int .i64 (p:Int)))∧Below w.heap.size w w') (first|assumption|exact hS0)
  (first|(go_at_call 19;refine (CS _ (by assumption)).mono ?_;rintro e w9 ⟨rfl,hS9⟩))
 rename World=>wA
 rename_i hHeld
 have bA:Below w.heap.size w wA:=by first|exact hS9.2|exact hHeld.2
 have HB:=Lib.hid bA
 have hA:=HA.out.below bA hg
 have CMA:=CM wA hA
 clear CS CW hS0 bA hA CM
 cases r2 with
 | true=>
  rw[Bool.true_or] at hq
  subst hq
  clear CMA
  go_wp2
  go_ret
  exact ⟨rfl,HB.out⟩
 | false=>
  rw[Bool.false_or] at hq
  rw[hq] at CMA
  clear hq
  go_wp2_with fail
  refine CMA.mono ?_
  rintro e w2 ⟨rfl,k,rfl⟩
  go_wp2
  go_ret
  exact ⟨rfl,Go.below_drewN HB.out _⟩
set_option maxRecDepth 100000 in
theorem trBegins_is {Ev:World→Prop} {P:ByteArray→Prop} (K:CntC Ev P) (g:Nat) (s:ByteArray) (p:Nat) (v:Value) (w:World) (q:Bool) (h:TrAt g s p v w) (hs:s.size≤10000) (hPs:P s) (hEv:Ev w) (hw:U.white (byt s p:Int)=false) (hq:OpenR s p q) :
  Calls Tryz.prog 28 #[.pointer (some ⟨g,0,none⟩)] w fun e w'=>e=.returned (.bool q)∧Below w.heap.size w w':=by
 have CM:=trMark_is g s p v w (markB s p 45) 45 h hs rfl
 have HA:=Lib.hid h
 have HEv:=Lib.hid hEv
 unfold OpenR at hq
 cases h45:markB s p 45 with
 | true=>
  rw[if_pos (.inl h45)] at hq
  subst hq
  rw[h45] at CM
  clear h hEv hw h45
  go_enter Tryz.func28,Tryz.ntmps28
  go_wp2_with fail
  refine CM.mono ?_
  rintro e w2 ⟨rfl,k,rfl⟩
  go_wp2
  go_ret
  exact ⟨rfl,Go.below_drewN (Below.refl _ _) _⟩
 | false=>
  have CK:∀ W,TrAt g s p v W→Ev W→Calls Tryz.prog 50 #[.pointer (some ⟨g,0,none⟩)] W fun e w'=>e=.returned (.bool q)∧Below W.heap.size W w':=fun W hW hE=>by
   by_cases h63:markB s p 63=true
   ·rw[if_pos (.inr h63)] at hq
    subst hq
    exact trKeyed_is K g s p v W none true hW hs hPs hE hw (key_query h63).1 (by rw[h63];rfl)
   ·rw[if_neg (by rintro (e|e);rw[h45] at e;cases e;exact h63 e)] at hq
    obtain ⟨r,hr,hq⟩:=hq
    exact trKeyed_is K g s p v W r q hW hs hPs hE hw hr (by rw[Bool.eq_false_iff.2 h63,Bool.or_false,hq])
  rw[h45] at CM
  clear h hEv hw h45 hq
  go_enter Tryz.func28,Tryz.ntmps28
  go_wp2_with fail
  refine CM.mono ?_
  rintro e w2 ⟨rfl,k,rfl⟩
  go_wp2_with fail
  refine (CK _ (HA.out.drewN _) (K.below _ _ HEv.out (Go.below_drewN (Below.refl _ _) _))).mono ?_
  rintro e w3 ⟨rfl,b3⟩
  go_wp2
  go_ret
  exact ⟨rfl,(Go.below_drewN (Below.refl _ _) _).trans b3⟩
end Go.Proofs.YthcmkpiajkbpnaaGreatDoor
