/- Parts of the proof of StreMarks, put together from smaller texts (blanks that Lean does not want are struck). Conditions: those that each theorem writes out. -/
import Derived.Test.YthcmkpiajkbpnaaGreatDoorEStreMarks2
import Derived.Test.YthcmkpiajkbpnaaGreatDoorZ11
import Derived.Test.YthcmkpiajkbpnaaGreatDoorZ32
namespace Go.Proofs.YthcmkpiajkbpnaaGreatDoor
open Go.RowKit
def runX (f:Nat→Bool):Nat→Nat→Nat
 | 0,a=>a
 | n+1,a=>if f a=true then runX f n (a+1) else a
theorem runX_is (f:Nat→Bool):∀ n a,a≤runX f n a∧runX f n a≤a+n∧(∀ j,j<runX f n a→a≤j→f j=true)∧(runX f n a=a+n∨f (runX f n a)=false)
 | 0,a=>⟨Nat.le_refl _,Nat.le_refl _,fun j (h1:j<a) h2=>by omega,.inl rfl⟩
 | n+1,a=>by
  unfold runX
  by_cases h:f a=true
  ·rw[if_pos h]
   obtain ⟨h1,h2,h3,h4⟩:=runX_is f n (a+1)
   refine ⟨by omega,by omega,fun j j1 j2=>?_,by rcases h4 with h4|h4;exact .inl (by omega);exact .inr h4⟩
   by_cases hj:j=a
   ·rw[hj];exact h
   ·exact h3 j j1 (by omega)
  ·rw[if_neg h]
   exact ⟨Nat.le_refl _,by omega,fun j j1 j2=>by omega,.inr (by simpa using h)⟩
def rowX (s:ByteArray) (a:Nat):Nat:=runX (fun j=>decide (byt s j≠10)) (s.size-a) a
theorem rowX_is {s:ByteArray} {a:Nat} (h:a≤s.size):RowE s a (rowX s a):=by
 obtain ⟨h1,h2,h3,h4⟩:=runX_is (fun j=>decide (byt s j≠10)) (s.size-a) a
 refine ⟨h1,by unfold rowX;omega,fun j j1 j2=>by simpa using h3 j j1 j2,?_⟩
 rcases h4 with h4|h4
 ·left;unfold rowX;omega
 ·right
  have h5:decide (byt s (rowX s a)≠10)=false:=h4
  exact Decidable.not_not.1 (of_decide_eq_false h5)
def firX (s:ByteArray) (a t:Nat):Nat:=runX (fun j=>U.white (byt s j:Int)) (t-a) a
theorem firX_is {s:ByteArray} {a t:Nat} (h:a≤t):FirN s a t (firX s a t):=by
 obtain ⟨h1,h2,h3,h4⟩:=runX_is (fun j=>U.white (byt s j:Int)) (t-a) a
 refine ⟨h1,by unfold firX;omega,h3,?_⟩
 rcases h4 with h4|h4
 ·left;unfold firX;omega
 ·right;exact h4
def tabX (s:ByteArray) (a b:Nat):Nat:=runX (fun j=>decide (byt s j≠9)) (b-a) a
theorem tabX_is {s:ByteArray} {a b:Nat} (h:a≤b):(tabX s a b<b→TabN s a b (tabX s a b))∧(¬ tabX s a b<b→NoTab s a b):=by
 obtain ⟨h1,h2,h3,h4⟩:=runX_is (fun j=>decide (byt s j≠9)) (b-a) a
 constructor
 ·intro h5
  refine ⟨h1,h5,?_,fun j j1 j2=>by simpa using h3 j j1 j2⟩
  rcases h4 with h4|h4
  ·unfold tabX at h5;omega
  ·have h6:decide (byt s (tabX s a b)≠9)=false:=h4
   exact Decidable.not_not.1 (of_decide_eq_false h6)
 ·intro h5 j j1 j2
  unfold tabX at h5
  simpa using h3 j (by omega) j2
def backX (s:ByteArray):Nat→Nat
 | 0=>0
 | p+1=>if wl (byt s p)=true then backX s p else p+1
theorem backX_is (s:ByteArray):∀ p,backX s p≤p∧(∀ j,j<p→backX s p≤j→wl (byt s j)=true)∧(backX s p=0∨(0<backX s p∧wl (byt s (backX s p-1))=false))
 | 0=>⟨Nat.le_refl _,fun j h=>by omega,.inl rfl⟩
 | p+1=>by
  unfold backX
  by_cases h:wl (byt s p)=true
  ·rw[if_pos h]
   obtain ⟨h1,h2,h3⟩:=backX_is s p
   refine ⟨by omega,fun j j1 j2=>?_,h3⟩
   by_cases hj:j=p
   ·rw[hj];exact h
   ·exact h2 j (by omega) j2
  ·rw[if_neg h]
   exact ⟨Nat.le_refl _,fun j j1 j2=>by omega,.inr ⟨by omega,by simpa using h⟩⟩
def abvX (s:ByteArray) (p:Nat):Nat:=if backX s p=0 then lfs s p else lfs s p-lfs s (backX s p)-1
theorem abvX_is (s:ByteArray) (p:Nat):Abv s p (backX s p) (abvX s p):=by
 obtain ⟨h1,h2,h3⟩:=backX_is s p
 refine ⟨h1,h2,?_⟩
 unfold abvX
 rcases h3 with h3|⟨h3,h4⟩
 ·left;exact ⟨h3,by rw[if_pos h3]⟩
 ·right;exact ⟨h3,h4,by rw[if_neg (by omega)]⟩
def restX (s:ByteArray) (p:Nat):List UInt8:=s.data.toList.drop p
theorem restX_pre (s:ByteArray) (p:Nat):Pre s p (restX s p):=List.prefix_refl _
theorem restX_len {s:ByteArray} {p:Nat} (h:p≤s.size):s.size=p+(restX s p).length:=by
 unfold restX
 rw[List.length_drop,←Lib.size_eq]
 omega
def passX (s:ByteArray) (p:Nat):Option (Bool × Nat):=
 if p=0∨byt s (p-1)=10 then (match wS true (2*(restX s p).length+2) (restX s p) true true false [] false with
  | some ([],S,k)=>some (S,p+k)
  | _=>none)
 else if U.white (byt s (p-1):Int)=true then none else (match wS true (2*(restX s p).length+2) (restX s p) false false true [] false with
  | some ([],S,k)=>some (S,p+k)
  | _=>none)
theorem passX_is {s:ByteArray} {p q:Nat} {S:Bool} (hp:p≤s.size) (h:passX s p=some (S,q)):passR s p (.ok ([],S,q)):=by
 unfold passX at h
 split at h
 ·rename_i h0
  split at h
  ·rename_i S' k hw
   cases h
   obtain ⟨L,hL,hr⟩:=pass_row (fin:=true) h0 (restX_pre s p) (fun _=>restX_len hp) hw hp
   obtain rfl:L=[]:=List.map_eq_nil_iff.1 hL
   exact hr
  ·cases h
 ·rename_i h0
  split at h
  ·cases h
  ·rename_i hw0
   split at h
   ·rename_i S' k hw
    cases h
    obtain ⟨L,hL,hr⟩:=pass_of (fin:=true) (by omega) (restX_pre s p) (fun _=>restX_len hp) (by omega) (by simpa using hw0) hw hp
    obtain rfl:L=[]:=List.map_eq_nil_iff.1 hL
    exact hr
   ·cases h
def colX (s:ByteArray) (t p:Nat):Option Nat:=if t<p then none else if markB s (firX s p t) 58=true then some (firX s p t) else none
theorem colX_is (s:ByteArray) (t p:Nat):colonR s t p (colX s t p):=by
 unfold colonR colX
 split
 ·rfl
 ·exact ⟨_,firX_is (by omega),rfl⟩
def propX (s:ByteArray) (p:Nat):Option (List UInt8 × List UInt8 × Nat × Int):=pF s false 4 p p [] []
theorem propX_is {s:ByteArray} {p E:Nat} {A T:List UInt8} {C:Int} (h:propX s p=some (A,T,E,C)):PropZ s (p:Int) false A T (E:Int) C:=by
 refine .inl ⟨by omega,E,rfl,?_⟩
 rw[Int.toNat_natCast]
 exact pF_sound s false A T E C 4 p p [] [] h
def quoX (s:ByteArray) (p:Nat):Option UInt8:=match restX s p with
 | q :: y :: r :: l=>if (q=39∨q=34)∧r=q∧y≠q∧y≠10∧wsp y=false∧y≠92∧l.head?≠some 39 then some y else none
 | _=>none
theorem quoX_is {s:ByteArray} {p:Nat} {y:UInt8} (hq:quoX s p=some y) (n:Int):QuoZ s (p:Int) n [y] ((p+3:Nat):Int) true 0∧p+3≤s.size:=by
 unfold quoX at hq
 split at hq
 ·rename_i q y' r l e
  split at hq
  ·rename_i hc
   obtain ⟨hq1,rfl,hy1,hy2,hy3,hy4,hl⟩:=hc
   cases hq
   have h:Pre s p (r :: y :: r :: l):=by rw[←e];exact restX_pre s p
   obtain ⟨h1,h2,h3⟩:=h.cons
   obtain ⟨g1,g2,g3⟩:=h3.cons
   obtain ⟨k1,k2,k3⟩:=g3.cons
   have hbq:byt s p=39∨byt s p=34:=by rcases hq1 with rfl|rfl <;> rw[h2] <;> decide
   refine ⟨QuoZ.of h1 hbq (.lit g1 ?_ ?_ ?_ ?_ (.done k1 ?_ ?_ ?_ rfl rfl rfl)),by omega⟩
   ·rw[g2,h2];intro e;exact hy1 (UInt8.toNat_inj.1 e)
   ·rw[g2];intro e;exact hy2 ((u8_eq (by decide)).1 e)
   ·rw[g2,wsp_white];exact hy3
   ·rintro ⟨_,e⟩;rw[g2] at e;exact hy4 ((u8_eq (by decide)).1 e)
   ·show byt s (p+1+1)=byt s p;rw[k2,h2]
   ·rintro ⟨_,e1,e2⟩
    cases l with
    | nil=>
     have:=restX_len (s:=s) (p:=p) (by omega)
     rw[e] at this
     simp at this
     omega
    | cons z t=>
     obtain ⟨m1,m2,m3⟩:=k3.cons
     rw[m2] at e2
     exact hl (by rw[(u8_eq (by decide)).1 e2];rfl)
   ·have:bq s (p+1)=y:=by
     unfold bq
     obtain ⟨b,d1,d2⟩:=drop_byte s (p+1) g1
     have e:s.data.toList.getD (p+1) 0=b:=by
      simp only[List.getD]
      have:s.data.toList[p+1]?=(s.data.toList.drop (p+1))[0]?:=by rw[List.getElem?_drop]
      rw[this,d1]
      rfl
     rw[e]
     exact UInt8.toNat_inj.1 (d2.trans g2)
    rw[this]
    rfl
  ·cases hq
 ·cases hq
def aliX (s:ByteArray) (p:Nat):Nat:=p+1+nmN s (p+1)
theorem aliX_is {s:ByteArray} {p:Nat} (h:aliB s (p:Int)=true):AliZ s (p:Int) (pieceL s (p+1) (aliX s p)) (aliX s p:Int) 0:=by
 refine .inl ⟨h,?_,?_,rfl⟩
 ·rw[Int.toNat_natCast];rfl
 ·rw[Int.toNat_natCast];unfold aliX;omega
def keyY (s:ByteArray) (t q:Nat) (prop:Bool):Option (Option Nat):=
 if t≤q∨markB s q 58=true then some (colX s t q)
 else if isB s q 42=true then (if prop=true then some none else if aliB s (q:Int)=true then some (colX s t (aliX s q)) else none)
 else if isB s q 39=true∨isB s q 34=true then (match quoX (cutB s t) q with
  | some _=>some (colX s t (q+3))
  | none=>none)
 else if isB s q 91=true∨isB s q 123=true then none
 else if begB s (q:Int) false=true then (match plainK 1000000 true (restX s q) with
  | some k=>some (colX s t (q+k))
  | none=>none)
 else some (colX s t q)
def keyX (s:ByteArray) (p:Nat):Option (Option Nat):=
 if s.size≤p then some none else match propX s p with
  | none=>none
  | some (_,_,E,C)=>if C≠0 then some none else if rowX s p<E then none else keyY s (rowX s p) (if p<E then firX s E (rowX s p) else p) (decide (p<E))
theorem keyX_is {s:ByteArray} {p:Nat} {o:Option Nat} (h:keyX s p=some o):KeyR s p o:=by
 unfold keyX at h
 unfold KeyR
 split at h
 ·rename_i h0;rw[if_pos h0];cases h;rfl
 ·rename_i h0
  rw[if_neg h0]
  split at h
  ·cases h
  ·rename_i A T E C hpr
   have hrow:RowE s p (rowX s p):=rowX_is (by omega)
   refine ⟨rowX s p,A,T,(E:Int),C,hrow,propX_is hpr,?_⟩
   split at h
   ·rename_i hC
    rw[if_pos hC];cases h;rfl
   ·rename_i hC
    rw[if_neg hC]
    split at h
    ·cases h
    ·rename_i hE
     rw[Int.toNat_natCast]
     refine ⟨if p<E then firX s E (rowX s p) else p,?_,?_⟩
     ·by_cases hp:p<E
      ·rw[if_pos hp,if_pos hp];exact firX_is (by omega)
      ·rw[if_neg hp,if_neg hp]
     have hqs:(if p<E then firX s E (rowX s p) else p)≤s.size:=by
      have:=hrow.2.1
      by_cases hp:p<E
      ·rw[if_pos hp];have:=(firX_is (s:=s) (a:=E) (t:=rowX s p) (by omega)).2.1;omega
      ·rw[if_neg hp];omega
     generalize (if p<E then firX s E (rowX s p) else p)=q at h hqs ⊢
     unfold keyY at h
     split at h
     ·rename_i h1
      rw[if_pos h1];cases h;exact colX_is ..
     ·rename_i h1
      rw[if_neg h1]
      by_cases h2:isB s q 42=true
      ·rw[if_pos h2] at h ⊢
       by_cases hp:p<E
       ·rw[if_pos (decide_eq_true hp)] at h
        rw[if_pos hp]
        cases h;rfl
       rw[if_neg (by rw[decide_eq_true_eq];exact hp)] at h
       rw[if_neg hp]
       split at h
       ·rename_i h3
        cases h
        refine ⟨_,_,0,aliX_is h3,?_⟩
        rw[if_neg (by decide),Int.toNat_natCast]
        exact colX_is ..
       ·cases h
      rw[if_neg h2] at h ⊢
      by_cases h3:isB s q 39=true∨isB s q 34=true
      ·rw[if_pos h3] at h
       rw[if_pos h3.symm]
       split at h
       ·rename_i y hy
        cases h
        refine ⟨_,_,true,0,(quoX_is hy (-1)).1,?_⟩
        rw[if_neg (by decide),Int.toNat_natCast]
        exact colX_is ..
       ·cases h
      rw[if_neg h3] at h
      rw[if_neg (fun e=>h3 e.symm)]
      split at h
      ·cases h
      ·rename_i h4
       rw[if_neg h4]
       split at h
       ·rename_i h3
        rw[if_pos h3]
        split at h
        ·rename_i k hk
         cases h
         exact ⟨q+k,(plain_ofK (restX_pre s q) hqs (fun _=>restX_len hqs) hk).2.2,colX_is ..⟩
        ·cases h
       ·rename_i h3
        rw[if_neg h3];cases h;exact colX_is ..
def openX (s:ByteArray) (p:Nat):Option Bool:=if markB s p 45=true∨markB s p 63=true then some true else (keyX s p).map Option.isSome
theorem openX_is {s:ByteArray} {p:Nat} {b:Bool} (h:openX s p=some b):OpenR s p b:=by
 unfold openX at h
 unfold OpenR
 split at h
 ·rename_i h0;rw[if_pos h0];cases h;rfl
 ·rename_i h0
  rw[if_neg h0]
  cases hk:keyX s p with
  | none=>rw[hk] at h;cases h
  | some o=>rw[hk] at h;cases h;exact ⟨o,keyX_is hk,rfl⟩
def stpX (s:ByteArray) (a:Nat):Nat:=runX (fun j=>!(stopB s false j)) (s.size-a) a
theorem stpX_is {s:ByteArray} {a:Nat} (h:a≤s.size):StpN s false a (stpX s a):=by
 obtain ⟨h1,h2,h3,h4⟩:=runX_is (fun j=>!(stopB s false j)) (s.size-a) a
 refine ⟨h1,by unfold stpX;omega,fun j j1 j2=>by have:=h3 j j1 j2;simpa using this,?_⟩
 rcases h4 with h4|h4
 ·left;unfold stpX;omega
 ·right;unfold stpX;simpa using h4
def parX (s:ByteArray) (a:Nat):Option Nat:=if BakN s a (stpX s a) (fndB (stpX s a) fun e=>decide (BakN s a (stpX s a) e)) then some (fndB (stpX s a) fun e=>decide (BakN s a (stpX s a) e)) else none
theorem parX_is {s:ByteArray} {a e:Nat} (ha:a≤s.size) (h:parX s a=some e):ParN s false a e:=by
 unfold parX at h
 split at h
 ·rename_i h0
  injection h with h
  rw[←h]
  exact ⟨_,stpX_is ha,h0⟩
 ·cases h
def rowsX (s:ByteArray):Nat→Nat→Option (Nat × Nat)
 | 0,_=>none
 | g+1,a=>if a<s.size then (if firX s a (rowX s a)=rowX s a then (rowsX s g (rowX s a+1)).map (fun r=>(r.1+1,r.2)) else some (0,a)) else some (0,a)
theorem rowsX_is {s:ByteArray}:∀ (g a k c:Nat),rowsX s g a=some (k,c)→Blk s a k c
 | 0,a,k,c,h=>by cases h
 | g+1,a,k,c,h=>by
  unfold rowsX at h
  split at h
  ·rename_i ha
   have hr:=rowX_is (s:=s) (a:=a) (by omega)
   have hf:=firX_is (s:=s) hr.1
   split at h
   ·rename_i h0
    cases hm:rowsX s g (rowX s a+1) with
    | none=>rw[hm] at h;cases h
    | some r=>
     rw[hm] at h
     have ih:=rowsX_is g _ r.1 r.2 hm
     simp only[Option.map_some,Option.some.injEq,Prod.mk.injEq] at h
     obtain ⟨rfl,rfl⟩:=h
     exact .more ha hr (by rw[h0] at hf;exact hf) ih
   ·rename_i h0
    cases h
    exact .text ha hr hf h0
  ·rename_i ha
   cases h
   exact .over (by omega)
def innX (s:ByteArray) (a b:Nat):Nat:=fndB s.size fun i=>decide (InN s a b i)
def plX (s:ByteArray) (n:Int):Nat→Nat→List (List UInt8)→Bool→Option (List UInt8 × Nat × Bool × Int)
 | 0,_,_,_=>none
 | g+1,e,R,one=>
  if firX s e (rowX s e)<rowX s e∨s.size≤rowX s e then some (U.flowT R,e,one,0) else
  match rowsX s (s.size+1) (rowX s e+1) with
  | none=>none
  | some (k,a)=>
   if s.size≤a then some (U.flowT R,e,one,0) else
   if InN s a (rowX s a) (innX s a (rowX s a)) then
    (if kindN s a (rowX s a) (firX s a (rowX s a))≠5∨(innX s a (rowX s a):Int)≤n then some (U.flowT R,e,one,0) else
    match parX s (firX s a (rowX s a)) with
    | none=>none
    | some q=>
     if q=firX s a (rowX s a) then some (U.flowT R,e,one,0) else
     if q≤rowX s a then
      (if firX s q (rowX s a)<rowX s a∧byt s (firX s q (rowX s a))=58∧endsB s ((firX s q (rowX s a):Int)+1)=true then some ([],firX s q (rowX s a),false,5) else
      plX s n g q (R++(U.blanksL k++[pieceL s (firX s a (rowX s a)) q])) false)
     else none)
   else none
theorem plX_is {s:ByteArray} {n:Int} {T:List UInt8} {E:Nat} {O:Bool} {C:Int}:∀ (g e:Nat) (R:List (List UInt8)) (one:Bool) (g':Nat),e≤s.size→plX s n g e R one=some (T,E,O,C)→PlaiG s n false T E O C g' e R one
 | _,_,_,_,0,_,_=>trivial
 | 0,e,R,one,g'+1,he,h=>by cases h
 | g+1,e,R,one,g'+1,he,h=>by
  intro t f ht hf
  obtain rfl:=ht.uniq (rowX_is he)
  obtain rfl:=hf.uniq (firX_is ht.1)
  unfold plX at h
  split at h
  ·rename_i h1
   rw[if_pos h1]
   cases h
   exact ⟨rfl,rfl,rfl,rfl⟩
  ·rename_i h1
   rw[if_neg h1]
   intro k a hk
   split at h
   ·cases h
   ·rename_i k' a' hk'
    obtain ⟨rfl,rfl⟩:=hk.uniq (rowsX_is _ _ _ _ hk')
    split at h
    ·rename_i h2
     rw[if_pos h2]
     cases h
     exact ⟨rfl,rfl,rfl,rfl⟩
    ·rename_i h2
     rw[if_neg h2]
     intro b i p hb hi hp
     obtain rfl:=hb.uniq (rowX_is (by omega))
     obtain rfl:=hp.uniq (firX_is hb.1)
     split at h
     ·rename_i hi'
      obtain rfl:=hi.uniq hi'
      split at h
      ·rename_i h3
       rw[if_pos h3]
       cases h
       exact ⟨rfl,rfl,rfl,rfl⟩
      ·rename_i h3
       rw[if_neg h3]
       intro q hq
       split at h
       ·cases h
       ·rename_i q' hq'
        have hps:firX s a (rowX s a)≤s.size:=Nat.le_trans hp.2.1 hb.2.1
        obtain rfl:=hq.uniq (parX_is hps hq')
        split at h
        ·rename_i h4
         rw[if_pos h4]
         cases h
         exact ⟨rfl,rfl,rfl,rfl⟩
        ·rename_i h4
         rw[if_neg h4]
         intro c hc
         split at h
         ·rename_i h5
          obtain rfl:=hc.uniq (firX_is h5)
          split at h
          ·rename_i h6
           rw[if_pos ⟨rfl,h6⟩]
           cases h
           exact ⟨rfl,rfl,rfl,rfl⟩
          ·rename_i h6
           rw[if_neg (fun e=>h6 e.2)]
           exact plX_is g _ _ _ g' hq.le h
         ·cases h
     ·cases h
def plainX (s:ByteArray) (n:Int) (p:Nat):Option (Rd (NT × Nat)):=match parX s p with
 | none=>none
 | some e=>match plX s n (s.size+1) e [pieceL s p e] true with
  | none=>none
  | some (T,E,_,C)=>some (if C=0 then .ok (.mk ⟨1,1,p,0,[],[],T,[],[],false,[]⟩ [],E) else .bad E C)
theorem plainX_is {s:ByteArray} {n:Int} {p:Nat} {o:Rd (NT × Nat)} (hb:begB s (p:Int) false=true) (h:plainX s n p=some o):∃ T E O C,PlaiZ s (p:Int) n false T E O C∧o=if C=0 then .ok (.mk ⟨1,1,p,0,[],[],T,[],[],false,[]⟩ [],E.toNat) else .bad E.toNat C:=by
 have hp:p<s.size:=by have:=(beg_in hb).2;simpa using this
 unfold plainX at h
 split at h
 ·cases h
 ·rename_i e he
  have hP:=parX_is (by omega) he
  split at h
  ·cases h
  ·rename_i T E O C hx
   injection h with h
   refine ⟨T,E,O,C,?_,by rw[Int.toNat_natCast];exact h.symm⟩
   unfold PlaiZ
   rw[if_neg (by rw[hb];decide)]
   refine ⟨E,rfl,fun e' he'=>?_⟩
   rw[Int.toNat_natCast] at he' ⊢
   obtain rfl:=he'.uniq hP
   exact plX_is _ _ _ _ _ hP.le hx
def bTryA (s:ByteArray) (a:Nat) (n:Int) (g:Nat):Option (Int × List UInt8 × Bool × List UInt8 × Nat × Int):=
 if a<s.size∧(byt s a=124∨byt s a=62) then
  let t:=fndB s.size (fun t=>decide (RowE s a t))
  let p:=(hdr s a).1
  let d:=(hdr s a).2.1
  let c:=(hdr s a).2.2
  let q:=fndB s.size (fun q=>decide (FirN s p t q))
  let e:=fndB s.size (fun e=>decide (BakN s (q+1) t e))
  if RowE s a t∧FirN s p t q then
   if q<t∧¬ (byt s q=35∧p<q) then some (0,[],false,[],q,5)
   else if q=t∨BakN s (q+1) t e then
    match (if d=0 then wF s n g (min (t+1) s.size) else some (d+min (max n 0).toNat (s.size+1))) with
    | none=>none
    | some w=>match bF s d c w (decide (byt s a=62)) g (min (t+1) s.size) [] 0 (min (t+1) s.size) true with
     | none=>none
     | some (T,E,C)=>some ((if byt s a=62 then 5 else 4),T,decide (q<t),(if q<t then pieceL s (q+1) e else []),E,C)
   else none
  else none
 else none
theorem BlocZ.triedA {s:ByteArray} {a:Nat} {n:Int} {g:Nat} {st:Int} {T:List UInt8} {h:Bool} {note:List UInt8} {E:Nat} {C:Int} (hh:bTryA s a n g=some (st,T,h,note,E,C)):BlocZ s (a:Int) n st T h note (E:Int) C:=by
 unfold bTryA at hh
 split at hh
 ·rename_i h1
  dsimp only at hh
  split at hh
  ·rename_i h2
   refine .inl ⟨?_,?_⟩
   ·unfold blocB
    rw[decide_eq_true_eq]
    exact ⟨by omega,by rw[Int.toNat_natCast];exact h1⟩
   have hq:=h2.2.2.1
   show BlocI s a n st T h note (E:Int) C
   refine ⟨_,_,(hdr s a).1,(hdr s a).2.1,(hdr s a).2.2,rfl,h2.1,h2.2,?_⟩
   split at hh
   ·rename_i h3
    cases hh
    exact .inl ⟨h3.1,h3.2,rfl,rfl⟩
   ·rename_i h3
    split at hh
    ·rename_i h4
     split at hh
     ·cases hh
     ·rename_i w hw
      split at hh
      ·cases hh
      ·rename_i T2 E2 C2 hB
       cases hh
       refine .inr ⟨?_,rfl,w,_,rfl,?_,bF_sound _ _ _ _ _ _ _ _ _ _ _ _ _ _ hB⟩
       ·by_cases hqt:fndB s.size (fun q=>decide (FirN s (hdr s a).1 (fndB s.size fun t=>decide (RowE s a t)) q))<fndB s.size fun t=>decide (RowE s a t)
        ·have h5:=Decidable.of_not_not (fun e=>h3 ⟨hqt,e⟩)
         exact .inr ⟨hqt,h5.1,h5.2,decide_eq_true hqt,_,h4.resolve_left (by omega),by rw[if_pos hqt]⟩
        ·exact .inl ⟨by omega,decide_eq_false hqt,by rw[if_neg hqt]⟩
       ·split at hw
        ·rename_i hd
         rw[if_pos hd]
         exact wF_sound _ _ _ _ _ hw
        ·rename_i hd
         rw[if_neg hd]
         exact (Option.some.inj hw).symm
    ·cases hh
  ·cases hh
 ·cases hh
def leafX (s:ByteArray) (n:Int) (prop:Bool) (p:Nat):Option (Rd (NT × Nat)):=
 if isB s p 42=true then (if prop=true then some (.bad p 5) else if aliB s (p:Int)=true then some (.ok (.mk ⟨2,0,p,0,[],[],pieceL s (p+1) (aliX s p),[],[],false,[]⟩ [],aliX s p)) else none)
 else if isB s p 39=true∨isB s p 34=true then (match quoX s p with
  | some y=>some (.ok (.mk ⟨1,if isB s p 39=true then 2 else 3,p,0,[],[],[y],[],[],false,[]⟩ [],p+3))
  | none=>none)
 else if isB s p 91=true∨isB s p 123=true then none
 else if isB s p 124=true∨isB s p 62=true then (match bTryA s p n (s.size+1) with
  | some (st,T,h,t,E,C)=>some (if C=0 then .ok (.mk ⟨1,st,p,0,[],[],T,[],[],h,t⟩ [],E) else .bad E C)
  | none=>none)
 else if begB s (p:Int) false=true then (match plainK n true (restX s p) with
  | some k=>some (.ok (leafN 1 p ((restX s p).take k),p+k))
  | none=>plainX s n p)
 else some (.bad p 5)
theorem leafX_is {s:ByteArray} {n:Int} {deep p:Nat} {prop:Bool} {o:Rd (NT × Nat)} (hp:p≤s.size) (h:leafX s n prop p=some o):leafR s n deep prop p o:=by
 unfold leafX at h
 unfold leafR
 by_cases h1:isB s p 42=true
 ·rw[if_pos h1] at h ⊢
  split at h
  ·rename_i hp
   rw[if_pos hp];cases h;rfl
  rename_i hp
  rw[if_neg hp]
  split at h
  ·rename_i h2
   cases h
   refine ⟨_,_,0,aliX_is h2,?_⟩
   rw[if_pos rfl,Int.toNat_natCast]
  ·cases h
 rw[if_neg h1] at h ⊢
 by_cases h2:isB s p 39=true∨isB s p 34=true
 ·rw[if_pos h2] at h
  rw[if_pos h2.symm]
  split at h
  ·rename_i y hy
   cases h
   refine ⟨_,_,true,0,(quoX_is hy n).1,?_⟩
   rw[if_pos rfl,Int.toNat_natCast]
  ·cases h
 rw[if_neg h2] at h
 rw[if_neg (fun e=>h2 e.symm)]
 by_cases h4:isB s p 91=true∨isB s p 123=true
 ·rw[if_pos h4] at h;cases h
 rw[if_neg h4] at h ⊢
 by_cases h5:isB s p 124=true∨isB s p 62=true
 ·rw[if_pos h5] at h ⊢
  split at h
  ·rename_i st T hh t E C hq
   cases h
   exact ⟨_,_,_,_,_,_,BlocZ.triedA hq,by rw[Int.toNat_natCast]⟩
  ·cases h
 rw[if_neg h5] at h ⊢
 split at h
 ·rename_i h3
  rw[if_pos h3]
  split at h
  ·rename_i k hk
   cases h
   refine ⟨_,_,true,0,(plain_ofK (restX_pre s p) hp (fun _=>restX_len hp) hk).1,?_⟩
   rw[if_pos rfl,Int.toNat_natCast]
   rfl
  ·exact plainX_is h3 h
 ·rename_i h3
  rw[if_neg h3];cases h;rfl
def contX (s:ByteArray) (n:Int) (prop:Bool) (p:Nat):Option (Rd Tre):=
 match leafX s n prop p with
 | none=>none
 | some (.bad q c)=>some (.bad q c)
 | some (.ok x)=>
  if s.size<x.2 then none else
  if foldedN x.1=false∧firX s x.2 (rowX s x.2)<rowX s x.2∧(byt s (firX s x.2 (rowX s x.2))≠35∨firX s x.2 (rowX s x.2)=x.2) then (if passX s x.2=some (false,firX s x.2 (rowX s x.2))∧overB s (firX s x.2 (rowX s x.2))=false∧n<(colF s (firX s x.2 (rowX s x.2)):Int) then some (.bad (firX s x.2 (rowX s x.2)) 5) else none)
  else if foldedN x.1=true then (match passX s x.2 with
   | some (false,q)=>some (.ok (trailT x.1 [] false q))
   | _=>none)
  else (passX s x.2).map fun b=>.ok (trailT x.1 [] b.1 b.2)
theorem contX_is {s:ByteArray} {k:Spt} {p:Nat} {prop:Bool} {o:Rd Tre} (hp:p≤s.size) (h:contX s k.n prop p=some o):contT s k prop p o:=by
 unfold contX at h
 split at h
 ·cases h
 ·rename_i q c hl
  cases h
  exact .bad (leafX_is hp hl)
 ·rename_i x hl
  split at h
  ·cases h
  ·rename_i hsz
   refine .ok (leafX_is hp hl) ⟨_,_,⟨rowX_is (by omega),firX_is (rowX_is (by omega)).1⟩,?_⟩
   split at h
   ·rename_i h1
    rw[if_pos h1]
    split at h
    ·rename_i h2
     cases h
     exact ⟨rfl,passX_is (by omega) h2.1,h2.2.1,h2.2.2⟩
    ·cases h
   ·rename_i h1
    rw[if_neg h1]
    split at h
    ·split at h
     ·rename_i q hb
      cases h
      exact .ok (x:=([],false,q)) (passX_is (by omega) hb) ⟨fun _=>rfl,rfl⟩
     ·cases h
    rename_i hfo
    cases hb:passX s x.2 with
    | none=>rw[hb] at h;cases h
    | some b=>
     rw[hb] at h;cases h
     exact .ok (x:=([],b.1,b.2)) (passX_is (by omega) hb) ⟨fun e=>absurd e hfo,rfl⟩
section
variable (s:ByteArray) (bx:Nat→Nat→Option (Rd Tre)) (blk:Nat→Nat→Rd Tre→Prop)
def begX (k:Spt) (q:Nat):Option (Rd Tre):=
 match propX s q with
 | none=>none
 | some (A,T,E,C)=>
  if C≠0 then some (.bad E C) else if E=q then contX s k.n false q else
  if s.size<E then none else
  match (if firX s E (rowX s E)<rowX s E∧byt s (firX s E (rowX s E))≠35 then (if passX s E=some (false,firX s E (rowX s E))∧overB s (firX s E (rowX s E))=false then (match contX s k.n true (firX s E (rowX s E)) with
    | none=>none
    | some (.bad r c)=>some (.bad r c)
    | some (.ok x)=>some (.ok (x,[]))) else none)
   else (match passX s E with
    | none=>none
    | some (S,e)=>if e<s.size∧sameRow s E e=true then none else if noneB s k.n false k.flat E e=true then some (.ok (emptyT k.key [] S e,[]))
     else if s.size<e then none
     else (match openX s e with
      | none=>none
      | some true=>(match bx k.deep e with
       | none=>none
       | some (.bad r c)=>some (.bad r c)
       | some (.ok x)=>some (.ok (x,[])))
      | some false=>if isB s e 38=true∨isB s e 33=true then some (.bad e 5) else (match contX s k.n true e with
       | none=>none
       | some (.bad r c)=>some (.bad r c)
       | some (.ok x)=>some (.ok (x,[]))))):Option (Rd (Tre × Coms))) with
  | none=>none
  | some (.bad r c)=>some (.bad r c)
  | some (.ok x)=>some (.ok (x.1.1.withHead A T q x.2,x.1.2))
def nodX (k:Spt) (p:Nat):Option (Rd Tre):=
 if s.size<p then none else
 match passX s p with
 | none=>none
 | some (S,q)=>
  if noneB s k.n k.bare k.flat p q=true then some (.ok (emptyT k.key [] (S&&!k.bare) q)) else
  if s.size<q∨q<p then none else
  match (match openX s q with
   | none=>none
   | some true=>
    if k.bare=true∨sameRow s p q=false then bx k.deep q
    else if k.opens=false then some (.bad q 5)
    else if tabX s p q<q then some (.bad (tabX s p q) 4) else bx k.deep q
   | some false=>begX s bx k q:Option (Rd Tre)) with
  | none=>none
  | some (.bad r c)=>some (.bad r c)
  | some (.ok x)=>some (.ok (x.1.withLead ([]++x.1.h.lead),x.2))
variable {s bx blk}
theorem begX_is (hb:∀ d p o,bx d p=some o→blk d p o) {k:Spt} {p:Nat} {o:Rd Tre} (hp:p≤s.size) (h:begX s bx k p=some o):∃ A T E C,PropZ s (p:Int) false A T E C ∧
  if C≠0 then o=.bad E.toNat C else if E=(p:Int) then contT s k false p o else
   andR (fun o=>∃ t q,FirR s E.toNat t q ∧
    if q<t∧byt s q≠35 then passR s E.toNat (.ok ([],false,q))∧overB s q=false∧andR (contT s k true q) (fun x o=>o=.ok (x,[])) o
    else andR (passR s E.toNat) (fun b o=>(b.2.2<s.size→sameRow s E.toNat b.2.2=false) ∧
     if noneB s k.n false k.flat E.toNat b.2.2=true then o=.ok (emptyT k.key b.1 b.2.1 b.2.2,[])
     else ∃ op,OpenR s b.2.2 op ∧
      if op=true then andR (blk k.deep b.2.2) (fun x o=>o=.ok (x,b.1)) o
      else if isB s b.2.2 38=true∨isB s b.2.2 33=true then o=.bad b.2.2 5
      else andR (contT s k true b.2.2) (fun x o=>o=.ok (x,b.1)) o) o)
    (fun x o=>o=.ok (x.1.1.withHead A T p x.2,x.1.2)) o:=by
 unfold begX at h
 split at h
 ·cases h
 rename_i A T E C hpr
 refine ⟨A,T,(E:Int),C,propX_is hpr,?_⟩
 rw[Int.toNat_natCast]
 split at h
 ·rename_i hC
  rw[if_pos hC];cases h;rfl
 rename_i hC
 rw[if_neg hC]
 split at h
 ·rename_i hE
  rw[if_pos (by omega)]
  exact contX_is hp h
 rename_i hE
 rw[if_neg (by omega)]
 split at h
 ·cases h
 rename_i hs
 have hrow:=rowX_is (s:=s) (a:=E) (by omega)
 have hfir:=firX_is (s:=s) (a:=E) (t:=rowX s E) hrow.1
 have key:∀ r,(if firX s E (rowX s E)<rowX s E∧byt s (firX s E (rowX s E))≠35 then (if passX s E=some (false,firX s E (rowX s E))∧overB s (firX s E (rowX s E))=false then (match contX s k.n true (firX s E (rowX s E)) with
    | none=>none
    | some (.bad r c)=>some (.bad r c)
    | some (.ok x)=>some (.ok (x,[]))) else none)
   else (match passX s E with
    | none=>none
    | some (S,e)=>if e<s.size∧sameRow s E e=true then none else if noneB s k.n false k.flat E e=true then some (.ok (emptyT k.key [] S e,[]))
     else if s.size<e then none
     else (match openX s e with
      | none=>none
      | some true=>(match bx k.deep e with
       | none=>none
       | some (.bad r c)=>some (.bad r c)
       | some (.ok x)=>some (.ok (x,[])))
      | some false=>if isB s e 38=true∨isB s e 33=true then some (.bad e 5) else (match contX s k.n true e with
       | none=>none
       | some (.bad r c)=>some (.bad r c)
       | some (.ok x)=>some (.ok (x,[]))))):Option (Rd (Tre × Coms)))=some r→(∃ t q,FirR s E t q ∧
    if q<t∧byt s q≠35 then passR s E (.ok ([],false,q))∧overB s q=false∧andR (contT s k true q) (fun x o=>o=.ok (x,[])) r
    else andR (passR s E) (fun b o=>(b.2.2<s.size→sameRow s E b.2.2=false) ∧
     if noneB s k.n false k.flat E b.2.2=true then o=.ok (emptyT k.key b.1 b.2.1 b.2.2,[])
     else ∃ op,OpenR s b.2.2 op ∧
      if op=true then andR (blk k.deep b.2.2) (fun x o=>o=.ok (x,b.1)) o
      else if isB s b.2.2 38=true∨isB s b.2.2 33=true then o=.bad b.2.2 5
      else andR (contT s k true b.2.2) (fun x o=>o=.ok (x,b.1)) o) r):=by
  intro r hr
  refine ⟨_,_,⟨hrow,hfir⟩,?_⟩
  have hfs:firX s E (rowX s E)≤s.size:=Nat.le_trans hfir.2.1 hrow.2.1
  split at hr
  ·rename_i h1
   rw[if_pos h1]
   split at hr
   rotate_left
   ·cases hr
   rename_i h7
   refine ⟨passX_is (by omega) h7.1,h7.2,?_⟩
   split at hr
   ·cases hr
   ·rename_i r c hc
    cases hr
    exact .bad (contX_is hfs hc)
   ·rename_i x hc
    cases hr
    exact .ok (contX_is hfs hc) rfl
  ·rename_i h1
   rw[if_neg h1]
   split at hr
   ·cases hr
   ·rename_i S e hps
    split at hr
    ·cases hr
    rename_i hsr
    refine .ok (x:=([],S,e)) (passX_is (by omega) hps) ⟨fun he=>Bool.eq_false_iff.2 fun hx=>hsr ⟨he,hx⟩,?_⟩
    split at hr
    ·rename_i h2
     rw[if_pos h2];cases hr;rfl
    ·rename_i h2
     rw[if_neg h2]
     split at hr
     ·cases hr
     rename_i hes
     split at hr
     ·cases hr
     ·rename_i ho
      refine ⟨true,openX_is ho,?_⟩
      rw[if_pos rfl]
      split at hr
      ·cases hr
      ·rename_i r c hc
       cases hr
       exact .bad (hb _ _ _ hc)
      ·rename_i x hc
       cases hr
       exact .ok (hb _ _ _ hc) rfl
     ·rename_i ho
      refine ⟨false,openX_is ho,?_⟩
      rw[if_neg (by decide)]
      split at hr
      ·rename_i h3
       rw[if_pos h3];cases hr;rfl
      ·rename_i h3
       rw[if_neg h3]
       split at hr
       ·cases hr
       ·rename_i r c hc
        cases hr
        exact .bad (contX_is (by show e≤_;omega) hc)
       ·rename_i x hc
        cases hr
        exact .ok (contX_is (by show e≤_;omega) hc) rfl
 split at h
 ·cases h
 ·rename_i r c hr
  cases h
  exact .bad (key _ hr)
 ·rename_i x hr
  cases h
  exact .ok (key _ hr) rfl
theorem nodX_is (hb:∀ d p o,bx d p=some o→blk d p o) {k:Spt} {p:Nat} {o:Rd Tre} (h:nodX s bx k p=some o):nodT s blk k p o:=by
 unfold nodX at h
 split at h
 ·cases h
 ·rename_i hp
  split at h
  ·cases h
  ·rename_i S q hps
   refine .ok (x:=([],S,q)) (passX_is (by omega) hps) ?_
   split at h
   ·rename_i hn
    rw[if_pos hn];cases h;rfl
   ·rename_i hn
    rw[if_neg hn]
    split at h
    ·cases h
    ·rename_i hq
     have key:∀ r,(match openX s q with
      | none=>none
      | some true=>
       if k.bare=true∨sameRow s p q=false then bx k.deep q
       else if k.opens=false then some (.bad q 5)
       else if tabX s p q<q then some (.bad (tabX s p q) 4) else bx k.deep q
      | some false=>begX s bx k q:Option (Rd Tre))=some r→begT s blk k p q r:=by
      intro r hr
      split at hr
      ·cases hr
      ·rename_i ho
       refine ⟨true,openX_is ho,?_⟩
       rw[if_pos rfl]
       split at hr
       ·rename_i h1;rw[if_pos h1];exact hb _ _ _ hr
       ·rename_i h1
        rw[if_neg h1]
        split at hr
        ·rename_i h2;rw[if_pos h2];cases hr;rfl
        ·rename_i h2
         rw[if_neg h2]
         split at hr
         ·rename_i h3
          cases hr
          exact .inl ⟨_,(tabX_is (by omega)).1 h3,rfl⟩
         ·rename_i h3
          exact .inr ⟨(tabX_is (by omega)).2 h3,hb _ _ _ hr⟩
      ·rename_i ho
       exact ⟨false,openX_is ho,by rw[if_neg (by decide)];exact begX_is hb (by omega) hr⟩
     split at h
     ·cases h
     ·rename_i r c hr
      cases h
      exact .bad (key _ hr)
     ·rename_i x hr
      cases h
      exact .ok (key _ hr) rfl
def seqX (s:ByteArray) (bx:Nat→Nat→Option (Rd Tre)) (c deep:Nat):Nat→Nat→Coms→List NT→Option (Rd (List NT × Coms × Nat))
 | 0,_,_,_=>none
 | g+1,p,lead,kids=>
  match nodX s bx ⟨c,true,false,false,deep,false⟩ (p+1) with
  | none=>none
  | some (.bad q e)=>some (.bad q e)
  | some (.ok x)=>
   if overB s x.2.2=true∨(colF s x.2.2≤c∧(colF s x.2.2<c∨markB s x.2.2 45=false)) then some (.ok (kids++[x.1.withTop (lead++x.1.h.lead) (abvX s p)],x.2))
   else if c<colF s x.2.2 then some (.bad x.2.2 5)
   else seqX s bx c deep g x.2.2 x.2.1 (kids++[x.1.withTop (lead++x.1.h.lead) (abvX s p)])
theorem seqX_is (hb:∀ d p o,bx d p=some o→blk d p o) {c deep:Nat} {o:Rd (List NT × Coms × Nat)}:∀ (g p:Nat) (lead:Coms) (kids:List NT),seqX s bx c deep g p lead kids=some o→SeqT s blk c deep o p lead kids
 | 0,_,_,_,h=>by cases h
 | g+1,p,lead,kids,h=>by
  unfold seqX at h
  split at h
  ·cases h
  ·rename_i q e hn
   exact .bad (nodX_is hb hn) (Option.some.inj h).symm
  ·rename_i x hn
   have hn:=nodX_is hb hn
   split at h
   ·rename_i h1
    exact .over hn (abvX_is s p) h1 (Option.some.inj h).symm
   ·rename_i h1
    rw[not_or] at h1
    obtain ⟨h1,h2⟩:=h1
    have h1:overB s x.2.2=false:=by simpa using h1
    split at h
    ·rename_i h3
     exact .far hn h1 h3 (Option.some.inj h).symm
    ·rename_i h3
     have h4:colF s x.2.2=c:=by
      by_cases e:colF s x.2.2<c
      ·exact absurd ⟨by omega,.inl e⟩ h2
      ·omega
     have h5:markB s x.2.2 45=true:=by
      cases hm:markB s x.2.2 45 with
      | true=>rfl
      | false=>exact absurd ⟨by omega,.inr hm⟩ h2
     exact .go hn (abvX_is s p) h1 h4 h5 (seqX_is hb g _ _ _ h)
def implX (s:ByteArray) (p:Nat):Option (Rd (NT × Nat)):=
 match keyX s p with
 | some (some colon)=>
  if propX s p≠some ([],[],p,0)∨(p<colon∧markB s p 58=true) then none
  else if p<colon then (if begB s (p:Int) false=true then (match plainK 1000000 true (restX s p) with
    | some k=>if p+k≤colon∧firX s (p+k) colon=colon then some (.ok (.mk ⟨1,1,p,0,[],[],pieceL s p (p+k),[],[],false,[]⟩ [],colon)) else none
    | none=>none)
   else (match leafX s (-1) false p with
    | none=>none
    | some (.bad q e)=>some (.bad q e)
    | some (.ok x)=>if x.2≤colon∧firX s x.2 colon=colon then some (.ok (x.1,colon)) else none))
  else some (.ok (voidN,colon))
 | _=>none
theorem implX_is {deep p:Nat} {o:Rd (NT × Nat)} (h:implX s p=some o):implR s deep p o:=by
 unfold implX at h
 split at h
 ·rename_i colon hk
  split at h
  ·cases h
  ·rename_i hpr
   have hps:p≤s.size:=by
    unfold keyX at hk
    split at hk
    ·cases hk
    ·omega
   rw[not_or] at hpr
   refine ⟨colon,[],[],(p:Int),0,p,keyX_is hk,propX_is (Decidable.not_not.1 hpr.1),by rw[Int.toNat_natCast,if_neg (by omega)],fun h9=>Bool.eq_false_iff.2 fun h8=>hpr.2 ⟨h9,h8⟩,fun h9=>absurd h9 (by rw[Int.toNat_natCast];omega),?_⟩
   have e0:¬ (p<((p:Nat):Int).toNat):=by rw[Int.toNat_natCast];omega
   split at h
   ·rename_i h1
    split at h
    ·rename_i h2
     split at h
     ·rename_i k hk
      split at h
      rotate_left
      ·cases h
      rename_i h3
      cases h
      refine .ok (x:=(.mk ⟨1,1,p,0,[],[],pieceL s p (p+k),[],[],false,[]⟩ [])) ?_ (by rw[if_neg e0])
      rw[if_pos h1,if_pos h2]
      exact ⟨p+k,(plain_ofK (restX_pre s p) hps (fun _=>restX_len hps) hk).2.2,⟨h3.1,fun j j1 j2=>(firX_is (s:=s) h3.1).2.2.1 j (by rw[h3.2];exact j1) j2⟩,rfl⟩
     ·cases h
    ·rename_i h2
     split at h
     ·cases h
     ·rename_i q e hl
      cases h
      refine .bad ?_
      rw[if_pos h1,if_neg h2,decide_eq_false e0]
      exact .bad (leafX_is hps hl)
     ·rename_i x hl
      split at h
      ·rename_i h3
       cases h
       refine .ok (x:=x.1) ?_ (by rw[if_neg e0])
       rw[if_pos h1,if_neg h2,decide_eq_false e0]
       refine .ok (leafX_is hps hl) ⟨⟨h3.1,fun j j1 j2=>(firX_is (s:=s) h3.1).2.2.1 j (by rw[h3.2];exact j1) j2⟩,rfl⟩
      ·cases h
   ·rename_i h1
    cases h
    refine .ok (x:=voidN) ?_ (by rw[if_neg e0])
    rw[if_neg h1]
 ·cases h
def pairX (s:ByteArray) (bx:Nat→Nat→Option (Rd Tre)) (c deep p:Nat):Option (Rd (NT × NT × Coms × Nat)):=
 if markB s p 63=true then
  (match nodX s bx ⟨c,true,false,true,deep,true⟩ (p+1) with
  | none=>none
  | some (.bad q e)=>some (.bad q e)
  | some (.ok k)=>
   if overB s k.2.2=true∨colF s k.2.2≠c∨markB s k.2.2 58=false then some (.ok (untrail k.1,voidN.withLead (if k.1.h.ht=true then [(k.1.h.trail,0)] else []),k.2))
   else (match nodX s bx ⟨c,true,false,true,deep,false⟩ (k.2.2+1) with
    | none=>none
    | some (.bad q e)=>some (.bad q e)
    | some (.ok v)=>some (.ok (untrail k.1,v.1.withLead ((if k.1.h.ht=true then [(k.1.h.trail,0)] else [])++k.2.1++v.1.h.lead),v.2))))
 else (match implX s p with
  | none=>none
  | some (.bad q e)=>some (.bad q e)
  | some (.ok k)=>(match nodX s bx ⟨c,false,false,true,deep,false⟩ (k.2+1) with
   | none=>none
   | some (.bad q e)=>some (.bad q e)
   | some (.ok v)=>some (.ok (k.1,v.1,v.2))))
theorem pairX_is (hb:∀ d p o,bx d p=some o→blk d p o) {c deep p:Nat} {o:Rd (NT × NT × Coms × Nat)} (h:pairX s bx c deep p=some o):pairQ s blk c deep p o:=by
 unfold pairX at h
 unfold pairQ
 split at h
 ·rename_i h0
  rw[if_pos h0]
  split at h
  ·cases h
  ·rename_i q e hn
   cases h
   exact .bad (nodX_is hb hn)
  ·rename_i k hn
   have hn:=nodX_is hb hn
   split at h
   ·rename_i h1
    cases h
    refine .ok hn ⟨_,rfl,_,rfl,?_⟩
    rw[if_pos h1]
   ·rename_i h1
    split at h
    ·cases h
    ·rename_i q e hv
     cases h
     refine .ok hn ⟨_,rfl,_,rfl,?_⟩
     rw[if_neg h1]
     exact .bad (nodX_is hb hv)
    ·rename_i v hv
     cases h
     refine .ok hn ⟨_,rfl,_,rfl,?_⟩
     rw[if_neg h1]
     exact .ok (nodX_is hb hv) rfl
 ·rename_i h0
  rw[if_neg h0]
  split at h
  ·cases h
  ·rename_i q e hi
   cases h
   exact .bad (implX_is hi)
  ·rename_i k hi
   split at h
   ·cases h
   ·rename_i q e hv
    cases h
    exact .ok (implX_is hi) (.bad (nodX_is hb hv))
   ·rename_i v hv
    cases h
    exact .ok (implX_is hi) (.ok (nodX_is hb hv) rfl)
def mapX (s:ByteArray) (bx:Nat→Nat→Option (Rd Tre)) (c deep:Nat):Nat→Nat→Coms→List NT→Option (Rd (List NT × Coms × Nat))
 | 0,_,_,_=>none
 | g+1,p,lead,kids=>
  match pairX s bx c deep p with
  | none=>none
  | some (.bad q e)=>some (.bad q e)
  | some (.ok x)=>
   if overB s x.2.2.2=true∨colF s x.2.2.2<c then some (.ok (kids++[x.1.withTop (lead++x.1.h.lead) (abvX s p),x.2.1],x.2.2))
   else (match keyX s x.2.2.2 with
    | none=>none
    | some r=>if U.white (byt s x.2.2.2:Int)=true then none else
     if c<colF s x.2.2.2∨(colF s x.2.2.2=c∧r=none∧markB s x.2.2.2 63=false) then some (.bad x.2.2.2 5)
     else mapX s bx c deep g x.2.2.2 x.2.2.1 (kids++[x.1.withTop (lead++x.1.h.lead) (abvX s p),x.2.1]))
theorem mapX_is (hb:∀ d p o,bx d p=some o→blk d p o) {c deep:Nat} {o:Rd (List NT × Coms × Nat)}:∀ (g p:Nat) (lead:Coms) (kids:List NT),mapX s bx c deep g p lead kids=some o→MapT s blk c deep o p lead kids
 | 0,_,_,_,h=>by cases h
 | g+1,p,lead,kids,h=>by
  unfold mapX at h
  split at h
  ·cases h
  ·rename_i q e hn
   exact .bad (pairX_is hb hn) (Option.some.inj h).symm
  ·rename_i x hn
   have hn:=pairX_is hb hn
   split at h
   ·rename_i h1
    exact .over hn (abvX_is s p) h1 (Option.some.inj h).symm
   ·rename_i h1
    rw[not_or] at h1
    obtain ⟨h1,h2⟩:=h1
    have h1:overB s x.2.2.2=false:=by simpa using h1
    split at h
    ·cases h
    ·rename_i r hr
     have hr:=keyX_is hr
     split at h
     ·cases h
     rename_i hw
     have hw:U.white (byt s x.2.2.2:Int)=false:=by simpa using hw
     split at h
     ·rename_i h3
      exact .far hn h1 hr hw h3 (Option.some.inj h).symm
     ·rename_i h3
      rw[not_or] at h3
      have h4:colF s x.2.2.2=c:=by omega
      refine .go hn (abvX_is s p) h1 hr hw h4 ?_ (mapX_is hb g _ _ _ h)
      by_cases e:r=none
      ·right
       cases hm:markB s x.2.2.2 63 with
       | true=>rfl
       | false=>exact absurd ⟨h4,e,hm⟩ h3.2
      ·exact .inl e
end
def blkX (s:ByteArray):Nat→Nat→Nat→Option (Rd Tre)
 | 0,_,_=>none
 | g+1,deep,p=>if 40≤deep then some (.bad p 6) else
  if markB s p 45=true then (match seqX s (blkX s g) (colF s p) (deep+1) (s.size+1) p [] [] with
   | none=>none
   | some (.bad q e)=>some (.bad q e)
   | some (.ok r)=>some (.ok (.mk ⟨3,6,p,0,[],[],[],[],[],false,[]⟩ r.1,r.2)))
  else (match mapX s (blkX s g) (colF s p) (deep+1) (s.size+1) p [] [] with
   | none=>none
   | some (.bad q e)=>some (.bad q e)
   | some (.ok r)=>some (.ok (.mk ⟨4,6,p,0,[],[],[],[],[],false,[]⟩ r.1,r.2)))
theorem blkX_is {s:ByteArray}:∀ (g deep p:Nat) (o:Rd Tre),blkX s g deep p=some o→blkR s g deep p o
 | 0,_,_,_,h=>by cases h
 | g+1,deep,p,o,h=>by
  unfold blkX at h
  split at h
  ·rename_i h0
   cases h
   exact .inl ⟨h0,rfl⟩
  ·rename_i h0
   refine .inr ⟨by omega,?_⟩
   split at h
   ·rename_i h1
    rw[if_pos h1]
    split at h
    ·cases h
    ·rename_i q e hq
     cases h
     exact .bad (seqX_is (blkX_is g) _ _ _ _ hq)
    ·rename_i r hq
     cases h
     exact .ok (seqX_is (blkX_is g) _ _ _ _ hq) rfl
   ·rename_i h1
    rw[if_neg h1]
    split at h
    ·cases h
    ·rename_i q e hq
     cases h
     exact .bad (mapX_is (blkX_is g) _ _ _ _ hq)
    ·rename_i r hq
     cases h
     exact .ok (mapX_is (blkX_is g) _ _ _ _ hq) rfl
def treeX (s:ByteArray) (at':Int) (beside:Bool):Option (Rd Tre):=nodX s (blkX s 8) ⟨-1,false,!beside,false,0,false⟩ (min at' (s.size:Int)).toNat
def treeA (s:ByteArray) (o:Rd Tre):Option NT × Coms × Int × Int:=match o with
 | .ok r=>if overB s r.2.2=true then (some r.1,r.2.1,(r.2.2:Int),0) else (none,[],(r.2.2:Int),5)
 | .bad p c=>(none,[],(p:Int),c)
theorem treeX_is {s:ByteArray} {at':Int} {beside:Bool} {o:Rd Tre} (h:treeX s at' beside=some o):TreeZ s at' beside (treeA s o).1 (treeA s o).2.1 (treeA s o).2.2.1 (treeA s o).2.2.2:=by
 refine ⟨8,o,nodX_is (blkX_is 8) h,?_⟩
 cases o with
 | ok r=>
  unfold treeA
  by_cases hr:overB s r.2.2=true
  ·simp only[if_pos hr,and_self]
  ·simp only[if_neg hr,and_self]
 | bad p c=>exact ⟨rfl,rfl,rfl,rfl⟩
end Go.Proofs.YthcmkpiajkbpnaaGreatDoor
