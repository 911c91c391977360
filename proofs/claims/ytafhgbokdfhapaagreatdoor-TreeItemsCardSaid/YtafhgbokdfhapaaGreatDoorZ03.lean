/- Parts of the proof, put together from smaller texts (blanks that Lean does not want are struck). Conditions: those that each theorem writes out. -/
import Derived.Test.YtafhgbokdfhapaaGreatDoorZ01
import Derived.Test.YtafhgbokdfhapaaGreatDoorZ02
namespace Go.Proofs.YtafhgbokdfhapaaGreatDoor
open Go.RowKit
theorem NZ.far_le {s:ByteArray} {wi:Bool} {n:Int} {a:Nat} {sm:Bool} {L:List (List UInt8 × Nat)} {S:Bool} {E:Nat} {C:Int} {p:Nat} {m f:Bool} {o:List (List UInt8 × Nat)} {b:Bool}
  (h:NZ s wi n a sm L S E C p m f o b):p≤s.size→p≤E∧E≤s.size:=by
 induction h with
 | over h1 h2 h3 h4 h5=>intro hp;omega
 | mark h1 h2 h3 h4 h5 h6 h7 h8=>intro hp;omega
 | markX h1 h2 h3 h4 h5 h6 h7 h8 h9=>intro hp;omega
 | tab h1 h2 h3 h4 h5 h6 h7 h8 h9=>
  intro hp
  obtain ⟨k1,k2,_⟩:=h6
  obtain ⟨g1,g2,_⟩:=h3
  have:=h2.2.1
  omega
 | far h1 h2 h3 h4 h5 h6 h7 h8 h9 h10 h11=>
  intro hp
  obtain ⟨g1,g2,_⟩:=h3
  have:=h2.2.1
  omega
 | met h1 h2 h3 h4 h5 h6 h7 h8 h9 ih=>exact ih
 | white h1 h2 h3 ih=>intro hp;have:=ih (by omega);omega
 | lf h1 h2 h3 ih=>intro hp;have:=ih (by omega);omega
 | com h1 h2 h3 h4 h5 h6 ih=>
  intro hp
  have:=nt_row h2 h1 h3
  have:=h3.2.1
  have:=ih (by omega)
  omega
 | stop h1 h2 h3 h4 h5 h6 h7 h8=>intro hp;omega
theorem clampN_nat {k z:Nat} (h:k≤z):clampN (k:Int) z=k:=clampN_self _ _ h
theorem NoteZ.far_le {s:ByteArray} {wi:Bool} {n:Int} {p:Nat} {L:List (List UInt8 × Nat)} {S:Bool} {E C:Int} (h:NoteZ s wi n (p:Int) L S E C) (hp:p≤s.size):∃ E':Nat,E=(E':Int)∧p≤E'∧E'≤s.size:=by
 obtain ⟨r0,E',_,rfl,hN⟩:=h
 rw[clampN_nat hp] at hN
 exact ⟨E',rfl,hN.far_le hp⟩
theorem PZ.far_le {s:ByteArray} {fl:Bool} {A T:List UInt8} {E:Nat} {C:Int} {p e:Nat} {a t:List UInt8} (h:PZ s fl A T E C p e a t):∀ p0,p0≤e→e≤p→p≤s.size→p0≤E∧E≤s.size:=by
 induction h with
 | none h1 h2 h3 h4 h5=>intro p0 _ _ _;omega
 | anchor0 h1 h2 h3 h4 h5 h6 h7=>intro p0 _ _ _;omega
 | tag0 h1 h2 h3 h4 h5 h6 h7=>intro p0 _ _ _;omega
 | @anchorX p e a t q h1 h2 h3 h4 h5 h6 h7 h8 h9 h10=>intro p0 _ _ _;have:=nm_le (s:=s) (k:=p+1) (by omega);omega
 | @tagX p e a t q h1 h2 h3 h4 h5 h6 h7 h8 h9=>intro p0 _ _ _;have:=tg_le (s:=s) (k:=p) (by omega);omega
 | @anchorL p e a t q h1 h2 h3 h4 h5 h6 h7 h8 h9 h10 h11=>intro p0 _ _ _;have:=nm_le (s:=s) (k:=p+1) (by omega);omega
 | @tagL p e a t q h1 h2 h3 h4 h5 h6 h7 h8 h9 h10=>intro p0 _ _ _;have:=tg_le (s:=s) (k:=p) (by omega);omega
 | @anchor p e a t q h1 h2 h3 h4 h5 h6 h7 h8 ih=>
  intro p0 _ _ _
  have:=nm_le (s:=s) (k:=p+1) (by omega)
  have:=wh_le (s:=s) (k:=q) (by omega)
  exact ih p0 (by omega) (by omega) (by omega)
 | @tag p e a t q h1 h2 h3 h4 h5 h6 h7 ih=>
  intro p0 _ _ _
  have:=tg_le (s:=s) (k:=p) (by omega)
  have:=wh_le (s:=s) (k:=q) (by omega)
  exact ih p0 (by omega) (by omega) (by omega)
theorem PropZ.far_le {s:ByteArray} {fl:Bool} {A T:List UInt8} {E C:Int} {p:Nat} (h:PropZ s (p:Int) fl A T E C) (hp:p≤s.size):∃ E':Nat,E=(E':Int)∧p≤E'∧E'≤s.size:=by
 rcases h with ⟨_,E',rfl,hZ⟩|⟨h,_⟩
 ·rw[Int.toNat_natCast] at hZ
  exact ⟨E',rfl,hZ.far_le p (Nat.le_refl _) (Nat.le_refl _) hp⟩
 ·omega
theorem AliZ.far_le {s:ByteArray} {A:List UInt8} {E C:Int} {p:Nat} (h:AliZ s (p:Int) A E C):(C=0∧∃ E':Nat,E=(E':Int)∧p<E'∧E'≤s.size)∨(C=5∧E=(p:Int)):=by
 rcases h with ⟨h0,_,hE,hC⟩|⟨_,_,hE,hC⟩
 ·unfold aliB at h0
  rw[decide_eq_true_eq,Int.toNat_natCast] at h0
  rw[Int.toNat_natCast] at hE
  have:=nm_le (s:=s) (k:=p+1) (by omega)
  exact .inl ⟨hC,p+1+nmN s (p+1),by omega,by omega,by omega⟩
 ·exact .inr ⟨hC,hE⟩
theorem QZ.far_le {s:ByteArray} {q:Nat} {n:Int} {T:List UInt8} {E:Nat} {O:Bool} {C:Int} {p:Nat} {m:Bool} {R:List (List UInt8 × Bool)} {t w:List UInt8} (h:QZ s q n T E O C p m R t w):p≤s.size→p≤E∧E≤s.size:=by
 induction h with
 | over h1 h2 h3 h4 h5=>intro hp;omega
 | done h1 h2 h3 h4 h5 h6 h7=>intro hp;omega
 | twice h1 h2 h3 h4 h5 h6 ih=>intro hp;have:=ih (by omega);omega
 | goes h1 h2 h3 h4 h5 h6 ih=>intro hp;have:=ih (by omega);omega
 | @esc p R t w c k h1 h2 h3 h4 h5 h6 ih=>
  intro hp
  have:=U.esc_len h5
  rw[drop_len] at this
  have:=ih (by omega)
  omega
 | bad h1 h2 h3 h4 h5 h6 h7 h8 h9=>intro hp;omega
 | lf h1 h2 h3 ih=>intro hp;have:=ih (by omega);omega
 | white h1 h2 h3 ih=>intro hp;have:=ih (by omega);omega
 | lit h1 h2 h3 h4 h5 h6 ih=>intro hp;have:=ih (by omega);omega
 | mark h1 h2 h3 h4 h5 h6 h7=>intro hp;omega
 | near h1 h2 h3 h4 h5 h6 h7 h8 h9 h10 h11=>intro hp;obtain ⟨g1,g2,_⟩:=h2;have:=h1.2.1;omega
 | row h1 h2 h3 h4 h5 h6 h7 ih=>intro hp;obtain ⟨g1,g2,_⟩:=h2;have:=h1.2.1;have:=ih (by omega);omega
theorem QuoZ.far_le {s:ByteArray} {n:Int} {T:List UInt8} {E:Int} {O:Bool} {C:Int} {p:Nat} (h:QuoZ s (p:Int) n T E O C) (hp:p<s.size) (hq:byt s p=39∨byt s p=34):∃ E':Nat,E=(E':Int)∧p<E'∧E'≤s.size:=by
 unfold QuoZ at h
 rw[if_pos (by rw[Int.toNat_natCast];exact ⟨by omega,hp,hq⟩),Int.toNat_natCast] at h
 obtain ⟨E',rfl,hZ⟩:=h
 have:=hZ.far_le (by omega)
 exact ⟨E',rfl,by omega,this.2⟩
theorem PlaiG.far_le {s:ByteArray} {n:Int} {fl:Bool} {T:List UInt8} {E:Nat} {O:Bool} {C:Int}:∀ (g e:Nat) (R:List (List UInt8)) (one:Bool),s.size<e+g→e≤s.size→PlaiG s n fl T E O C g e R one→e≤E∧E≤s.size:=by
 intro g
 induction g with
 | zero=>intro e R one h1 h2;omega
 | succ g ih=>
  intro e R one hg he h
  unfold PlaiG at h
  obtain ⟨t,ht⟩:=RowE.ex s e he
  obtain ⟨f,hf⟩:=FirN.ex s e t ht.1
  have h:=h t f ht hf
  have t1:=ht.1
  have t2:=ht.2.1
  split at h
  ·omega
  rename_i hn1
  obtain ⟨k,a,hk⟩:=Blk.ex s (s.size+1) (t+1) (by omega)
  have hka:=hk.ge
  have h:=h k a hk
  split at h
  ·omega
  rename_i hn2
  obtain ⟨b,hb⟩:=RowE.ex s a (by omega)
  obtain ⟨i,hi⟩:=InN.ex s a b hb.1
  obtain ⟨p,hp⟩:=FirN.ex s a b hb.1
  have h:=h b i p hb hi hp
  have b1:=hb.1
  have b2:=hb.2.1
  have p1:=hp.1
  have p2:=hp.2.1
  split at h
  ·omega
  obtain ⟨q,hq⟩:=ParN.ex s fl p (by omega)
  have h:=h q hq
  have q1:=hq.ge
  have q2:=hq.le
  have q3:=hq.row (b:=b) ⟨p2,b2,fun j j1 j2=>hb.2.2.1 j j1 (by omega),hb.2.2.2⟩
  split at h
  ·omega
  obtain ⟨c,hc⟩:=FirN.ex s q b q3
  have h:=h c hc
  have c1:=hc.1
  have c2:=hc.2.1
  split at h
  ·omega
  have:=ih q _ _ (by omega) q2 h
  omega
theorem beg_bits (x y:Nat) (z fl:Bool) (h:((!(U.endc (x:Int)))&&(!(U.indic (x:Int))||(decide (x=45∨x=63∨x=58)&&(!z&&!(fl&&U.flow (y:Int))))))=true) :
  U.white (x:Int)=false∧x≠10∧x≠35∧(fl&&U.flow (x:Int))=false∧(decide (x=58)&&(z||(fl&&U.flow (y:Int))))=false:=by
 unfold U.indic U.flow U.endc at h
 unfold U.white U.flow
 by_cases h58:x=58
 ·subst h58
  revert h
  cases z <;> cases fl <;> simp
 ·have e:decide (x=58)=false:=decide_eq_false h58
  rw[e,Bool.false_and]
  rw[Bool.and_eq_true,Bool.or_eq_true] at h
  obtain ⟨h1,h2⟩:=h
  rw[Bool.not_eq_true',decide_eq_false_iff_not] at h1
  have hf:¬ ((x:Int)=44∨(x:Int)=91∨(x:Int)=93∨(x:Int)=123∨(x:Int)=125)∧x≠35:=by
   rcases h2 with h2|h2
   ·rw[Bool.not_eq_true',decide_eq_false_iff_not,decide_eq_true_eq] at h2
    omega
   ·rw[Bool.and_eq_true,decide_eq_true_eq] at h2
    omega
  refine ⟨decide_eq_false (by omega),by omega,hf.2,?_,rfl⟩
  rw[decide_eq_false hf.1,Bool.and_false]
theorem beg_part {s:ByteArray} {fl:Bool} {p e:Nat} (hb:begB s (p:Int) fl=true) (he:ParN s fl p e):p<e:=by
 have hp:=(beg_in hb).2
 rw[Int.toNat_natCast] at hp
 unfold begB at hb
 rw[show endsB s (p:Int)=U.endc (byt s p:Int) by unfold endsB;rw[if_neg (by omega),Int.toNat_natCast],Int.toNat_natCast] at hb
 obtain ⟨k1,k2,k3,k4,k5⟩:=beg_bits _ _ _ _ hb
 obtain ⟨q,hq,hk⟩:=he
 have hs:stopB s fl p=false:=by
  unfold stopB
  rw[k4,k5,decide_eq_false k2,decide_eq_false k3]
  rfl
 have hpq:p<q:=by
  have:=hq.1
  refine Decidable.byContradiction fun hc=>?_
  have e:q=p:=by omega
  rcases hq.2.2.2 with h|h
  ·omega
  ·rw[e,hs] at h;cases h
 refine Decidable.byContradiction fun hc=>?_
 have:=hk.2.2.1 p hpq (by omega)
 rw[k1] at this
 cases this
theorem PlaiZ.far_le {s:ByteArray} {n:Int} {fl:Bool} {T:List UInt8} {E:Int} {O:Bool} {C:Int} {p:Nat} (h:PlaiZ s (p:Int) n fl T E O C) (hb:begB s (p:Int) fl=true):∃ E':Nat,E=(E':Int)∧p<E'∧E'≤s.size:=by
 unfold PlaiZ at h
 rw[if_neg (by rw[hb];decide),Int.toNat_natCast] at h
 obtain ⟨E',rfl,h⟩:=h
 have hp:=(beg_in hb).2
 rw[Int.toNat_natCast] at hp
 obtain ⟨e,he⟩:=ParN.ex s fl p (by omega)
 have h1:=beg_part hb he
 have:=PlaiG.far_le _ _ _ _ (by omega) he.le (h e he)
 exact ⟨E',rfl,by omega,this.2⟩
theorem isB_lt {s:ByteArray} {p c:Nat} (h:isB s p c=true):p<s.size∧byt s p=c:=by unfold isB at h;rwa [decide_eq_true_eq] at h
theorem sign_lt {s:ByteArray} {p:Nat} {near:Bool} (h:signB s p near=true):p<s.size:=by
 unfold signB at h
 rw[Bool.and_eq_true] at h
 exact (isB_lt h.1).1
section
variable {s:ByteArray} {n:Int} {col:Nat→Nat→Rd (NT × Nat)→Prop}
theorem betw_far {p:Nat} {b:Coms × Bool × Nat} (h:betwR s n p (.ok b)) (hp:p≤s.size):p≤b.2.2∧b.2.2≤s.size:=by
 obtain ⟨L,S,E,C,hZ,e⟩:=h
 obtain ⟨E',rfl,h1,h2⟩:=hZ.far_le hp
 split at e
 ·injection e with e;subst e;exact ⟨h1,h2⟩
 ·cases e
def GoesC (s:ByteArray) (col:Nat→Nat→Rd (NT × Nat)→Prop):Prop:=∀ deep p r,p<s.size→col deep p (.ok r)→p<r.2∧r.2≤s.size
theorem cont_far (hc:GoesC s col) {deep p:Nat} {prop:Bool} {f:Fd} (h:contR s n col deep p prop (.ok f)) (hp:p≤s.size):p≤f.fin∧f.fin≤s.size∧(f.any=true→p<f.fin):=by
 unfold contR at h
 split at h
 ·split at h
  ·cases h
  ·obtain ⟨A,E,C,hZ,e⟩:=h
   rcases hZ.far_le with ⟨rfl,E',rfl,h1,h2⟩|⟨rfl,_⟩
   ·rw[if_pos rfl] at e;injection e with e;subst e;exact ⟨by simpa using Nat.le_of_lt h1,by simpa using h2,fun _=>by simpa using h1⟩
   ·rw[if_neg (by decide)] at e;cases e
 ·rename_i h42
  split at h
  ·rename_i hq
   obtain ⟨T,E,O,C,hZ,e⟩:=h
   have hq2:p<s.size∧(byt s p=39∨byt s p=34):=by
    rcases hq with hq|hq
    ·exact ⟨(isB_lt hq).1,.inr (isB_lt hq).2⟩
    ·exact ⟨(isB_lt hq).1,.inl (isB_lt hq).2⟩
   obtain ⟨E',rfl,h1,h2⟩:=hZ.far_le hq2.1 hq2.2
   split at e
   ·injection e with e;subst e;exact ⟨by simpa using Nat.le_of_lt h1,by simpa using h2,fun _=>by simpa using h1⟩
   ·cases e
  ·split at h
   ·rename_i hq
    have hp2:p<s.size:=by
     rcases hq with hq|hq
     ·exact (isB_lt hq).1
     ·exact (isB_lt hq).1
    rcases h with ⟨q,c,_,e⟩|⟨r,h1,e⟩
    ·cases e
    ·injection e with e;subst e
     have:=hc deep p r hp2 h1
     exact ⟨Nat.le_of_lt this.1,this.2,fun _=>this.1⟩
   ·split at h
    ·rename_i hb
     obtain ⟨T,E,O,C,hZ,e⟩:=h
     obtain ⟨E',rfl,h1,h2⟩:=hZ.far_le hb
     split at e
     ·injection e with e;subst e;exact ⟨by simpa using Nat.le_of_lt h1,by simpa using h2,fun _=>by simpa using h1⟩
     ·cases e
    ·injection h with e;subst e;exact ⟨Nat.le_refl _,hp,fun h=>by cases h⟩
theorem node_far (hc:GoesC s col) {deep p:Nat} {f:Fd} (h:nodeR s n col deep p (.ok f)) (hp:p≤s.size):p≤f.fin∧f.fin≤s.size∧(f.any=true→p<f.fin):=by
 obtain ⟨A,T,E,C,hZ,h⟩:=h
 obtain ⟨E',rfl,g1,g2⟩:=hZ.far_le hp
 split at h
 ·cases h
 ·rw[Int.toNat_natCast] at h
  rcases h with ⟨q,c,_,e⟩|⟨b,hb,h⟩
  ·cases e
  ·have hb2:E'≤b.2.2∧b.2.2≤s.size:=by
    split at hb
    ·exact betw_far hb g2
    ·injection hb with hb;subst hb;exact ⟨Nat.le_refl _,g2⟩
   rcases h with ⟨q,c,_,e⟩|⟨f2,hf2,e⟩
   ·cases e
   ·injection e with e
    have h3:=cont_far hc hf2 hb2.2
    split at e
    ·rename_i ha
     subst e
     have:=h3.2.2 ha
     exact ⟨by show p≤f2.fin;omega,h3.2.1,fun _=>by show p<f2.fin;omega⟩
    ·split at e
     ·subst e;rename_i hlt;exact ⟨g1,g2,fun _=>hlt⟩
     ·subst e;exact ⟨g1,g2,fun h=>by cases h⟩
theorem some_far (hc:GoesC s col) {deep p:Nat} {f:Fd} (h:someR s n col deep p (.ok f)) (hp:p≤s.size):p<f.fin∧f.fin≤s.size∧f.any=true:=by
 rcases h with ⟨q,c,_,e⟩|⟨f2,hf2,e⟩
 ·cases e
 ·split at e
  ·rename_i ha
   injection e with e
   subst e
   have h3:=node_far hc hf2 hp
   exact ⟨h3.2.2 ha,h3.2.1,ha⟩
  ·cases e
theorem value_far (hc:GoesC s col) {lead:Coms} {deep p:Nat} {v:NT × Rst} (h:valueR s n col lead deep p (.ok v)) (hp:p≤s.size):p≤v.2.fin∧v.2.fin≤v.2.at'∧v.2.at'≤s.size:=by
 rcases h with ⟨q,c,_,e⟩|⟨b,hb,h⟩
 ·cases e
 ·have h1:=betw_far hb hp
  split at h
  ·injection h with e;subst e;exact ⟨Nat.le_refl _,h1.1,h1.2⟩
  ·rcases h with ⟨q,c,_,e⟩|⟨f,hf,h⟩
   ·cases e
   ·have h2:=some_far hc hf h1.2
    rcases h with ⟨q,c,_,e⟩|⟨b2,hb2,e⟩
    ·cases e
    ·injection e with e;subst e
     have h3:=betw_far hb2 h2.2.1
     exact ⟨by show p≤f.fin;omega,h3.1,h3.2⟩
theorem asked_far (hc:GoesC s col) {deep p:Nat} {a:Coms × Fd × Nat} (h:askedR s n col deep p (.ok a)) (hp:p<s.size):p<a.2.1.fin∧a.2.1.fin≤a.2.2∧a.2.2≤s.size:=by
 rcases h with ⟨q,c,_,e⟩|⟨b,hb,h⟩
 ·cases e
 ·have h1:=betw_far hb (by omega)
  split at h
  ·injection h with e;subst e;exact ⟨Nat.lt_succ_self p,h1.1,h1.2⟩
  ·rcases h with ⟨q,c,_,e⟩|⟨f,hf,e⟩
   ·cases e
   ·injection e with e;subst e
    have h2:=some_far hc hf h1.2
    exact ⟨by show p<f.fin;omega,Nat.le_refl _,h2.2.1⟩
theorem behind_far (hc:GoesC s col) {f:Fd} {deep p:Nat} {v:NT × Rst} (h:behindR s n col f deep p (.ok v)) (hf:f.fin≤p) (hp:p≤s.size):f.fin≤v.2.fin∧v.2.fin≤v.2.at'∧v.2.at'≤s.size∧(f.any=false→signB s p f.near=true→p<v.2.at'):=by
 rcases h with ⟨q,c,_,e⟩|⟨b,hb,h⟩
 ·cases e
 ·have hb2:f.fin≤b.2.2∧b.2.2≤s.size∧(f.any=false→b.2.2=p):=by
   split at hb
   ·rename_i ha
    have:=betw_far hb (by omega)
    exact ⟨this.1,this.2,fun h=>by rw[ha] at h;cases h⟩
   ·injection hb with hb;subst hb;exact ⟨hf,hp,fun _=>rfl⟩
  split at h
  ·rename_i hs
   have h1:=sign_lt hs
   have h2:=value_far hc h h1
   exact ⟨by omega,h2.2.1,h2.2.2,fun ha _=>by have:=hb2.2.2 ha;omega⟩
  ·rename_i hs
   injection h with e;subst e
   exact ⟨Nat.le_refl _,hb2.1,hb2.2.1,fun ha hs2=>by rw[hb2.2.2 ha] at hs;exact absurd hs2 hs⟩
theorem item_far (hc:GoesC s col) {lead:Coms} {deep p:Nat} {e:List NT × Bool × Rst} (h:itemR s n col lead deep p (.ok e)) (hp:p<s.size):p<e.2.2.at'∧e.2.2.fin≤e.2.2.at'∧e.2.2.at'≤s.size:=by
 obtain ⟨k,m,_,h⟩:=h
 split at h
 ·split at h
  ·cases h
  ·rcases h with ⟨q,c,_,e⟩|⟨a,ha,h⟩
   ·cases e
   ·have h1:=asked_far hc ha hp
    rcases h with ⟨q,c,_,e⟩|⟨v,hv,e⟩
    ·cases e
    ·injection e with e;subst e
     have h2:=behind_far hc hv h1.2.1 h1.2.2
     exact ⟨by show p<v.2.at';omega,h2.2.1,h2.2.2.1⟩
 ·rcases h with ⟨q,c,_,e⟩|⟨f,hf,h⟩
  ·cases e
  ·have hf2:p≤f.fin∧f.fin≤s.size∧(f.any=false→f.fin=p)∧(f.any=true→p<f.fin):=by
    split at hf
    ·injection hf with hf;subst hf;exact ⟨Nat.le_refl _,by show p≤s.size;omega,fun _=>rfl,fun h=>by cases h⟩
    ·have:=some_far hc hf (by omega)
     exact ⟨by omega,this.2.1,(fun h=>by rw[this.2.2] at h;cases h),fun _=>this.1⟩
   obtain ⟨t,q,ht,hq,h⟩:=h
   have q1:=hq.1
   have q2:=hq.2.1
   have t2:=ht.2.1
   split at h
   ·rename_i hcase
    split at h
    ·cases h
    ·rcases h with ⟨q',c,_,e⟩|⟨v,hv,e⟩
     ·cases e
     ·injection e with e;subst e
      have hq3:q<s.size∨f.any=false:=by
       rcases hcase with h|h
       ·exact .inl (sign_lt h.2)
       ·exact .inr h
      have hqs:q+1≤s.size∨q=s.size:=by omega
      rcases hqs with hqs|hqs
      ·have h2:=value_far hc hv hqs
       exact ⟨by show p<v.2.at';omega,h2.2.1,h2.2.2⟩
      ·exfalso
       have hfa:f.any=false:=by rcases hq3 with h|h;exact absurd hqs (by omega);exact h
       have h3:=hf2.2.2.1 hfa
       split at hf
       ·rename_i hsg
        have:=hq.2.2.1 p (by omega) (by omega)
        unfold signB at hsg
        rw[Bool.and_eq_true] at hsg
        rw[(isB_lt hsg.1).2] at this
        revert this
        decide
       ·have:=some_far hc hf (by omega)
        rw[this.2.2] at hfa;cases hfa
   ·rename_i hcase
    have ha:f.any=true:=by cases hfa:f.any with|true=>rfl|false=>exact absurd (.inr hfa) hcase
    rcases h with ⟨q',c,_,e⟩|⟨b,hb,e⟩
    ·cases e
    ·split at e
     ·cases e
     ·injection e with e;subst e
      have h2:=betw_far hb hf2.2.1
      have h3:=hf2.2.2.2 ha
      exact ⟨by show p<b.2.2;omega,h2.1,h2.2⟩
theorem entry_far (hc:GoesC s col) {lead:Coms} {deep p:Nat} {e:List NT × Bool × Rst} (h:entryR s n col lead deep p (.ok e)) (hp:p<s.size):p<e.2.2.at'∧e.2.2.fin≤e.2.2.at'∧e.2.2.at'≤s.size:=by
 obtain ⟨k,m,_,h⟩:=h
 rcases h with ⟨q,c,_,e⟩|⟨a,ha,h⟩
 ·cases e
 ·have h1:a.2.1.fin≤a.2.2∧a.2.2≤s.size∧(p<a.2.1.fin∨(a.2.1.any=false∧a.2.2=p∧signB s p a.2.1.near=true)):=by
   split at ha
   ·have:=asked_far hc ha hp
    exact ⟨this.2.1,this.2.2,.inl this.1⟩
   ·split at ha
    ·rename_i hs
     injection ha with ha;subst ha
     exact ⟨Nat.le_refl _,by show p≤s.size;omega,.inr ⟨rfl,rfl,hs⟩⟩
    ·rcases ha with ⟨q,c,_,e⟩|⟨f,hf,e⟩
     ·cases e
     ·injection e with e;subst e
      have:=some_far hc hf (by omega)
      exact ⟨Nat.le_refl _,this.2.1,.inl this.1⟩
  rcases h with ⟨q,c,_,e⟩|⟨v,hv,e⟩
  ·cases e
  ·injection e with e;subst e
   have h2:=behind_far hc hv h1.1 h1.2.1
   refine ⟨?_,h2.2.1,h2.2.2.1⟩
   show p<v.2.at'
   rcases h1.2.2 with h3|⟨h3,h4,h5⟩
   ·omega
   ·have:=h2.2.2.2 h3 (by rw[h4];exact h5)
    omega
theorem step_far (hc:GoesC s col) {seq:Bool} {closing deep p:Nat} {lead:Coms} {r:List NT × Coms × Nat} (h:stepR s n col seq closing deep lead p (.ok r)) (hp:p<s.size):p<r.2.2∧r.2.2≤s.size:=by
 rcases h with ⟨q,c,_,e⟩|⟨e,he,h⟩
 ·cases e
 ·have h1:p<e.2.2.at'∧e.2.2.fin≤e.2.2.at'∧e.2.2.at'≤s.size:=by
   split at he
   ·exact item_far hc he hp
   ·exact entry_far hc he hp
  split at h
  ·rename_i hb
   have:=(isB_lt hb).1
   rcases h with ⟨q,c,_,e2⟩|⟨b,hb2,h⟩
   ·cases e2
   ·obtain ⟨sm,_,e2⟩:=h
    injection e2 with e2;subst e2
    have h3:=betw_far hb2 this
    exact ⟨by show p<b.2.2;omega,h3.2⟩
  ·split at h
   ·injection h with e2;subst e2;exact ⟨h1.1,h1.2.2⟩
   ·cases h
theorem loop_far (hc:GoesC s col) {seq:Bool} {closing deep:Nat} {o:Rd (List NT × Coms × Nat)} {p:Nat} {lead:Coms} {kids:List NT} (h:LoopR s n col seq closing deep o p lead kids):∀ r,o=.ok r→p<r.2.2∧r.2.2≤s.size:=by
 induction h with
 | done h1 h2=>intro r hr;rw[h2] at hr;injection hr with hr;subst hr;exact ⟨Nat.lt_succ_self _,(isB_lt h1).1⟩
 | none h1 h2 h3=>intro r hr;rw[h3] at hr;cases hr
 | bad h1 h2 h3 h4 h5=>intro r hr;rw[h5] at hr;cases hr
 | go h1 h2 h3 h4 h5 ih=>
  intro r hr
  have h6:=ih r hr
  have h7:=(step_far hc h4 h2).1
  exact ⟨Nat.lt_trans h7 h6.1,h6.2⟩
end
theorem coll_far (s:ByteArray) (n:Int):∀ g,GoesC s (collR s n g):=by
 intro g
 induction g with
 | zero=>intro deep p r hp h;exact h.elim
 | succ g ih=>
  intro deep p r hp h
  rcases h with ⟨_,e⟩|⟨_,h⟩
  ·cases e
  ·rcases h with ⟨q,c,_,e⟩|⟨b,hb,h⟩
   ·cases e
   ·have h1:=betw_far hb hp
    rcases h with ⟨q,c,_,e⟩|⟨x,hx,e⟩
    ·cases e
    ·injection e with e;subst e
     have:=loop_far ih hx x rfl
     exact ⟨by show p<x.2.2;omega,this.2⟩
end Go.Proofs.YtafhgbokdfhapaaGreatDoor
namespace Go.Proofs.YtafhgbokdfhapaaGreatDoor
open Go.RowKit
theorem byt_list (s:ByteArray) (j:Nat):byt s j=(s.data.toList.getD j 0).toNat:=by
 unfold byt;rw[Lib.getD_get!']
theorem byt_extract (s:ByteArray) (a b j:Nat) (h:a+j<b):byt (s.extract a b) j=byt s (a+j):=by
 rw[byt_list,byt_list,Lib.extract_data]
 simp only[List.getD,List.getElem?_take,List.getElem?_drop]
 rw[if_pos (by omega)]
theorem byt_bang (s:ByteArray) (j:Nat) (h:j<s.size):(s.data[j]!).toNat=byt s j:=by
 rw[byt_list,getElem!_pos s.data j (by simpa using h)]
 have hj2:j<s.data.toList.length:=by rw[←Lib.size_eq];exact h
 simp[List.getD,List.getElem?_eq_getElem hj2]
theorem size_take (s:ByteArray) (c:Nat) (hc:c≤s.size):(s.extract 0 c).size=c:=by rw[ByteArray.size_extract];omega
theorem size_piece (s:ByteArray) (a b:Nat) (hb:b≤s.size):(s.extract a b).size=b-a:=by rw[ByteArray.size_extract];omega
theorem last_begin (s:ByteArray) (c a:Nat) (hc:c≤s.size) (h:RowB s c a):Lib.lastIndexByte (s.extract 0 c) 10+1=(a:Int):=by
 have hsz:=size_take s c hc
 have hg:∀ j,j<c→(((s.extract 0 c).data[j]!).toNat:Int)=(byt s j:Int):=fun j hj=>by
  rw[byt_bang _ _ (by rw[hsz];exact hj),byt_extract s 0 c j (by omega),Nat.zero_add]
 rcases Lib.lastIndexByte_spec (s.extract 0 c) 10 with ⟨h1,h2⟩|⟨i,hi,h1,h2,h3⟩
 ·rw[hsz] at h2
  have hB:RowB s c 0:=⟨Nat.zero_le _,fun j hj _ e=>h2 j hj (by rw[hg j hj,e];rfl),.inl rfl⟩
  have:=h.uniq hB
  omega
 ·rw[hsz] at hi h3
  rw[hg i hi] at h2
  have h4:byt s i=10:=by omega
  have hB:RowB s c (i+1):=⟨hi,fun j hj hij e=>h3 j (by omega) hj (by rw[hg j hj,e];rfl),.inr h4⟩
  have:=h.uniq hB
  omega
theorem get_ext (s:ByteArray) (c k:Nat):(s.extract c s.size).data.toList[k]?=s.data.toList[c+k]?:=by
 rw[Lib.extract_data,List.take_of_length_le (by rw[List.length_drop,Lib.size_eq];exact Nat.le_refl _),List.getElem?_drop]
theorem get_byt (s:ByteArray) (j:Nat):s.data.toList[j]?=some 10↔j<s.size∧byt s j=10:=by
 rw[byt_list,Lib.size_eq]
 constructor
 ·intro h
  have hl:=(List.getElem?_eq_some_iff.1 h).1
  exact ⟨hl,by simp[List.getD,h]⟩
 ·rintro ⟨hl,h⟩
  simp only[List.getD,List.getElem?_eq_getElem hl,Option.getD_some] at h
  rw[List.getElem?_eq_getElem hl]
  exact congrArg some (UInt8.toNat_inj.1 h)
theorem index_end (s:ByteArray) (c b:Nat) (h:RowE s c b) :
  (Lib.indexByte (s.extract c s.size).data.toList (10:Int).toNat.toUInt8=-1∧b=s.size)∨∃ n:Nat,Lib.indexByte (s.extract c s.size).data.toList (10:Int).toNat.toUInt8=(n:Int)∧c+n=b:=by
 have h10:(10:Int).toNat.toUInt8=10:=rfl
 rw[h10]
 obtain ⟨i,hi⟩:∃ i,Lib.indexByte (s.extract c s.size).data.toList 10=i:=⟨_,rfl⟩
 have hge:=Lib.indexByte_ge (s.extract c s.size).data.toList 10
 rw[hi] at hge ⊢
 by_cases h1:i=-1
 ·subst h1
  have hn:=Lib.indexByte_none hi
  refine .inl ⟨rfl,?_⟩
  rcases h.2.2.2 with h2|h2
  ·exact h2
  ·by_cases h3:b=s.size
   ·exact h3
   ·exfalso
    have:=hn (b-c)
    rw[get_ext,show c+(b-c)=b from by have:=h.1;omega] at this
    exact this ((get_byt s b).2 ⟨by have:=h.2.1;omega,h2⟩)
 ·obtain ⟨o,ho⟩:∃ o:Nat,i=(o:Int):=⟨i.toNat,by omega⟩
  subst ho
  obtain ⟨h2,h3⟩:=Lib.indexByte_some hi
  rw[get_ext] at h2
  have h4:=(get_byt s _).1 h2
  refine .inr ⟨o,rfl,?_⟩
  have hE:RowE s c (c+o):=by
   refine ⟨by omega,by omega,fun j hj hcj e=>?_,.inr h4.2⟩
   have:=h3 (j-c) (by omega)
   rw[get_ext,show c+(j-c)=j from by omega] at this
   exact this ((get_byt s j).2 ⟨by omega,e⟩)
  exact hE.uniq h
theorem clamp_is (c:Nat) (s:ByteArray) (at':Int) (w:World) (hs:s.size≤1099511627776) (h:clampN at' s.size=c) :
  Calls Tryz.prog 47 #[.string s,.int .i64 at'] w fun e w'=>e=.returned (.int .i64 (c:Int))∧w=w':=by
 have hx:min (max at' 0) (s.size:Int)=(c:Int):=by
  rw[←h];unfold clampN;omega
 clear h
 go_enter Tryz.func47,Tryz.ntmps47
 go_wp2
 go_ret
 exact ⟨rfl,rfl⟩
theorem begin_is (a:Nat) (s:ByteArray) (c:Nat) (w:World) (hs:s.size≤1099511627776) (hc:c≤s.size) (h:RowB s c a) :
  Calls Tryz.prog 49 #[.string s,.int .i64 (c:Int)] w fun e w'=>e=.returned (.int .i64 (a:Int))∧w=w':=by
 have hf:=last_begin s c a hc h
 have hsz:=size_take s c hc
 have ha:=h.1
 clear h
 obtain ⟨i,hi⟩:∃ i,i=Lib.lastIndexByte (s.extract 0 c) 10:=⟨_,rfl⟩
 rw[←hi] at hf
 have HI:=Lib.hid hi
 clear hi
 go_enter Tryz.func49,Tryz.ntmps49
 go_wp2_with fail
 refine (Tryz.strings_LastIndexByte (s.extract 0 c) 10 (by rw[hsz];omega) _).mono ?_
 rintro e w1 ⟨rfl,rfl⟩
 rw[←HI.out]
 go_wp2
 go_ret
 exact ⟨rfl,rfl⟩
set_option maxHeartbeats 400000 in
theorem Row_is (a b:Nat) (s:ByteArray) (at':Int) (w:World) (hs:s.size≤1099511627776) (hB:RowB s (clampN at' s.size) a) (hE:RowE s (clampN at' s.size) b) :
  Calls Tryz.prog 27 #[.string s,.int .i64 at'] w fun e w'=>e=.returned (.tuple #[.int .i64 (a:Int),.int .i64 (b:Int)])∧w=w':=by
 have hcs:=clampN_le at' s.size
 obtain ⟨c,hc⟩:∃ c,clampN at' s.size=c:=⟨_,rfl⟩
 rw[hc] at hB hE hcs
 have HC:=Lib.hid hc
 have HB:=Lib.hid hB
 have hb1:=hE.1
 have hb2:=hE.2.1
 obtain ⟨i,hi⟩:∃ i,i=Lib.indexByte (s.extract c s.size).data.toList (10:Int).toNat.toUInt8:=⟨_,rfl⟩
 have key:=index_end s c b hE
 rw[←hi] at key
 have HI:=Lib.hid hi
 clear hc hB hE hi
 rcases key with ⟨rfl,rfl⟩|⟨n,rfl,rfl⟩
 all_goals
  go_enter Tryz.func27,Tryz.ntmps27
  go_wp2_with fail
  refine (clamp_is c s at' _ hs HC.out).mono ?_
  rintro e w' ⟨rfl,rfl⟩
  go_wp2_with fail
  refine (Tryz.strings_IndexByte (s.extract c s.size) 10 _).mono ?_
  rintro e w1 ⟨rfl,rfl⟩
  rw[←HI.out]
  go_wp2_with fail
  refine (begin_is a s c _ hs hcs HB.out).mono ?_
  rintro e w' ⟨rfl,rfl⟩
  go_wp2
  go_ret2
  exact ⟨rfl,rfl⟩
set_option maxHeartbeats 400000 in
theorem rowsIn_is (a b n:Nat) (s:ByteArray) (at':Int) (w:World) (hs:s.size≤1099511627776) (hB:RowB s (clampN at' s.size) a) (hE:RowE s (clampN at' s.size) b) (hN:InN s a b n) :
  Calls Tryz.prog 143 #[.string s,.int .i64 at'] w fun e w'=>e=.returned (.int .i64 (n:Int))∧w=w':=by
 have h1:=hB.1
 have h2:=hE.1
 have h3:=hE.2.1
 have h4:=hN.1
 have HB:=Lib.hid hB
 have HE:=Lib.hid hE
 have HN:=Lib.hid hN
 clear hB hE hN
 go_enter Tryz.func143,Tryz.ntmps143
 go_wp2_with fail
 refine (Row_is a b s at' _ hs HB.out HE.out).mono ?_
 rintro e w' ⟨rfl,rfl⟩
 go_wp2
 go_loop [17] (fun i=>∃ k:Nat,i=.int .i64 (k:Int)∧k≤n) (fun i=>n-(intOf i).toNat)
 case atStart=>exact ⟨0,rfl,Nat.zero_le _⟩
 case round=>
  obtain ⟨k,rfl,hk⟩:=hrel
  by_cases hkb:a+k<b
  ·have hix:=run_byt s (a+k) (by omega) _ rfl
   push_cast at hix
   by_cases hkn:k<n
   ·have hb:=HN.out.2.1 k hkn
    rw[hb] at hix
    go_wp2
    go_round
    case rel=>exact ⟨k+1,by go_num,hkn⟩
    case measure=>simp[intOf];omega
   ·obtain rfl:k=n:=by omega
    have hb:=HN.out.2.2.resolve_left (by omega)
    obtain ⟨x,hx⟩:∃ x,x=byt s (a+k):=⟨_,rfl⟩
    rw[←hx] at hix hb
    have hxb:((x:Int)==32)=false:=by simp;omega
    clear hx hb
    go_wp2
    go_ret
    exact ⟨rfl,rfl⟩
  ·obtain rfl:k=n:=by omega
   have hk2:(b:Int)-(a:Int)=(k:Int):=by omega
   go_wp2
   go_ret
   exact ⟨rfl,rfl⟩
theorem Col_is (a c:Nat) (s:ByteArray) (at':Int) (w:World) (hs:s.size≤1099511627776) (hc:clampN at' s.size=c) (hB:RowB s c a) :
  Calls Tryz.prog 74 #[.string s,.int .i64 at'] w fun e w'=>e=.returned (.int .i64 ((c:Int)-(a:Int)))∧w=w':=by
 have hcs:=clampN_le at' s.size
 rw[hc] at hcs
 have h1:=hB.1
 have HC:=Lib.hid hc
 have HB:=Lib.hid hB
 clear hc hB
 go_enter Tryz.func74,Tryz.ntmps74
 go_wp2_with fail
 refine (clamp_is c s at' _ hs HC.out).mono ?_
 rintro e w' ⟨rfl,rfl⟩
 go_wp2_with fail
 refine (begin_is a s c _ hs hcs HB.out).mono ?_
 rintro e w' ⟨rfl,rfl⟩
 go_wp2
 go_ret
 exact ⟨rfl,rfl⟩
end Go.Proofs.YtafhgbokdfhapaaGreatDoor
namespace Go.Proofs.YtafhgbokdfhapaaGreatDoor
open Go.RowKit
theorem BZ.far_ge {s:ByteArray} {d c w:Nat} {fo:Bool} {T:List UInt8} {E:Nat} {C:Int} {p L h:Nat} {R:List (List UInt8)} {f:Bool} (H:BZ s d c w fo T E C p R L h f):p≤E∨s.size≤E:=by
 induction H with
 | over h1 h2 h3 h4=>exact .inr (Nat.le_of_eq h3.symm)
 | stop h1 h2 h3 h4 h5 h6 h7 h8 h9=>exact .inl (Nat.le_of_eq h8.symm)
 | far h1 h2 h3 h4 h5 h6 h7 h8 h9 h10=>exact .inl (by omega)
 | row h1 h2 h3 h4 h5 h6 ih=>have:=h2.1;rcases ih with h|h;exact .inl (by omega);exact .inr h
theorem BZ.far_le {s:ByteArray} {d c w:Nat} {fo:Bool} {T:List UInt8} {E:Nat} {C:Int} {p L h:Nat} {R:List (List UInt8)} {f:Bool} (H:BZ s d c w fo T E C p R L h f):E≤s.size:=by
 induction H with
 | over h1 h2 h3 h4=>exact Nat.le_of_eq h3
 | stop h1 h2 h3 h4 h5 h6 h7 h8 h9=>omega
 | far h1 h2 h3 h4 h5 h6 h7 h8 h9 h10=>have:=h2.2.1;omega
 | row h1 h2 h3 h4 h5 h6 ih=>exact ih
theorem BlocZ.far_le {s:ByteArray} {n st:Int} {T note:List UInt8} {h:Bool} {E C:Int} {p:Nat} (H:BlocZ s (p:Int) n st T h note E C) (hp:p<s.size) (hb:byt s p=124∨byt s p=62):∃ E':Nat,E=(E':Int)∧p<E'∧E'≤s.size:=by
 have hbl:blocB s (p:Int)=true:=by unfold blocB;rw[Int.toNat_natCast];exact decide_eq_true ⟨by omega,hp,hb⟩
 have h10:byt s p≠10:=by omega
 rcases H with ⟨_,H⟩|⟨h,_⟩
 ·rw[Int.toNat_natCast] at H
  obtain ⟨t,q,p2,d,c,hh,ht,hq,H⟩:=H
  obtain ⟨l1,l2⟩:=hdr_le hp h10 ht
  rw[hh] at l1 l2
  have l1:p+1≤p2:=l1
  have hq1:=hq.1
  have hq2:=hq.2.1
  have ht2:=ht.2.1
  rcases H with ⟨h1,_,rfl,_⟩|⟨_,_,w,E',rfl,_,hB⟩
  ·exact ⟨q,rfl,by omega,by omega⟩
  ·have g1:=hB.far_ge
   exact ⟨E',rfl,by omega,hB.far_le⟩
 ·rw[hbl] at h;cases h
theorem mark_lt {s:ByteArray} {p c:Nat} (h:markB s p c=true):p<s.size:=by
 unfold markB at h
 rw[Bool.and_eq_true] at h
 exact (isB_lt h.1).1
theorem over_lt {s:ByteArray} {p:Nat} (h:overB s p=false):p<s.size:=by
 unfold overB at h
 rw[Bool.or_eq_false_iff] at h
 have:=of_decide_eq_false h.1
 omega
theorem FlowZ.far {s:ByteArray} {p:Nat} {n deep:Int} {x:NT} {E C:Int} (h:FlowZ s (p:Int) n deep (some x) E C):∃ E':Nat,E=(E':Int)∧p<E'∧E'≤s.size∧C=0:=by
 unfold FlowZ at h
 split at h
 ·rename_i hb
  obtain ⟨g,o,hcol,hm⟩:=h
  rw[Int.toNat_natCast] at hcol hb
  have hp:p<s.size:=by
   rcases hb.2 with h|h
   ·exact (isB_lt h).1
   ·exact (isB_lt h).1
  cases o with
  | ok r=>
   obtain ⟨_,rfl,rfl⟩:=hm
   have:=coll_far s n g _ p r hp hcol
   exact ⟨r.2,rfl,this.1,this.2,rfl⟩
  | bad q c=>obtain ⟨h,_⟩:=hm;cases h
 ·obtain ⟨h,_⟩:=h;cases h
theorem colon_far {s:ByteArray} {t p q:Nat} (h:colonR s t p (some q)):p≤q∧q≤t∧markB s q 58=true:=by
 unfold colonR at h
 split at h
 ·cases h
 ·obtain ⟨q',hq,e⟩:=h
  split at e
  ·rename_i hm
   injection e with e;subst e
   exact ⟨hq.1,hq.2.1,hm⟩
  ·cases e
theorem cutB_size {s:ByteArray} {t:Nat} (h:t≤s.size):(cutB s t).size=t:=by
 unfold cutB
 rw[ByteArray.size_extract]
 omega
theorem cutB_byt {s:ByteArray} {t j:Nat} (h:j<t):byt (cutB s t) j=byt s j:=by
 unfold cutB
 rw[byt_extract s 0 t j (by omega),Nat.zero_add]
theorem key_far {s:ByteArray} {p q:Nat} (h:KeyR s p (some q)):p≤q∧q<s.size∧markB s q 58=true:=by
 unfold KeyR at h
 split at h
 ·cases h
 ·rename_i hp
  obtain ⟨t,A,T,E,C,ht,hP,h⟩:=h
  obtain ⟨E',rfl,h1,h2⟩:=hP.far_le (by omega)
  split at h
  ·cases h
  ·rw[Int.toNat_natCast] at h
   obtain ⟨q0,hq0,h⟩:=h
   have hq1:p≤q0:=by
    split at hq0
    ·have:=hq0.1;omega
    ·omega
   have fin:∀ e,p≤e→colonR s t e (some q)→p≤q∧q<s.size∧markB s q 58=true:=fun e he hc=>by
    have:=colon_far hc
    exact ⟨by omega,mark_lt this.2.2,this.2.2⟩
   split at h
   ·exact fin q0 hq1 h
   ·rename_i hq2
    have hqt0:q0<t:=by
     refine Decidable.byContradiction fun hn=>hq2 (.inl (by omega))
    have hqs:q0<s.size:=by have:=ht.2.1;omega
    split at h
    ·split at h
     ·cases h
     ·obtain ⟨A,E,C,hZ,h⟩:=h
      split at h
      ·cases h
      ·rename_i hC
       rcases hZ.far_le with ⟨_,E2,rfl,g1,_⟩|⟨h5,_⟩
       ·rw[Int.toNat_natCast] at h
        exact fin E2 (by omega) h
       ·exact (hC (by omega)).elim
    ·split at h
     ·rename_i hqt
      obtain ⟨T,E,O,C,hZ,h⟩:=h
      split at h
      ·cases h
      ·obtain ⟨E2,rfl,g1,_⟩:=hZ.far_le (by rw[cutB_size ht.2.1];exact hqt0) (by rw[cutB_byt hqt0];rcases hqt with hq|hq;exact .inr (isB_lt hq).2;exact .inl (isB_lt hq).2)
       rw[Int.toNat_natCast] at h
       exact fin E2 (by omega) h
     ·split at h
      ·obtain ⟨x,E,C,hZ,h⟩:=h
       cases x with
       | none=>cases h
       | some x=>
        obtain ⟨E2,rfl,g1,_⟩:=hZ.far
        rw[Int.toNat_natCast] at h
        exact fin E2 (by omega) h
      ·split at h
       ·rename_i hb
        obtain ⟨e,he,h⟩:=h
        have:=beg_part hb he
        exact fin e (by omega) h
       ·exact fin q0 hq1 h
section
variable {s:ByteArray}
theorem pass_far {p:Nat} {b:Coms × Bool × Nat} (h:passR s p (.ok b)) (hp:p≤s.size):p≤b.2.2∧b.2.2≤s.size:=by
 obtain ⟨L,S,E,C,hZ,e⟩:=h
 obtain ⟨E',rfl,h1,h2⟩:=hZ.far_le hp
 split at e
 ·injection e with e;subst e;exact ⟨h1,h2⟩
 ·cases e
theorem leaf_far {n:Int} {deep p:Nat} {prop:Bool} {x:NT × Nat} (h:leafR s n deep prop p (.ok x)):p<x.2∧x.2≤s.size:=by
 unfold leafR at h
 split at h
 ·split at h
  ·cases h
  ·obtain ⟨A,E,C,hZ,e⟩:=h
   rcases hZ.far_le with ⟨rfl,E',rfl,h1,h2⟩|⟨rfl,_⟩
   ·rw[if_pos rfl] at e;injection e with e;subst e;exact ⟨by simpa using h1,by simpa using h2⟩
   ·rw[if_neg (by decide)] at e;cases e
 ·split at h
  ·rename_i hq
   obtain ⟨T,E,O,C,hZ,e⟩:=h
   have hq2:p<s.size∧(byt s p=39∨byt s p=34):=by
    rcases hq with hq|hq
    ·exact ⟨(isB_lt hq).1,.inr (isB_lt hq).2⟩
    ·exact ⟨(isB_lt hq).1,.inl (isB_lt hq).2⟩
   obtain ⟨E',rfl,h1,h2⟩:=hZ.far_le hq2.1 hq2.2
   split at e
   ·injection e with e;subst e;exact ⟨by simpa using h1,by simpa using h2⟩
   ·cases e
  ·split at h
   ·obtain ⟨x1,E,C,hZ,e⟩:=h
    cases x1 with
    | none=>cases e
    | some x1=>
     obtain ⟨E',rfl,h1,h2,_⟩:=hZ.far
     injection e with e;subst e
     exact ⟨by simpa using h1,by simpa using h2⟩
   ·split at h
    ·rename_i hq
     obtain ⟨st,T,h1,t,E,C,hZ,e⟩:=h
     have hq2:p<s.size∧(byt s p=124∨byt s p=62):=by
      rcases hq with hq|hq
      ·exact ⟨(isB_lt hq).1,.inl (isB_lt hq).2⟩
      ·exact ⟨(isB_lt hq).1,.inr (isB_lt hq).2⟩
     obtain ⟨E',rfl,g1,g2⟩:=hZ.far_le hq2.1 hq2.2
     split at e
     ·injection e with e;subst e;exact ⟨by simpa using g1,by simpa using g2⟩
     ·cases e
    ·split at h
     ·rename_i hb
      obtain ⟨T,E,O,C,hZ,e⟩:=h
      obtain ⟨E',rfl,h1,h2⟩:=hZ.far_le hb
      split at e
      ·injection e with e;subst e;exact ⟨by simpa using h1,by simpa using h2⟩
      ·cases e
     ·cases h
theorem trailT_at (x:NT) (l:Coms) (same:Bool) (p:Nat):(trailT x l same p).2.2=p:=by
 unfold trailT
 split <;> rfl
theorem emptyT_at (key:Bool) (l:Coms) (same:Bool) (p:Nat):(emptyT key l same p).2.2=p:=by
 unfold emptyT
 split <;> rfl
variable {blk:Nat→Nat→Rd Tre→Prop}
end
end Go.Proofs.YtafhgbokdfhapaaGreatDoor
