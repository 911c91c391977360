/- Parts of the proof, put together from smaller texts (blanks that Lean does not want are struck). Conditions: those that each theorem writes out. -/
import Derived.Test.YthcmkpiajkbpnaaGreatDoorZ28
namespace Go.Proofs.YthcmkpiajkbpnaaGreatDoor
open Go.RowKit
def NwB (s:ByteArray) (blk:Nat→Nat→Rd Tre→Prop):Prop:=∀ d p x,blk d p (.ok x)→x.2.2<s.size→U.white (byt s x.2.2:Int)=false
theorem cnt_nw {s:ByteArray} {n:Int} {d p:Nat} {x:Tre} (h:cntP s n d p (.ok x)) (hx:x.2.2<s.size):U.white (byt s x.2.2:Int)=false:=by
 rcases h with ⟨_,_,_,e⟩|⟨y,h1,h⟩
 ·cases e
 ·rcases h with ⟨_,_,_,e⟩|⟨b,h2,e⟩
  ·cases e
  ·injection e with e;subst e
   rw[trailT_at] at hx ⊢
   exact pass_nw h2 hx
theorem beg_nw {s:ByteArray} {blk:Nat→Nat→Rd Tre→Prop} (hl:NwB s blk) {b:Nat} {n:Int} {d fro p:Nat} {x:Tre} (h:bgnP s blk b n d fro p (.ok x)) (hx:x.2.2<s.size):U.white (byt s x.2.2:Int)=false:=by
 obtain ⟨op,_,h⟩:=h
 split at h
 ·split at h
  ·exact hl _ _ _ h hx
  ·split at h
   ·cases h
   ·rcases h with ⟨_,_,e⟩|⟨_,h⟩
    ·cases e
    ·exact hl _ _ _ h hx
 ·obtain ⟨A,T,E,C,hZ,h⟩:=h
  split at h
  ·cases h
  ·split at h
   ·exact cnt_nw h hx
   ·rcases h with ⟨_,_,_,e⟩|⟨y,h1,e⟩
    ·cases e
    ·injection e with e;subst e
     change y.1.2.2<s.size at hx
     show U.white (byt s y.1.2.2:Int)=false
     rcases h1 with ⟨_,_,_,e⟩|⟨l,h2,h1⟩
     ·cases e
     ·split at h1
      ·injection h1 with h1;subst h1
       change (emptyT _ _ _ _).2.2<_ at hx
       show U.white (byt s (emptyT _ _ _ _).2.2:Int)=false
       rw[emptyT_at] at hx ⊢
       exact pass_nw h2 hx
      ·have own:∀ {o},ownC s n d l o→o=.ok y→U.white (byt s y.1.2.2:Int)=false:=fun {o} ho he=>by
        subst he
        unfold ownC at ho
        split at ho
        ·cases ho
        ·rcases ho with ⟨_,_,_,e⟩|⟨z,h3,e⟩
         ·cases e
         ·injection e with e;subst e
          exact cnt_nw h3 hx
       unfold ownP at h1
       split at h1
       ·obtain ⟨op,_,h1⟩:=h1
        split at h1
        ·rcases h1 with ⟨_,_,_,e⟩|⟨z,h3,e⟩
         ·cases e
         ·injection e with e;subst e
          exact hl _ _ _ h3 hx
        ·exact own h1 rfl
       ·exact own h1 rfl
theorem nodP_nw {s:ByteArray} {blk:Nat→Nat→Rd Tre→Prop} (hl:NwB s blk) {b:Nat} {n:Int} {d p:Nat} {x:Tre} (h:nodP s blk b n d p (.ok x)) (hx:x.2.2<s.size):U.white (byt s x.2.2:Int)=false:=by
 rcases h with ⟨_,_,_,e⟩|⟨l,h1,h⟩
 ·cases e
 ·split at h
  ·injection h with h;subst h
   rw[emptyT_at] at hx ⊢
   exact pass_nw h1 hx
  ·rcases h with ⟨_,_,_,e⟩|⟨y,h2,e⟩
   ·cases e
   ·injection e with e;subst e
    have h3:=beg_nw hl h2 hx
    exact h3
theorem pair_nw {s:ByteArray} {blk:Nat→Nat→Rd Tre→Prop} (hl:NwB s blk) {c d p:Nat} {x:NT × NT × Coms × Nat} (h:pairP s blk c d p (.ok x)) (hx:x.2.2.2<s.size):U.white (byt s x.2.2.2:Int)=false:=by
 unfold pairP at h
 split at h
 ·rcases h with ⟨_,_,_,e⟩|⟨k,h1,h⟩
  ·cases e
  ·split at h
   ·rcases h with ⟨_,_,_,e⟩|⟨v,h2,e⟩
    ·cases e
    ·injection e with e;subst e
     have h3:=nodP_nw hl h2 hx
     exact h3
   ·injection h with e;subst e
    have h3:=nodP_nw hl h1 hx
    exact h3
 ·rcases h with ⟨_,_,_,e⟩|⟨k,h1,h⟩
  ·cases e
  ·rcases h with ⟨_,_,_,e⟩|⟨v,h2,e⟩
   ·cases e
   ·injection e with e;subst e
    have h3:=nodP_nw hl h2 hx
    exact h3
theorem impl_far {s:ByteArray} {d p:Nat} {x:NT × Nat} (h:implP s d p (.ok x)):p≤x.2∧x.2<s.size:=by
 obtain ⟨A,T,E,C,q,_,hE,_,hw,hq,_,h⟩:=h
 have h0:=hw.1
 rcases h with ⟨_,_,_,e⟩|⟨y,h,e⟩
 ·cases e
 ·injection e with e;subst e
  show p≤y.2∧y.2<s.size
  split at h
  ·injection h with h;subst h
   exact ⟨by show p≤q;omega,hq⟩
  ·rcases h with ⟨_,_,_,e⟩|⟨z,h3,c,hc,hl,_,e⟩
   ·cases e
   ·injection e with e;subst e
    have f1:=leaf_far h3
    have f2:=hc.1
    exact ⟨by show p≤c;omega,hl⟩
theorem pairP_far {s:ByteArray} {blk:Nat→Nat→Rd Tre→Prop} (hl:FarB s blk) {c d p:Nat} {x:NT × NT × Coms × Nat} (h:pairP s blk c d p (.ok x)):p<x.2.2.2∧x.2.2.2≤s.size:=by
 unfold pairP at h
 split at h
 ·rename_i hm
  have hp:p<s.size:=by unfold markB at hm;rw[Bool.and_eq_true] at hm;exact (isB_lt hm.1).1
  rcases h with ⟨_,_,_,e⟩|⟨k,h1,h⟩
  ·cases e
  ·have f1:=nodP_far hl (by omega) h1
   split at h
   ·rename_i hm2
    have hk:k.2.2<s.size:=by have:=hm2.1;unfold markB at this;rw[Bool.and_eq_true] at this;exact (isB_lt this.1).1
    rcases h with ⟨_,_,_,e⟩|⟨v,h2,e⟩
    ·cases e
    ·injection e with e;subst e
     have f2:=nodP_far hl (by omega) h2
     show p<v.2.2∧v.2.2≤s.size
     omega
   ·injection h with e;subst e
    show p<k.2.2∧k.2.2≤s.size
    omega
 ·rcases h with ⟨_,_,_,e⟩|⟨k,h1,h⟩
  ·cases e
  ·have f1:=impl_far h1
   rcases h with ⟨_,_,_,e⟩|⟨v,h2,e⟩
   ·cases e
   ·injection e with e;subst e
    have f2:=nodP_far hl (by omega) h2
    show p<v.2.2∧v.2.2≤s.size
    omega
theorem markB_lt {s:ByteArray} {p c:Nat} (h:markB s p c=true):p<s.size:=by
 unfold markB at h;rw[Bool.and_eq_true] at h;exact (isB_lt h.1).1
theorem SeqP.far {s:ByteArray} {blk:Nat→Nat→Rd Tre→Prop} (hl:FarB s blk) {c d p:Nat} {lead:Coms} {kids:List NT} {o:Rd (List NT × Coms × Nat)} (h:SeqP s blk c d o p lead kids) (hp:p<s.size):∀ r,o=.ok r→p≤r.2.2∧r.2.2≤s.size:=by
 induction h with
 | bad _ h2=>intro r e;rw[h2] at e;cases e
 | stop h1 _ _ h4=>
  intro r e
  rw[h4] at e;injection e with e;subst e
  have:=nodP_far hl (by omega) h1
  exact ⟨Nat.le_of_succ_le this.1,this.2⟩
 | go h1 _ _ h4 _ ih=>
  intro r e
  have f1:=nodP_far hl (by omega) h1
  have:=ih (markB_lt h4) r e
  omega
theorem MapP.far {s:ByteArray} {blk:Nat→Nat→Rd Tre→Prop} (hl:FarB s blk) {c d p:Nat} {lead:Coms} {kids:List NT} {o:Rd (List NT × Coms × Nat)} (h:MapP s blk c d o p lead kids):∀ r,o=.ok r→p≤r.2.2∧r.2.2≤s.size:=by
 induction h with
 | bad _ h2=>intro r e;rw[h2] at e;cases e
 | stop h1 _ _ h4=>
  intro r e
  rw[h4] at e;injection e with e;subst e
  have:=pairP_far hl h1
  exact ⟨Nat.le_of_lt this.1,this.2⟩
 | none h1 _ _ _ _ _ h4=>
  intro r e
  rw[h4] at e;injection e with e;subst e
  have:=pairP_far hl h1
  exact ⟨Nat.le_of_lt this.1,this.2⟩
 | go h1 _ _ _ _ _ _ ih=>
  intro r e
  have f1:=pairP_far hl h1
  have:=ih r e
  omega
theorem SeqP.nw {s:ByteArray} {blk:Nat→Nat→Rd Tre→Prop} (hl:NwB s blk) {c d p:Nat} {lead:Coms} {kids:List NT} {o:Rd (List NT × Coms × Nat)} (h:SeqP s blk c d o p lead kids):∀ r,o=.ok r→r.2.2<s.size→U.white (byt s r.2.2:Int)=false:=by
 induction h with
 | bad _ h2=>intro r e;rw[h2] at e;cases e
 | stop h1 _ _ h4=>
  intro r e hx
  rw[h4] at e;injection e with e;subst e
  exact nodP_nw hl h1 hx
 | go _ _ _ _ _ ih=>exact ih
theorem MapP.nw {s:ByteArray} {blk:Nat→Nat→Rd Tre→Prop} (hl:NwB s blk) {c d p:Nat} {lead:Coms} {kids:List NT} {o:Rd (List NT × Coms × Nat)} (h:MapP s blk c d o p lead kids):∀ r,o=.ok r→r.2.2<s.size→U.white (byt s r.2.2:Int)=false:=by
 induction h with
 | bad _ h2=>intro r e;rw[h2] at e;cases e
 | stop h1 _ _ h4=>
  intro r e hx
  rw[h4] at e;injection e with e;subst e
  exact pair_nw hl h1 hx
 | none h1 _ _ _ _ _ h4=>
  intro r e hx
  rw[h4] at e;injection e with e;subst e
  exact pair_nw hl h1 hx
 | go _ _ _ _ _ _ _ ih=>exact ih
theorem untrail_lead (x:NT):(untrail x).h.lead=x.h.lead:=by
 unfold untrail
 split <;> rfl
theorem pair_lead {s:ByteArray} {blk:Nat→Nat→Rd Tre→Prop} (hl:LeadB blk) {c d p:Nat} {x:NT × NT × Coms × Nat} (hp:p<s.size) (h:pairP s blk c d p (.ok x)):x.1.h.lead.length≤2*s.size:=by
 unfold pairP at h
 split at h
 ·rcases h with ⟨_,_,_,e⟩|⟨k,h1,h⟩
  ·cases e
  ·have f1:=nod_lead hl (by omega) h1
   split at h
   ·rcases h with ⟨_,_,_,e⟩|⟨v,h2,e⟩
    ·cases e
    ·injection e with e;subst e
     show (untrail k.1).h.lead.length≤_
     rw[untrail_lead];exact f1
   ·injection h with e;subst e
    show (untrail k.1).h.lead.length≤_
    rw[untrail_lead];exact f1
 ·rcases h with ⟨_,_,_,e⟩|⟨k,h1,h⟩
  ·cases e
  ·have z:k.1.h.lead=[]:=by
    obtain ⟨A,T,E,C,q,_,_,_,_,_,_,h1⟩:=h1
    rcases h1 with ⟨_,_,_,e⟩|⟨y,h1,e⟩
    ·cases e
    ·injection e with e
     have e1:k.1.h.lead=y.1.h.lead:=by rw[e];show (if p<E.toNat then NT.mk _ _ else y.1).h.lead=_;split <;> rfl
     rw[e1]
     split at h1
     ·injection h1 with h1;subst h1;rfl
     ·rcases h1 with ⟨_,_,_,e⟩|⟨z,h3,c,_,_,_,e⟩
      ·cases e
      ·injection e with e;subst e
       have h4:=leaf_lead h3
       exact h4
   rcases h with ⟨_,_,_,e⟩|⟨v,h2,e⟩
   ·cases e
   ·injection e with e;subst e
    show k.1.h.lead.length≤_
    rw[z];exact Nat.zero_le _
theorem blkP_far (s:ByteArray):∀ g,FarB s (blkP s g):=by
 intro g
 induction g with
 | zero=>intro d p x _ h;exact h.elim
 | succ g ih=>
  intro d p x hp h
  rcases h with ⟨_,e⟩|⟨_,h⟩
  ·cases e
  ·split at h
   ·rename_i hm
    rcases h with ⟨_,_,_,e⟩|⟨r,h1,e⟩
    ·cases e
    ·injection e with e;subst e
     exact h1.far ih (markB_lt hm) r rfl
   ·rcases h with ⟨_,_,_,e⟩|⟨r,h1,e⟩
    ·cases e
    ·injection e with e;subst e
     exact h1.far ih r rfl
theorem blkP_nw (s:ByteArray):∀ g,NwB s (blkP s g):=by
 intro g
 induction g with
 | zero=>intro d p x h;exact h.elim
 | succ g ih=>
  intro d p x h hx
  rcases h with ⟨_,e⟩|⟨_,h⟩
  ·cases e
  ·split at h
   ·rcases h with ⟨_,_,_,e⟩|⟨r,h1,e⟩
    ·cases e
    ·injection e with e;subst e
     exact h1.nw ih r rfl hx
   ·rcases h with ⟨_,_,_,e⟩|⟨r,h1,e⟩
    ·cases e
    ·injection e with e;subst e
     exact h1.nw ih r rfl hx
theorem blkP_lead (s:ByteArray):∀ g,LeadB (blkP s g):=by
 intro g
 cases g with
 | zero=>intro d p x h;exact h.elim
 | succ g=>
  intro d p x h
  rcases h with ⟨_,e⟩|⟨_,h⟩
  ·cases e
  ·split at h
   ·rcases h with ⟨_,_,_,e⟩|⟨r,h1,e⟩
    ·cases e
    ·injection e with e;subst e
     rfl
   ·rcases h with ⟨_,_,_,e⟩|⟨r,h1,e⟩
    ·cases e
    ·injection e with e;subst e
     rfl
end Go.Proofs.YthcmkpiajkbpnaaGreatDoor
