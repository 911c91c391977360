/- Parts of the proof, put together from smaller texts (blanks that Lean does not want are struck). Conditions: those that each theorem writes out. -/
import Derived.Test.YtncngeamdechmaaGreatDoorZ04
namespace Go.Proofs.YtncngeamdechmaaGreatDoor
open Go.RowKit
def Shl (deep:Nat) (x:NT):Prop:=x.htP=0∨x.htP+deep≤40
def HtC (s:ByteArray) (col:Nat→Nat→Rd (NT × Nat)→Prop):Prop:=∀ deep p r,p<s.size→col deep p (.ok r)→r.1.htP+deep≤40
theorem ht_head (x:NT) (h:NH) (hk:h.kind=x.h.kind):(NT.mk h x.kids).htP=x.htP:=by
 cases x with
 | mk hd ks=>
  unfold NT.htP
  have hk:h.kind=hd.kind:=hk
  rw[hk]
  rfl
theorem ht_flat (h:NH) (h3:h.kind≠3) (h4:h.kind≠4) (ks:List NT):(NT.mk h ks).htP=0:=by
 unfold NT.htP
 rw[if_neg (by rintro (e|e);exact h3 e;exact h4 e)]
theorem props_ht (x:NT) (a t:List UInt8) (p:Int) (l:Coms):(x.withProps a t p l).htP=x.htP:=ht_head x _ rfl
theorem lead_ht (x:NT) (l:Coms):(x.withLead l).htP=x.htP:=ht_head x _ rfl
section
variable {s:ByteArray} {n:Int} {col:Nat→Nat→Rd (NT × Nat)→Prop}
theorem skip_far {r r':Rst} (h:skipP s n r (.ok r')) (hp:r.at'≤s.size):r.at'≤r'.at'∧r'.at'≤s.size∧r'.fin=r.fin:=by
 obtain ⟨L,S,E,C,hZ,e⟩:=h
 obtain ⟨E',rfl,h1,h2⟩:=hZ.far_le hp
 split at e
 ·injection e with e;subst e
  show r.at'≤(E':Int).toNat∧(E':Int).toNat≤s.size∧_
  rw[Int.toNat_natCast]
  exact ⟨h1,h2,rfl⟩
 ·cases e
theorem contP_far (hc:GoesC s col) (hh:HtC s col) {deep p:Nat} {x:NT × Rst} (h:contP s n col deep p (.ok x)):p<x.2.at'∧x.2.at'≤s.size∧Shl deep x.1:=by
 unfold contP at h
 split at h
 ·rename_i hb
  have hps:p<s.size:=by
   rcases hb with hb|hb
   ·exact (isB_lt hb).1
   ·exact (isB_lt hb).1
  rcases h with ⟨q,c,_,e⟩|⟨r,h1,e⟩
  ·cases e
  ·injection e with e;subst e
   have:=hc deep p r hps h1
   exact ⟨this.1,this.2,.inr (hh deep p r hps h1)⟩
 ·split at h
  ·obtain ⟨A,E,C,hZ,e⟩:=h
   rcases hZ.far_le with ⟨rfl,E',rfl,h1,h2⟩|⟨rfl,_⟩
   ·rw[if_pos rfl] at e;injection e with e;subst e
    show p<(E':Int).toNat∧(E':Int).toNat≤s.size∧_
    rw[Int.toNat_natCast]
    exact ⟨h1,h2,.inl (ht_flat _ (show (2:Int)≠3 by decide) (show (2:Int)≠4 by decide) _)⟩
   ·rw[if_neg (by decide)] at e;cases e
  ·split at h
   ·rename_i hq
    obtain ⟨T,E,O,C,hZ,e⟩:=h
    have hq2:p<s.size∧(byt s p=39∨byt s p=34):=by
     rcases hq with hq|hq
     ·exact ⟨(isB_lt hq).1,.inl (isB_lt hq).2⟩
     ·exact ⟨(isB_lt hq).1,.inr (isB_lt hq).2⟩
    obtain ⟨E',rfl,h1,h2⟩:=hZ.far_le hq2.1 hq2.2
    split at e
    ·injection e with e;subst e
     show p<(E':Int).toNat∧(E':Int).toNat≤s.size∧_
     rw[Int.toNat_natCast]
     exact ⟨h1,h2,.inl (ht_flat _ (show (1:Int)≠3 by decide) (show (1:Int)≠4 by decide) _)⟩
    ·cases e
   ·obtain ⟨T,E,O,C,hZ,e⟩:=h
    split at e
    ·rename_i hC
     injection e with e;subst e
     cases hb:begB s (p:Int) true with
     | false=>
      unfold PlaiZ at hZ
      rw[if_pos hb] at hZ
      rw[hZ.2.2.2] at hC;cases hC
     | true=>
      obtain ⟨E',rfl,h1,h2⟩:=hZ.far_le hb
      show p<(E':Int).toNat∧(E':Int).toNat≤s.size∧_
      rw[Int.toNat_natCast]
      exact ⟨h1,h2,.inl (ht_flat _ (show (1:Int)≠3 by decide) (show (1:Int)≠4 by decide) _)⟩
    ·cases e
theorem nodeP_far (hc:GoesC s col) (hh:HtC s col) {deep p:Nat} {x:NT × Rst} (h:nodeP s n col deep p (.ok x)) (hp:p≤s.size):p<x.2.at'∧x.2.at'≤s.size∧Shl deep x.1:=by
 obtain ⟨A,T,E,C,hZ,h⟩:=h
 obtain ⟨E',rfl,g1,g2⟩:=hZ.far_le hp
 split at h
 ·cases h
 ·split at h
  ·exact contP_far hc hh h
  ·rename_i hne
   rcases h with ⟨q,c,_,e⟩|⟨r,h1,h2⟩
   ·cases e
   ·rw[Int.toNat_natCast] at h1
    have h3:=skip_far h1 g2
    have h4:E'≤r.at':=h3.1
    split at h2
    ·rcases h2 with ⟨q,c,_,e⟩|⟨y,h5,e⟩
     ·cases e
     ·injection e with e;subst e
      have h6:=contP_far hc hh h5
      refine ⟨by show p<y.2.at';omega,h6.2.1,?_⟩
      unfold Shl
      rw[props_ht]
      exact h6.2.2
    ·injection h2 with e;subst e
     exact ⟨by show p<r.at';omega,h3.2.1,.inl (ht_flat _ (show (1:Int)≠3 by decide) (show (1:Int)≠4 by decide) _)⟩
theorem shl_void (deep:Nat):Shl deep voidN:=.inl (ht_flat _ (show (1:Int)≠3 by decide) (show (1:Int)≠4 by decide) _)
theorem valueP_far (hc:GoesC s col) (hh:HtC s col) {key:NT} {deep:Nat} {r:Rst} {x:NT × Rst} (h:valueP s n col key deep r (.ok x)) (hp:r.at'≤s.size):r.at'≤x.2.at'∧x.2.at'≤s.size∧Shl deep x.1∧(signB s r.at' (nearN key)=true→r.at'<x.2.at'):=by
 unfold valueP at h
 split at h
 ·rename_i hs
  have hlt:=sign_lt hs
  rcases h with ⟨q,c,_,e⟩|⟨b,h1,h2⟩
  ·cases e
  ·have h3:=skip_far h1 hlt
   have h4:r.at'+1≤b.at':=h3.1
   split at h2
   ·injection h2 with e;subst e
    refine ⟨by show r.at'≤b.at';omega,h3.2.1,?_,fun _=>by show r.at'<b.at';omega⟩
    unfold Shl
    rw[lead_ht]
    exact shl_void deep
   ·rcases h2 with ⟨q,c,_,e⟩|⟨y,h5,e⟩
    ·cases e
    ·injection e with e;subst e
     have h6:=nodeP_far hc hh h5 h3.2.1
     refine ⟨by show r.at'≤y.2.at';omega,h6.2.1,?_,fun _=>by show r.at'<y.2.at';omega⟩
     unfold Shl
     rw[lead_ht]
     exact h6.2.2
 ·rename_i hs
  injection h with e;subst e
  exact ⟨Nat.le_refl _,hp,shl_void deep,fun e=>absurd e hs⟩
theorem keyP_far (hc:GoesC s col) (hh:HtC s col) {lead:Coms} {deep p:Nat} {x:Coms × List NT × Rst} (h:keyP s n col lead deep p (.ok x)) (hp:p≤s.size):p<x.2.2.at'∧x.2.2.at'≤s.size∧x.1=lead∧∃ k v,x.2.1=[k,v]∧Shl deep k∧Shl deep v:=by
 rcases h with ⟨q,c,_,e⟩|⟨k,h1,h2⟩
 ·cases e
 ·have g1:=nodeP_far hc hh h1 hp
  rcases h2 with ⟨q,c,_,e⟩|⟨r,h3,h4⟩
  ·cases e
  ·have g2:=skip_far h3 g1.2.1
   rcases h4 with ⟨q,c,_,e⟩|⟨v,h5,e⟩
   ·cases e
   ·injection e with e;subst e
    have g3:=valueP_far hc hh h5 g2.2.1
    exact ⟨by show p<v.2.at';omega,g3.2.1,rfl,_,_,rfl,g1.2.2,g3.2.2.1⟩
theorem fieldP_far (hc:GoesC s col) (hh:HtC s col) {lead:Coms} {deep p:Nat} {x:Coms × List NT × Rst} (h:fieldP s n col lead deep p (.ok x)) (hp:p≤s.size):p<x.2.2.at'∧x.2.2.at'≤s.size∧x.1.length≤lead.length+s.size∧∃ k v,x.2.1=[k,v]∧Shl deep k∧Shl deep v:=by
 unfold fieldP at h
 split at h
 ·rename_i hq
  have hlt:=query_lt hq
  rcases h with ⟨q,c,_,e⟩|⟨b,h1,h2⟩
  ·cases e
  ·have g1:=skip_far h1 hlt
   have g1':p+1≤b.at':=g1.1
   have hb:b.l.length≤s.size:=by
    obtain ⟨L,S,E,C,hZ,e⟩:=h1
    split at e
    ·rename_i hC
     injection e with e;subst e
     have:=(hZ.facts (show p+1≤s.size from hlt)).2.1 hC
     have h5:=g1.2.1
     show ([]++L).length≤s.size
     rw[List.nil_append]
     have h6:(E.toNat:Nat)≤s.size:=h5
     omega
    ·cases e
   have hll:(lead++b.l).length≤lead.length+s.size:=by rw[List.length_append];omega
   split at h2
   ·rcases h2 with ⟨q,c,_,e⟩|⟨v,h5,e⟩
    ·cases e
    ·injection e with e;subst e
     have g3:=valueP_far hc hh h5 g1.2.1
     have g4:b.at'≤v.2.at':=g3.1
     exact ⟨by show p<v.2.at';omega,g3.2.1,hll,_,_,rfl,shl_void deep,g3.2.2.1⟩
   ·have g3:=keyP_far hc hh h2 g1.2.1
    exact ⟨by omega,g3.2.1,by rw[g3.2.2.1];exact hll,g3.2.2.2⟩
 ·split at h
  ·rename_i hs
   have hlt:=sign_lt hs
   rcases h with ⟨q,c,_,e⟩|⟨v,h5,e⟩
   ·cases e
   ·injection e with e;subst e
    have g3:=valueP_far hc hh h5 hp
    exact ⟨g3.2.2.2 hs,g3.2.1,Nat.le_add_right _ _,_,_,rfl,shl_void deep,g3.2.2.1⟩
  ·have g3:=keyP_far hc hh h hp
   exact ⟨g3.1,g3.2.1,by rw[g3.2.2.1];exact Nat.le_add_right _ _,g3.2.2.2⟩
theorem itemP_far (hc:GoesC s col) (hh:HtC s col) {lead:Coms} {deep p:Nat} {x:Coms × List NT × Rst} (h:itemP s n col lead deep p (.ok x)) (hp:p≤s.size):p<x.2.2.at'∧x.2.2.at'≤s.size∧x.1.length≤lead.length+s.size∧((∃ y,x.2.1=[y]∧Shl deep y)∨(deep<40∧∃ k v,x.2.1=[k,v]∧Shl (deep+1) k∧Shl (deep+1) v)):=by
 unfold itemP at h
 split at h
 ·split at h
  ·cases h
  ·rename_i hd
   have g:=fieldP_far hc hh h hp
   exact ⟨g.1,g.2.1,g.2.2.1,.inr ⟨by omega,g.2.2.2⟩⟩
 ·rcases h with ⟨q,c,_,e⟩|⟨y,h1,h2⟩
  ·cases e
  ·have g1:=nodeP_far hc hh h1 hp
   rcases h2 with ⟨q,c,_,e⟩|⟨r,h3,h4⟩
   ·cases e
   ·have g2:=skip_far h3 g1.2.1
    split at h4
    ·split at h4
     ·split at h4
      ·cases h4
      ·rename_i hd
       rcases h4 with ⟨q,c,_,e⟩|⟨v,h5,e⟩
       ·cases e
       ·injection e with e;subst e
        have g3:=valueP_far hc hh h5 g2.2.1
        exact ⟨by show p<v.2.at';omega,g3.2.1,Nat.le_add_right _ _,.inr ⟨by omega,_,_,rfl,.inr (by omega),g3.2.2.1⟩⟩
     ·cases h4
    ·injection h4 with e;subst e
     exact ⟨by show p<r.at';omega,g2.2.1,Nat.le_add_right _ _,.inl ⟨_,rfl,g1.2.2⟩⟩
theorem behindP_far {closing:Nat} {r r':Rst} (h:behindP s n closing r (.ok r')) (hp:r.at'≤s.size):r.at'≤r'.at'∧r'.at'≤s.size:=by
 rcases h with ⟨q,c,_,e⟩|⟨b,h1,h2⟩
 ·cases e
 ·have g1:=skip_far h1 hp
  split at h2
  ·injection h2 with e;subst e;exact ⟨g1.1,g1.2.1⟩
  ·split at h2
   ·rename_i hb
    have hlt:=(isB_lt hb).1
    have g2:=skip_far h2 hlt
    have g3:b.at'+1≤r'.at':=g2.1
    exact ⟨by omega,g2.2.1⟩
   ·cases h2
theorem last_ht (t:List UInt8) (x:NT):(x.withTrail t).htP=x.htP:=ht_head x _ rfl
theorem top_ht (l:Coms) (m:Int) (x:NT):(x.withTop l m).htP=x.htP:=ht_head x _ rfl
theorem trailK_two (b:Rst) (k v:NT):∃ v',trailK b [k,v]=[k,v']∧v'.htP=v.htP:=by
 unfold trailK
 split
 ·exact ⟨_,rfl,last_ht _ v⟩
 ·exact ⟨v,rfl,rfl⟩
theorem trailK_one (b:Rst) (x:NT):∃ x',trailK b [x]=[x']∧x'.htP=x.htP:=by
 unfold trailK
 split
 ·exact ⟨_,rfl,last_ht _ x⟩
 ·exact ⟨x,rfl,rfl⟩
theorem stepP_far (hc:GoesC s col) (hh:HtC s col) {seq:Bool} {closing deep p:Nat} {lead:Coms} {r:List NT × Coms × Nat} (h:stepP s n col seq closing deep lead p (.ok r)) (hp:p≤s.size) (hd:deep<40):p<r.2.2∧r.2.2≤s.size∧r.1.length≤2∧∀ x∈r.1,x.htP+(deep+1)≤40:=by
 rcases h with ⟨q,c,_,e⟩|⟨e,he,h⟩
 ·cases e
 ·have h1:p<e.2.2.at'∧e.2.2.at'≤s.size:=by
   split at he
   ·have:=itemP_far hc hh he hp;exact ⟨this.1,this.2.1⟩
   ·have:=fieldP_far hc hh he hp;exact ⟨this.1,this.2.1⟩
  rcases h with ⟨q,c,_,e2⟩|⟨b,hb,k,m,_,e2⟩
  ·cases e2
  ·injection e2 with e2;subst e2
   have h2:=behindP_far hb h1.2
   refine ⟨by show p<b.at';omega,h2.2,?_⟩
   have shl:∀ x:NT,Shl (deep+1) x→x.htP+(deep+1)≤40:=fun x h=>by rcases h with h|h <;> omega
   show (nodesK seq p m e.1 (trailK b e.2.1)).length≤2∧∀ x∈nodesK seq p m e.1 (trailK b e.2.1),x.htP+(deep+1)≤40
   cases seq with
   | true=>
    rw[if_pos rfl] at he
    rcases (itemP_far hc hh he hp).2.2.2 with ⟨y,ey,sy⟩|⟨hd2,k,v,ey,sk,sv⟩
    ·obtain ⟨y',e1,e2⟩:=trailK_one b y
     rw[ey,e1]
     refine ⟨by show 1≤2;omega,fun x hx=>?_⟩
     have hx:x=y'.withTop (e.1++y'.h.lead) m:=by simpa [nodesK] using hx
     rw[hx,top_ht,e2]
     exact shl y sy
    ·obtain ⟨v',e1,e2⟩:=trailK_two b k v
     rw[ey,e1]
     refine ⟨by show 1≤2;omega,fun x hx=>?_⟩
     have hx:x=pairN p m e.1 k v':=by simpa [nodesK] using hx
     rw[hx]
     unfold pairN NT.htP htPL htPL htPL
     rw[if_pos (.inr rfl),e2]
     rcases sk with sk|sk <;> rcases sv with sv|sv <;> omega
   | false=>
    rw[if_neg (by decide)] at he
    obtain ⟨k,v,ey,sk,sv⟩:=(fieldP_far hc hh he hp).2.2.2
    obtain ⟨v',e1,e2⟩:=trailK_two b k v
    rw[ey,e1]
    refine ⟨by show 2≤2;omega,fun x hx=>?_⟩
    have hx:x=k.withTop (e.1++k.h.lead) m∨x=v':=by simpa [nodesK] using hx
    rcases hx with hx|hx
    ·rw[hx,top_ht];exact shl k sk
    ·rw[hx,e2];exact shl v sv
theorem htPL_le {l:List NT} {B:Nat} (h:∀ x∈l,x.htP≤B):htPL l≤B:=by
 induction l with
 | nil=>unfold htPL;exact Nat.zero_le _
 | cons t ts ih=>
  unfold htPL
  have h1:=h t (by simp)
  have h2:=ih (fun x hx=>h x (by simp[hx]))
  omega
theorem loopP_far (hc:GoesC s col) (hh:HtC s col) {seq:Bool} {closing deep:Nat} {o:Rd (List NT × Coms × Nat)} {p:Nat} {lead:Coms} {kids:List NT} (h:LoopP s n col seq closing deep o p lead kids) (hd:deep<40):p≤s.size→(∀ x∈kids,x.htP+(deep+1)≤40)→∀ r,o=.ok r→p<r.2.2∧r.2.2≤s.size∧∀ x∈r.1,x.htP+(deep+1)≤40:=by
 induction h with
 | done h1 h2=>intro hp hk r hr;rw[h2] at hr;injection hr with hr;subst hr;exact ⟨Nat.lt_succ_self _,(isB_lt h1).1,hk⟩
 | bad h1 h4 h5=>intro _ _ r hr;rw[h5] at hr;cases hr
 | go h1 h4 h5 ih=>
  intro hp hk r hr
  have h6:=stepP_far hc hh h4 hp hd
  have h7:=ih h6.2.1 (fun x hx=>by
   rcases List.mem_append.1 hx with hx|hx
   ·exact hk x hx
   ·exact h6.2.2.2 x hx) r hr
  exact ⟨Nat.lt_trans h6.1 h7.1,h7.2⟩
end
theorem collP_far (s:ByteArray) (n:Int):∀ g,GoesC s (collP s n g)∧HtC s (collP s n g):=by
 intro g
 induction g with
 | zero=>exact ⟨fun deep p r hp h=>h.elim,fun deep p r hp h=>h.elim⟩
 | succ g ih=>
  have key:∀ deep p r,p<s.size→collP s n (g+1) deep p (.ok r)→(p<r.2∧r.2≤s.size)∧r.1.htP+deep≤40:=by
   intro deep p r hp h
   rcases h with ⟨_,e⟩|⟨hd,h⟩
   ·cases e
   ·rcases h with ⟨q,c,_,e⟩|⟨b,hb,h⟩
    ·cases e
    ·have h1:=skip_far hb hp
     have h1':p+1≤b.at':=h1.1
     rcases h with ⟨q,c,_,e⟩|⟨x,hx,e⟩
     ·cases e
     ·injection e with e;subst e
      have h2:=loopP_far ih.1 ih.2 hx hd h1.2.1 (fun x hx=>by cases hx) x rfl
      refine ⟨⟨by show p<x.2.2;omega,h2.2.1⟩,?_⟩
      have h3:=htPL_le (l:=x.1) (B:=40-(deep+1)) (fun y hy=>by have:=h2.2.2 y hy;omega)
      have h4:∀ hd,NT.htP (.mk hd x.1)≤htPL x.1+1:=fun hd=>by
       unfold NT.htP
       split
       ·exact Nat.le_refl _
       ·exact Nat.zero_le _
      have h5:=h4 ⟨if isB s p 91=true then 3 else 4,7,p,0,[],[],[],[],x.2.1,false,[]⟩
      show NT.htP (.mk ⟨if isB s p 91=true then 3 else 4,7,p,0,[],[],[],[],x.2.1,false,[]⟩ x.1)+deep≤40
      omega
  exact ⟨fun deep p r hp h=>(key deep p r hp h).1,fun deep p r hp h=>(key deep p r hp h).2⟩
end Go.Proofs.YtncngeamdechmaaGreatDoor
