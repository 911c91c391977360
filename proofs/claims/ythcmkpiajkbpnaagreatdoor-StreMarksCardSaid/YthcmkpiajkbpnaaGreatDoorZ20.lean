/- Parts of the proof, put together from smaller texts (blanks that Lean does not want are struck). Conditions: those that each theorem writes out. -/
import Derived.Test.YthcmkpiajkbpnaaGreatDoorZ12
namespace Go.Proofs.YthcmkpiajkbpnaaGreatDoor
open Go.RowKit
def lfB (r:List UInt8):Prop:=r=[]∨∃ r',r=10 :: r'
theorem lf_name {r:List UInt8} (hr:lfB r):∀ m:List UInt8,U.nameL (m++r)=U.nameL m
 | []=>by
  rcases hr with rfl|⟨r',rfl⟩
  ·rfl
  ·show U.nameL (10 :: r')=0
   rw[U.nameL_cons];rfl
 | b :: m=>by
  rw[List.cons_append,U.nameL_cons,U.nameL_cons,lf_name hr m]
theorem lf_while {r:List UInt8} (hr:lfB r) (p:UInt8→Bool) (hp:p 10=false):∀ m:List UInt8,((m++r).takeWhile p).length=(m.takeWhile p).length
 | []=>by
  rcases hr with rfl|⟨r',rfl⟩
  ·rfl
  ·show ((10 :: r').takeWhile p).length=0
   rw[List.takeWhile_cons,hp];rfl
 | b :: m=>by
  rw[List.cons_append,List.takeWhile_cons,List.takeWhile_cons]
  split
  ·rw[List.length_cons,List.length_cons,lf_while hr p hp m]
  ·rfl
theorem lf_tR {r:List UInt8} (hr:lfB r) (p:Int→Bool) (hp:p 10=false):∀ (m:List UInt8) (a:Nat),a≤2→U.tR p a (m++r)=U.tR p a m
 | [],a,ha=>by
  rw[U.tR_nil,List.nil_append]
  rcases hr with rfl|⟨r',rfl⟩
  ·exact U.tR_nil _ _
  ·have:a=0∨a=1∨a=2:=by omega
   rcases this with rfl|rfl|rfl
   ·rw[U.tR_zero,if_neg (by show ¬ (p 10=true);rw[hp];decide)]
   ·rw[U.tR_one];rfl
   ·rw[U.tR_two];rfl
 | b :: m,a,ha=>by
  rw[List.cons_append]
  have:a=0∨a=1∨a=2:=by omega
  rcases this with rfl|rfl|rfl
  ·rw[U.tR_zero,U.tR_zero,lf_tR hr p hp m 2 (by decide),lf_tR hr p hp m 0 (by decide)]
  ·rw[U.tR_one,U.tR_one,lf_tR hr p hp m 0 (by decide)]
  ·rw[U.tR_two,U.tR_two,lf_tR hr p hp m 1 (by decide)]
theorem lf_head {r:List UInt8} (hr:lfB r) {m:List UInt8} {k:Nat} {c:UInt8} (hk:k≤m.length) (hc:c≠0) (hc2:c≠10):(((m++r).drop k).headD 0=c↔(m.drop k).headD 0=c)∧((m.drop k).headD 0=c→k<m.length):=by
 rw[List.drop_append_of_le_length hk]
 by_cases h:k<m.length
 ·obtain ⟨b,l,hb⟩:∃ b l,m.drop k=b :: l:=by
   cases hd:m.drop k with
   | nil=>rw[List.drop_eq_nil_iff] at hd;omega
   | cons b l=>exact ⟨b,l,rfl⟩
  rw[hb]
  exact ⟨Iff.rfl,fun _=>h⟩
 ·have:m.drop k=[]:=List.drop_eq_nil_iff.2 (by omega)
  rw[this]
  refine ⟨?_,fun e=>absurd e.symm hc⟩
  rcases hr with rfl|⟨r',rfl⟩
  ·rfl
  ·exact ⟨fun e=>absurd e.symm hc2,fun e=>absurd e.symm hc⟩
theorem lf_size {r:List UInt8} (hr:lfB r):∀ m:List UInt8,U.tSize (m++r)=U.tSize m
 | []=>by
  rcases hr with rfl|⟨r',rfl⟩
  ·rfl
  ·show U.tSize (10 :: r')=0
   rw[U.tSize_cons];rfl
 | b :: m=>by
  have hbr:U.tBrac (m++r)=U.tBrac m:=by
   cases m with
   | nil=>
    rcases hr with rfl|⟨r',rfl⟩
    ·rfl
    ·show U.tBrac (10 :: r')=0
     rw[U.tBrac_cons];rfl
   | cons c m=>
    rw[List.cons_append,U.tBrac_cons,U.tBrac_cons,lf_tR hr U.uri (by decide) m 0 (by decide)]
    have:=(lf_head hr (m:=m) (k:=U.tR U.uri 0 m) (c:=62) (U.tR_le0 _ _) (by decide) (by decide)).1
    simp only[this]
  have hh:U.tHand (m++r)=U.tHand m:=by
   unfold U.tHand
   have hw:=U.tR_le0 U.wordc m
   rw[lf_tR hr U.wordc (by decide) m 0 (by decide),lf_tR hr U.sfx (by decide) m 0 (by decide)]
   obtain ⟨h1,h2⟩:=lf_head hr (m:=m) (k:=U.tR U.wordc 0 m) (c:=33) hw (by decide) (by decide)
   simp only[h1]
   by_cases h3:(m.drop (U.tR U.wordc 0 m)).headD 0=33
   ·have h4:=h2 h3
    rw[List.drop_append_of_le_length (by omega),lf_tR hr U.sfx (by decide) _ 0 (by decide)]
   ·rw[if_neg (fun e=>h3 e.1),if_neg (fun e=>h3 e.1)]
  rw[List.cons_append,U.tSize_cons,U.tSize_cons,hbr,hh]
section
variable {s:ByteArray} {p t:Nat}
theorem cut_drop (ht:RowE s p t) {k:Nat} (hk:k≤t):∃ r,lfB r∧s.data.toList.drop k=(cutB s t).data.toList.drop k++r:=by
 have h1:=ht.2.1
 have e:(cutB s t).data.toList=s.data.toList.take t:=by
  unfold cutB
  rw[Lib.extract_data,List.drop_zero,Nat.sub_zero]
 refine ⟨s.data.toList.drop t,?_,?_⟩
 ·by_cases hts:t<s.size
  ·right
   have h:byt s t=10:=by
    rcases ht.2.2.2 with h|h
    ·omega
    ·exact h
   obtain ⟨b,h2,h3⟩:=drop_byte s t hts
   refine ⟨s.data.toList.drop (t+1),?_⟩
   rw[h2]
   congr 1
   exact UInt8.toNat_inj.1 (by rw[h3,h];rfl)
  ·left
   rw[List.drop_eq_nil_iff,←Lib.size_eq];omega
 ·rw[e]
  have h2:(s.data.toList.take t).drop k=(s.data.toList.drop k).take (t-k):=by rw[List.drop_take]
  rw[h2]
  conv=>lhs;rw[←List.take_append_drop (t-k) (s.data.toList.drop k)]
  rw[List.drop_drop,show k+(t-k)=t by omega]
theorem cut_name (ht:RowE s p t) {k:Nat} (hk:k≤t):nmN (cutB s t) k=nmN s k:=by
 obtain ⟨r,hr,e⟩:=cut_drop ht hk
 unfold nmN
 rw[e,lf_name hr]
theorem cut_tag (ht:RowE s p t) {k:Nat} (hk:k≤t):tgN (cutB s t) k=tgN s k:=by
 obtain ⟨r,hr,e⟩:=cut_drop ht hk
 unfold tgN
 rw[e,lf_size hr]
theorem cut_wh (ht:RowE s p t) {k:Nat} (hk:k≤t):whN (cutB s t) k=whN s k:=by
 obtain ⟨r,hr,e⟩:=cut_drop ht hk
 unfold whN
 rw[e,lf_while hr _ (by decide)]
theorem cut_ends (ht:RowE s p t) {k:Nat} (hk:k≤t):endsB (cutB s t) (k:Int)=endsB s (k:Int):=by
 have h1:=ht.2.1
 have hsz:=cutB_size h1
 by_cases h:k<t
 ·rw[endsB_in _ k (by omega),endsB_in s k (by omega),cutB_byt h]
 ·have:k=t:=by omega
  subst this
  have e1:endsB (cutB s k) (k:Int)=true:=by
   unfold endsB
   rw[if_pos (.inr (by omega))]
  rw[e1]
  by_cases hs:k<s.size
  ·rw[endsB_in s k hs]
   rcases ht.2.2.2 with e|e
   ·omega
   ·rw[e];decide
  ·unfold endsB
   rw[if_pos (.inr (by omega))]
theorem cut_mark (ht:RowE s p t) {k c:Nat} (hk:k<t):markB (cutB s t) k c=markB s k c:=by
 have hsz:=cutB_size ht.2.1
 have h1:=ht.2.1
 unfold markB
 rw[cut_ends ht (by omega)]
 unfold isB
 rw[cutB_byt hk,hsz]
 congr 1
 rw[decide_eq_decide]
 constructor
 ·rintro ⟨_,e⟩;exact ⟨by omega,e⟩
 ·rintro ⟨_,e⟩;exact ⟨hk,e⟩
theorem cut_isB (ht:RowE s p t) {k c:Nat} (hk:k<t):isB (cutB s t) k c=isB s k c:=by
 have hsz:=cutB_size ht.2.1
 have h1:=ht.2.1
 unfold isB
 rw[cutB_byt hk,hsz,decide_eq_decide]
 constructor
 ·rintro ⟨_,e⟩;exact ⟨by omega,e⟩
 ·rintro ⟨_,e⟩;exact ⟨hk,e⟩
theorem cut_piece {a b:Nat} (hb:b≤t):pieceL (cutB s t) a b=pieceL s a b:=by
 unfold pieceL cutB
 rw[Lib.extract_data,List.drop_zero,Nat.sub_zero,List.drop_take,List.take_take,Nat.min_eq_left (by omega)]
theorem cut_PZ (ht:RowE s p t) {A T:List UInt8} {E:Nat} {C:Int} {q e:Nat} {a u:List UInt8} (h:PZ s false A T E C q e a u):q≤t→PZ (cutB s t) false A T E C q e a u:=by
 have hsz:=cutB_size ht.2.1
 have h1:=ht.2.1
 have end10:∀ c:Nat,c≠10→¬ (t<s.size∧byt s t=c):=fun c hc=>by
  rintro ⟨h2,h3⟩
  rcases ht.2.2.2 with h|h
  ·omega
  ·omega
 have lt:∀ {q:Nat},q<s.size→(byt s q=38∨byt s q=33)→q≤t→q<t:=fun {q} hq hb hqt=>by
  refine Decidable.byContradiction fun hn=>?_
  have:q=t:=by omega
  subst this
  rcases hb with hb|hb
  ·exact end10 38 (by decide) ⟨hq,hb⟩
  ·exact end10 33 (by decide) ⟨hq,hb⟩
 have nm:∀ {k:Nat},k≤t→k+nmN s k≤t:=fun {k} hk=>by
  rw[←cut_name ht hk]
  have:=U.nameL_le ((cutB s t).data.toList.drop k)
  unfold nmN
  rw[List.length_drop,←Lib.size_eq,hsz] at this
  omega
 have tg:∀ {k:Nat},k≤t→k+tgN s k≤t:=fun {k} hk=>by
  rw[←cut_tag ht hk]
  have:=U.tSize_le ((cutB s t).data.toList.drop k)
  unfold tgN
  rw[List.length_drop,←Lib.size_eq,hsz] at this
  omega
 have wh:∀ {k:Nat},k≤t→k+whN s k≤t:=fun {k} hk=>by
  rw[←cut_wh ht hk]
  have:=(List.takeWhile_sublist (fun b:UInt8=>U.white (b.toNat:Int)) (l:=(cutB s t).data.toList.drop k)).length_le
  unfold whN
  rw[List.length_drop,←Lib.size_eq,hsz] at this
  omega
 have ft:∀ {k:Nat} ,k≤t→fitB (cutB s t) false k=fitB s false k:=fun {k} hk=>by
  unfold fitB
  rw[cut_ends ht hk,Bool.false_and,Bool.false_and]
 induction h with
 | @none q e a u g1 g2 g3 g4 g5=>
  intro hq
  refine .none ?_ g2 g3 g4 g5
  rintro ⟨g6,g7⟩
  rw[hsz] at g6
  rw[cutB_byt g6] at g7
  exact g1 ⟨by omega,g7⟩
 | @anchor0 q e a u g1 g2 g3 g4 g5 g6 g7=>
  intro hq
  have hl:=lt g1 (.inl g2) hq
  exact .anchor0 (by omega) (by rw[cutB_byt hl];exact g2) (by rw[cut_name ht (by omega)];exact g3) g4 g5 g6 g7
 | @tag0 q e a u g1 g2 g3 g4 g5 g6 g7=>
  intro hq
  have hl:=lt g1 (.inr g2) hq
  exact .tag0 (by omega) (by rw[cutB_byt hl];exact g2) g3 g4 g5 g6 g7
 | @anchorX q e a u r g1 g2 g3 g4 g5 g6 g7 g8 g9 g10=>
  intro hq
  have hl:=lt g1 (.inl g2) hq
  have hr:r≤t:=by rw[g5];exact nm (by omega)
  exact .anchorX (by omega) (by rw[cutB_byt hl];exact g2) (by rw[cut_name ht (by omega)];exact g3) g4 (by rw[cut_name ht (by omega)];exact g5) (by rw[ft hr];exact g6) g7 g8 g9 g10
 | @tagX q e a u r g1 g2 g3 g4 g5 g6 g7 g8 g9=>
  intro hq
  have hl:=lt g1 (.inr g2) hq
  have hr:r≤t:=by rw[g4];exact tg (by omega)
  exact .tagX (by omega) (by rw[cutB_byt hl];exact g2) g3 (by rw[cut_tag ht (by omega)];exact g4) (by rw[ft hr];exact g5) g6 g7 g8 g9
 | @anchorL q e a u r g1 g2 g3 g4 g5 g6 g7 g8 g9 g10 g11=>
  intro hq
  have hl:=lt g1 (.inl g2) hq
  have hr:r≤t:=by rw[g5];exact nm (by omega)
  exact .anchorL (by omega) (by rw[cutB_byt hl];exact g2) (by rw[cut_name ht (by omega)];exact g3) g4 (by rw[cut_name ht (by omega)];exact g5) (by rw[ft hr];exact g6) (by rw[cut_wh ht hr];exact g7) (by rw[cut_piece hr];exact g8) g9 g10 g11
 | @tagL q e a u r g1 g2 g3 g4 g5 g6 g7 g8 g9 g10=>
  intro hq
  have hl:=lt g1 (.inr g2) hq
  have hr:r≤t:=by rw[g4];exact tg (by omega)
  exact .tagL (by omega) (by rw[cutB_byt hl];exact g2) g3 (by rw[cut_tag ht (by omega)];exact g4) (by rw[ft hr];exact g5) (by rw[cut_wh ht hr];exact g6) g7 (by rw[cut_piece hr];exact g8) g9 g10
 | @anchor q e a u r g1 g2 g3 g4 g5 g6 g7 g8 ih=>
  intro hq
  have hl:=lt g1 (.inl g2) hq
  have hr:r≤t:=by rw[g5];exact nm (by omega)
  have hw:=wh hr
  have:=ih hw
  refine .anchor (q:=r) (by omega) (by rw[cutB_byt hl];exact g2) (by rw[cut_name ht (by omega)];exact g3) g4 (by rw[cut_name ht (by omega)];exact g5) (by rw[ft hr];exact g6) (by rw[cut_wh ht hr];exact g7) ?_
  rw[cut_wh ht hr,cut_piece hr]
  exact this
 | @tag q e a u r g1 g2 g3 g4 g5 g6 g7 ih=>
  intro hq
  have hl:=lt g1 (.inr g2) hq
  have hr:r≤t:=by rw[g4];exact tg (by omega)
  have hw:=wh hr
  have:=ih hw
  refine .tag (q:=r) (by omega) (by rw[cutB_byt hl];exact g2) g3 (by rw[cut_tag ht (by omega)];exact g4) (by rw[ft hr];exact g5) (by rw[cut_wh ht hr];exact g6) ?_
  rw[cut_wh ht hr,cut_piece hr]
  exact this
theorem cut_prop (ht:RowE s p t) {A T:List UInt8} {E C:Int} (h:PropZ s (p:Int) false A T E C):PropZ (cutB s t) (p:Int) false A T E C:=by
 rcases h with ⟨h1,E',rfl,h2⟩|⟨h1,_⟩
 ·exact .inl ⟨h1,E',rfl,by rw[Int.toNat_natCast] at h2 ⊢;exact cut_PZ ht h2 ht.1⟩
 ·omega
theorem cut_ali (ht:RowE s p t) {q:Nat} (hq:q<t) {A:List UInt8} {E C:Int} (h:AliZ s (q:Int) A E C):AliZ (cutB s t) (q:Int) A E C:=by
 have hsz:=cutB_size ht.2.1
 have h1:=ht.2.1
 have e:aliB (cutB s t) (q:Int)=aliB s (q:Int):=by
  unfold aliB
  rw[Int.toNat_natCast,hsz,cutB_byt hq,cut_name ht (by omega),decide_eq_decide]
  constructor
  ·rintro ⟨a,b,c,d⟩;exact ⟨a,by omega,c,d⟩
  ·rintro ⟨a,b,c,d⟩;exact ⟨a,by omega,c,d⟩
 unfold AliZ at h ⊢
 rw[e]
 rcases h with ⟨g1,g2,g3,g4⟩|h
 ·left
  rw[Int.toNat_natCast] at g2 g3 ⊢
  have hle:q+1+nmN s (q+1)≤t:=by
   rw[←cut_name ht (by omega)]
   have:=U.nameL_le ((cutB s t).data.toList.drop (q+1))
   unfold nmN
   rw[List.length_drop,←Lib.size_eq,hsz] at this
   omega
  rw[cut_name ht (by omega),cut_piece hle]
  exact ⟨g1,g2,g3,g4⟩
 ·exact .inr h
theorem cut_beg (ht:RowE s p t) {q:Nat} (hq:q<t):begB (cutB s t) (q:Int) false=begB s (q:Int) false:=by
 unfold begB
 rw[Int.toNat_natCast,cut_ends ht (by omega),cutB_byt hq,show ((q:Int)+1)=((q+1:Nat):Int) by omega,cut_ends ht (by omega),Bool.false_and,Bool.false_and]
theorem cut_plain (ht:RowE s p t) {q e:Nat} (hpq:p≤q) (hq:q<t) (hb:begB s (q:Int) false=true) (hP:ParN s false q e):PlaiZ (cutB s t) (q:Int) (-1) false (pieceL (cutB s t) q e) (e:Int) true 0∧e≤t:=by
 have hsz:=cutB_size ht.2.1
 have h1:=ht.2.1
 have stop_eq:∀ {j},q≤j→j<t→stopB (cutB s t) false j=stopB s false j:=fun {j} j1 j2=>by
  unfold stopB
  simp only[Bool.false_and]
  rw[cutB_byt j2,show ((j:Int)+1)=((j+1:Nat):Int) by omega,cut_ends ht (by omega)]
  by_cases h0:0<j
  ·rw[cutB_byt (show j-1<t by omega)]
  ·rw[decide_eq_false h0];simp only[Bool.false_and,Bool.and_false]
 obtain ⟨x,hS,hB⟩:=hP
 have hxt:x≤t:=by
  refine Decidable.byContradiction fun hn=>?_
  have:=hS.2.2.1 t (by omega) (by omega)
  have hts:t<s.size:=by have:=hS.2.1;omega
  rcases ht.2.2.2 with h|h
  ·omega
  ·unfold stopB at this
   rw[h] at this
   simp at this
 have hS2:StpN (cutB s t) false q x:=by
  refine ⟨hS.1,by omega,fun j j1 j2=>by rw[stop_eq j2 (by omega)];exact hS.2.2.1 j j1 j2,?_⟩
  by_cases hx:x=t
  ·left;omega
  ·right
   rw[stop_eq hS.1 (by omega)]
   rcases hS.2.2.2 with h|h
   ·omega
   ·exact h
 have hB2:BakN (cutB s t) q x e:=by
  refine ⟨hB.1,hB.2.1,fun j j1 j2=>by rw[cutB_byt (show j<t by omega)];exact hB.2.2.1 j j1 j2,?_⟩
  rcases hB.2.2.2 with h|h
  ·exact .inl h
  ·by_cases h0:e=q
   ·exact .inl h0
   ·right
    have:=hB.1
    have:=hB.2.1
    rw[cutB_byt (show e-1<t by omega)];exact h
 have het:e≤t:=by have:=hB.2.1;omega
 refine ⟨?_,het⟩
 unfold PlaiZ
 rw[if_neg (by rw[cut_beg ht hq,hb];decide)]
 refine ⟨e,rfl,fun e' he'=>?_⟩
 rw[Int.toNat_natCast] at he' ⊢
 have e1:e'=e:=he'.uniq ⟨x,hS2,hB2⟩
 subst e1
 intro t' f ht' hf
 have ht2:t'=t:=by
  have h3:=ht'.1
  have h4:=ht'.2.1
  rw[hsz] at h4
  refine Decidable.byContradiction fun hn=>?_
  rcases ht'.2.2.2 with h|h
  ·omega
  ·rw[cutB_byt (show t'<t by omega)] at h
   exact ht.2.2.1 t' (by omega) (by have:=hB.1;omega) h
 rw[if_pos (.inr (by omega))]
 exact ⟨((congrArg (fun z=>pieceL (cutB s t) q e'++z) (U.flowGo_nil 0)).trans (List.append_nil _)).symm,rfl,rfl,rfl⟩
end
end Go.Proofs.YthcmkpiajkbpnaaGreatDoor
