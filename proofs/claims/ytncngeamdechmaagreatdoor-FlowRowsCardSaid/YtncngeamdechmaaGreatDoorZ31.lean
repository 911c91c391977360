/- Parts of the proof, put together from smaller texts (blanks that Lean does not want are struck). Conditions: those that each theorem writes out. -/
import Derived.Test.YtncngeamdechmaaGreatDoorZ13
import Derived.Test.YtncngeamdechmaaGreatDoorZ25
import Derived.Test.YtncngeamdechmaaGreatDoorZ28
namespace Go.Proofs.YtncngeamdechmaaGreatDoor
open Go.RowKit
theorem step_appendK {ops:Array Oper} {o:Oper} {a:Act} {w:World} {K:Act→World→Prop} {Q:Exit→Act→World→Prop} {E:Prop} (hgd:o.guard=none) (s x:Operand)
  (ho:o.op=.call { callee:=.builtin .append,args:=#[s,x],argTypes:=#[27,27] })
  (v:Value) (m:Nat) (cs:List Value) (kb m2 c2:Nat) (arr:Array Value) (hs:a.eval s=v) (hx:a.eval x=.slice (some ⟨kb,0,none⟩) m2 c2) (hv:HasV 12 w v m cs)
  (hk:w.heap[kb]?=some (.cells arr 30 (0,0))) (hsz:m2*12≤arr.size) (h1:∀ u∈arr.toList.take (m2*12),u.oneCell'=true) (hn:m+m2≤1000000)
  (h:∀ v' w',HasV 12 w' v' (m+m2) (cs++arr.toList.take (m2*12))→w.grownBy w' v.ownBlock→(v'.ownBlock=v.ownBlock∨v'.ownBlock=some w.heap.size)→K (a.put o.dst v') w') :
  if Region.wanted o (yielded ops a.tmps)=true then Oper.wp Tryz.prog o a w K Q else E:=by
 obtain ⟨i0,hi,hz0,hz1,hz2⟩:=info_parts infoN
 have hw:Region.wanted o (yielded ops a.tmps)=true:=by simp[Region.wanted,hgd]
 rw[if_pos hw]
 have hsrc:Src Tryz.prog 12 27 (.slice (some ⟨kb,0,none⟩) m2 c2) m2 (arr.toList.take (m2*12)) w:=Src.ofSlice w Tryz.underlying27 _ m2 c2 _ (by rw[List.length_take,Array.length_toList];omega) (fun j u hu=>by
  have hj:=(List.getElem?_eq_some_iff.1 hu).1
  rw[List.length_take] at hj
  rw[List.getElem?_take,if_pos (by omega),Array.getElem?_toList] at hu
  rw[Addr.add_lit,Nat.zero_add,cell_of_row w kb j arr _ _ hk]
  exact hu) h1
 obtain ⟨v',w',hrun,g1,g2,g3,_,_⟩:=run_append_has (P:=Tryz.prog) 27 27 o.type 30 i0 _ 12 176 Tryz.underlying27 hi hz0 hz1 hz2 rfl (by decide) w v m cs hv _ m2 _ hsrc (by unfold maxLen;omega) (by omega)
 unfold Oper.wp
 simp[execOp,ho,resolve,invoke,builtin,hs,hx,hrun,Result.andThen]
 exact h v' w' g1 g2 g3
theorem IsKL.trail {R:Nat→Prop} {w:World} {arr:Array Value} (r:Rst):∀ (ks:List NT),(ks.length=1∨ks.length=2)→IsKL R w (arr.toList.take (ks.length*12)) ks→ks.length*12≤arr.size →
  IsKL R w ((trailA r arr ((ks.length-1)*12)).toList.take (ks.length*12)) (trailK r ks)∧(trailA r arr ((ks.length-1)*12)).size=arr.size∧(trailK r ks).length=ks.length∧∀ x∈(trailK r ks).head?,∃ y∈ks.head?,x.h.lead=y.h.lead:=by
 intro ks hks h hsz
 obtain ⟨l,sm,fin,at0⟩:=r
 have plain:IsKL R w (arr.toList.take (ks.length*12)) ks∧arr.size=arr.size∧ks.length=ks.length∧∀ x∈ks.head?,∃ y∈ks.head?,x.h.lead=y.h.lead:=⟨h,rfl,rfl,fun x hx=>⟨x,hx,rfl⟩⟩
 cases l with
 | nil=>exact plain
 | cons c l=>
  obtain ⟨t,d⟩:=c
  cases sm with
  | false=>exact plain
  | true=>
   clear plain
   match ks,hks,h with
   | [x],_,h=>
    obtain ⟨cs,rest,e,hx,hr⟩:=h
    rw[show rest=[] from hr,List.append_nil] at e
    refine ⟨?_,?_,rfl,fun z hz=>⟨x,rfl,by simp[trailK,lastT] at hz;rw[←hz];rfl⟩⟩
    ·show IsKL R w (((arr.setIfInBounds 10 _).setIfInBounds 11 _).toList.take 12) [x.withTrail t]
     rw[Array.toList_setIfInBounds,Array.toList_setIfInBounds,List.take_set,List.take_set,show arr.toList.take 12=cs from e]
     exact IsKL.one (hx.trailC t)
    ·show ((arr.setIfInBounds 10 _).setIfInBounds 11 _).size=arr.size
     simp
   | [k,v],_,h=>
    obtain ⟨ca,rest,e,hk,cb,rest2,e2,hv,hr⟩:=h
    rw[show rest2=[] from hr,List.append_nil] at e2
    subst e2
    have la:=hk.len
    refine ⟨?_,?_,rfl,fun z hz=>⟨k,rfl,by simp[trailK,lastT] at hz;rw[←hz]⟩⟩
    ·show IsKL R w (((arr.setIfInBounds 22 _).setIfInBounds 23 _).toList.take 24) [k,v.withTrail t]
     rw[Array.toList_setIfInBounds,Array.toList_setIfInBounds,List.take_set,List.take_set,show arr.toList.take 24=ca++rest from e,List.set_append_right _ _ (by omega),List.set_append_right _ _ (by omega),la]
     exact IsKL.two hk (hv.trailC t)
    ·show ((arr.setIfInBounds 22 _).setIfInBounds 23 _).size=arr.size
     simp
theorem flNodesK_is (seq:Bool) (kd:Int) (hkd:kd=if seq=true then 3 else 4) (g:Nat) (s:ByteArray) (n p e0:Int) (v:Value) (nr:Bool) (lv:Value) (lead:Coms) (kb m cap p0 k0 m0:Nat) (arr:Array Value) (R:Nat→Prop) (ks:List NT) (w:World) (hA:FlAt g s n p e0 v nr w) (hs:s.size≤10000) (hp0:p0≤s.size) (hAb:Abv s p0 k0 m0)
  (hl:HasV 2 w lv lead.length (comV lead)) (hk:w.heap[kb]?=some (.cells arr 30 (0,0))) (hsz:m*12≤arr.size) (hmc:m≤cap) (hcm:cap≤maxLen) (hm:m=ks.length) (hks:ks.length=2∨(seq=true∧ks.length=1)) (hN:IsKL R w (arr.toList.take (m*12)) ks)
  (hkg:kb≠g) (hlk:lv.ownBlock≠some kb) (hlg:lv.ownBlock≠some g) (hR:∀ b,R b→b<w.heap.size∧b≠kb∧lv.ownBlock≠some b) (hn:lead.length≤500000) (hn2:∀ x∈ks.head?,x.h.lead.length≤500000) :
  Calls Tryz.prog 23 #[.pointer (some ⟨g,0,none⟩),.agg #[.int .i64 (p0:Int),lv,.slice (some ⟨kb,0,none⟩) m cap],.int .i64 kd] w fun e w'=>∃ kb2 m2 cap2 arr2 R2,e=.returned (.slice (some ⟨kb2,0,none⟩) m2 cap2)∧m2=(nodesK seq p0 m0 lead ks).length ∧
   w'.heap[kb2]?=some (.cells arr2 30 (0,0))∧m2*12≤arr2.size∧IsKL R2 w' (arr2.toList.take (m2*12)) (nodesK seq p0 m0 lead ks)∧(∀ b,R2 b→b<w'.heap.size∧(R b∨b=kb∨lv.ownBlock=some b∨w.heap.size≤b))∧Keep (fun k=>k<w.heap.size∧k≠kb∧lv.ownBlock≠some k) w w':=by
 have hkw:kb<w.heap.size:=(Array.getElem?_eq_some_iff.1 hk).1
 have pick:∀ (w':World) (lv5:Value) (X:Coms),HasV 2 w' lv5 X.length (comV X)→NewV w.heap.size [lv] lv5→∀ b,lv5.ownBlock=some b→b<w'.heap.size∧(R b∨b=kb∨lv.ownBlock=some b∨w.heap.size≤b):=fun w' lv5 X h1 h2 b hb=>⟨h1.own b hb,by
  rcases h2 b hb with h|⟨u,hu,h⟩
  ·exact .inr (.inr (.inr h))
  ·rw[List.mem_singleton] at hu
   subst hu
   exact .inr (.inr (.inl h))⟩
 have one:∀ (x:NT) (tl:List NT),ks=x :: tl→(kd=3→m≠2)→nodesK seq p0 m0 lead ks=x.withTop (lead++x.h.lead) m0 :: tl→1≤m →
   Calls Tryz.prog 23 #[.pointer (some ⟨g,0,none⟩),.agg #[.int .i64 (p0:Int),lv,.slice (some ⟨kb,0,none⟩) m cap],.int .i64 kd] w fun e w'=>∃ kb2 m2 cap2 arr2 R2,e=.returned (.slice (some ⟨kb2,0,none⟩) m2 cap2)∧m2=(nodesK seq p0 m0 lead ks).length ∧
    w'.heap[kb2]?=some (.cells arr2 30 (0,0))∧m2*12≤arr2.size∧IsKL R2 w' (arr2.toList.take (m2*12)) (nodesK seq p0 m0 lead ks)∧(∀ b,R2 b→b<w'.heap.size∧(R b∨b=kb∨lv.ownBlock=some b∨w.heap.size≤b))∧Keep (fun k=>k<w.heap.size∧k≠kb∧lv.ownBlock≠some k) w w':=by
  intro x tl hx hcond hnk hm1
  subst hx
  obtain ⟨c1,rest,e1,hx1,htl⟩:=hN
  obtain ⟨kv8,lv8,fv8,e8,hC8,-⟩:=hx1.open
  have l1:=hx1.len
  have h8:arr[8]?=some lv8:=by
   rw[←Array.getElem?_toList]
   have:(arr.toList.take (m*12))[8]?=some lv8:=by rw[e1,List.getElem?_append_left (by omega),e8];rfl
   rwa [List.getElem?_take,if_pos (by omega)] at this
  have hx2:=hn2 x rfl
  refine (flNodes_is g s n p e0 v nr lv lead x.h.lead kb m cap p0 k0 m0 kd arr R w hA hs hp0 hAb hl hk (by omega) hm1 hcond ⟨lv8,h8,hC8⟩ hkg hlk hlg (fun b hb=>(hR b hb).1) (by omega)).mono ?_
  rintro e w' ⟨rfl,lv5,rk,hl5,hne5,hnew5,K⟩
  refine ⟨kb,m,cap,_,fun b=>R b∨lv5.ownBlock=some b,rfl,by rw[hnk,hm];rfl,rk,by simpa using hsz,?_,fun b hb=>?_,K⟩
  ·rw[hnk,Array.toList_setIfInBounds,Array.toList_setIfInBounds,List.take_set,List.take_set,e1,List.set_append_left _ _ (by omega),List.set_append_left _ _ (by simp;omega)]
   have fr:∀ b,R b→(R b∨lv5.ownBlock=some b)∧w'.heap[b]?=w.heap[b]?:=fun b hb=>⟨.inl hb,K.block b ⟨(hR b hb).1,(hR b hb).2.1,(hR b hb).2.2⟩⟩
   exact ⟨_,rest,rfl,(IsN.frame fr x c1 hx1).topC (hl5.toComs.frame fun b hb=>⟨.inr hb,rfl⟩) m0 (fun b hb=>hb),IsKL.frame fr tl rest htl⟩
  ·rcases hb with hb|hb
   ·exact ⟨Nat.lt_of_lt_of_le (hR b hb).1 K.size,.inl hb⟩
   ·exact pick w' lv5 _ hl5 hnew5 b hb
 match ks,hks,hm with
 | [x],_,hm=>exact one x [] rfl (fun _=>by rw[hm];simp) rfl (by rw[hm];simp)
 | [a,b],_,hm=>
  cases seq with
  | false=>exact one a [b] rfl (fun h=>by rw[hkd] at h;cases h) rfl (by rw[hm];simp)
  | true=>
   clear one
   obtain rfl:kd=3:=hkd
   have hm2:m=2:=hm
   subst hm2
   refine (flNodesPair_is g s n p e0 v nr lv lead ⟨kb,0,none⟩ cap p0 k0 m0 w hA hs hp0 hAb hl hlg (by omega)).mono ?_
   rintro e w' ⟨kb2,lv5,rfl,hkb2,rk,hl5,hne5,hnew5,K⟩
   have fr:∀ b,R b→(R b∨b=kb∨lv5.ownBlock=some b)∧w'.heap[b]?=w.heap[b]?:=fun b hb=>⟨.inl hb,K.block b ⟨(hR b hb).1,(hR b hb).2.2⟩⟩
   have kk:=(K.block kb ⟨hkw,hlk⟩).trans hk
   refine ⟨kb2,1,1,_,fun b=>R b∨b=kb∨lv5.ownBlock=some b,rfl,rfl,rk,Nat.le_refl _,?_,fun b hb=>?_,K.mono fun k hk=>⟨hk.1,hk.2.2⟩⟩
   ·refine IsKL.one (IsN.shut (hd:=⟨4,7,(p0:Int),(m0:Int),[],[],[],lead,[],false,[]⟩) (hl5.toComs.frame fun b hb=>⟨.inr (.inr hb),rfl⟩) (ComsR.nil _ _) ?_)
    refine ⟨_,cap,rfl,hmc,hcm,fun _=>⟨kb,0,rfl,.inr (.inl rfl),IsKL.toKids _ 0 _ (IsKL.frame fr _ _ hN) fun j u hu=>?_⟩⟩
    have hj:=(List.getElem?_eq_some_iff.1 hu).1
    rw[List.length_take] at hj
    rw[List.getElem?_take,if_pos (by omega),Array.getElem?_toList] at hu
    rw[Nat.zero_add,cell_of_row w' kb j arr _ _ kk]
    exact hu
   ·rcases hb with hb|hb|hb
    ·exact ⟨Nat.lt_of_lt_of_le (hR b hb).1 K.size,.inl hb⟩
    ·subst hb;exact ⟨Nat.lt_of_lt_of_le hkw K.size,.inr (.inl rfl)⟩
    ·exact pick w' lv5 _ hl5 hnew5 b hb
structure CollM (g:Nat) (s:ByteArray) (n kd:Int) (p0:Nat) (w wr:World) (r:Rst) (v:Value) (kids:List NT) (kv:Value) (cs:List Value) (R:Nat→Prop):Prop where
 row:wr.heap[w.heap.size+1]?=some (.cells #[.int .i64 kd,.int .i64 7,.int .i64 (p0:Int),.int .i64 0,.string ⟨#[]⟩,.string ⟨#[]⟩,.string ⟨#[]⟩,kv,.slice none 0 0,.slice none 0 0,.bool false,.string ⟨#[]⟩] 30 (0,0))
 res:wr.heap[w.heap.size]?=some (.cells #[.int .i64 0,.int .i64 0,.int .i64 0,.int .i64 0,.string ⟨#[]⟩,.string ⟨#[]⟩,.string ⟨#[]⟩,.slice none 0 0,.slice none 0 0,.slice none 0 0,.bool false,.string ⟨#[]⟩] 30 (0,0))
 st:RSb g s n r v wr
 has:HasV 12 wr kv kids.length cs
 nodes:IsKL R wr cs kids
 keep:Keep (Lv w.heap.size g []) w wr
 vnew:∀ k,v.ownBlock=some k→w.heap.size+2≤k
 knew:∀ k,kv.ownBlock=some k→w.heap.size+2≤k∧v.ownBlock≠some k
 own:∀ k,R k→k<wr.heap.size∧w.heap.size+2≤k∧v.ownBlock≠some k∧kv.ownBlock≠some k
section
variable {g:Nat} {s:ByteArray} {n kd:Int} {p0:Nat} {w wr:World} {r:Rst} {v:Value} {kids:List NT} {kv:Value} {cs:List Value} {R:Nat→Prop}
theorem CollM.two (C:CollM g s n kd p0 w wr r v kids kv cs R):w.heap.size+2≤wr.heap.size:=(Array.getElem?_eq_some_iff.1 C.row).1
theorem CollM.turn (C:CollM g s n kd p0 w wr r v kids kv cs R) {r2:Rst} {v2:Value} {w2:World} (hg:g<w.heap.size) (hR:RSb g s n r2 v2 w2) (hk:Keep (fun k=>k<wr.heap.size∧k≠g∧v.ownBlock≠some k) wr w2) (hv:NewV wr.heap.size [v] v2):CollM g s n kd p0 w w2 r2 v2 kids kv cs R:=by
 have h2:=C.two
 have new:∀ k,v2.ownBlock=some k→wr.heap.size≤k∨v.ownBlock=some k:=fun k e=>by
  rcases hv k e with h|⟨u,hu,h⟩
  ·exact .inl h
  ·rw[List.mem_singleton] at hu;subst hu;exact .inr h
 have stay:∀ k,w.heap.size≤k→k<wr.heap.size→v.ownBlock≠some k→w2.heap[k]?=wr.heap[k]?:=fun k h1 h2 h3=>hk.block k ⟨h2,by omega,h3⟩
 have hv0:∀ k,k<w.heap.size+2→v.ownBlock≠some k:=fun k h e=>by have:=C.vnew k e;omega
 refine ⟨(stay _ (by omega) (by omega) (hv0 _ (by omega))).trans C.row,(stay _ (by omega) (by omega) (hv0 _ (by omega))).trans C.res,hR,C.has.keep fun k e h=>stay k (by have:=(C.knew k e).1;omega) h (C.knew k e).2,IsKL.frame (fun b hb=>⟨hb,stay b (by have:=(C.own b hb).2.1;omega) (C.own b hb).1 (C.own b hb).2.2.1⟩) _ _ C.nodes,C.keep.trans hk (fun k hk=>⟨by have:=hk.1;omega,hk.2.1,fun e=>by have:=C.vnew k e;have:=hk.1;omega⟩),fun k e=>?_,fun k e=>⟨(C.knew k e).1,fun e2=>?_⟩,fun k hb=>⟨Nat.lt_of_lt_of_le (C.own k hb).1 hk.size,(C.own k hb).2.1,fun e2=>?_,(C.own k hb).2.2.2⟩⟩
 ·rcases new k e with h|h
  ·omega
  ·exact C.vnew k h
 ·rcases new k e2 with h|h
  ·have:=C.has.own k e;omega
  ·exact (C.knew k e).2 h
 ·rcases new k e2 with h|h
  ·have:=(C.own k hb).1;omega
  ·exact (C.own k hb).2.2.1 h
theorem CollM.add (C:CollM g s n kd p0 w wr r v kids kv cs R) {kv':Value} {cs2:List Value} {R2:Nat→Prop} {ks2:List NT} {w6 w7:World} (hg:g<w.heap.size) (h2:IsKL R2 wr cs2 ks2) (hR2:∀ b,R2 b→b<wr.heap.size∧w.heap.size+2≤b∧v.ownBlock≠some b∧kv.ownBlock≠some b)
  (hv6:HasV 12 w6 kv' (kids.length+ks2.length) (cs++cs2)) (g6:wr.grownBy w6 kv.ownBlock) (n6:kv'.ownBlock=kv.ownBlock∨kv'.ownBlock=some wr.heap.size)
  (r7:w7.heap[w.heap.size+1]?=some (.cells #[.int .i64 kd,.int .i64 7,.int .i64 (p0:Int),.int .i64 0,.string ⟨#[]⟩,.string ⟨#[]⟩,.string ⟨#[]⟩,kv',.slice none 0 0,.slice none 0 0,.bool false,.string ⟨#[]⟩] 30 (0,0))) (h7:Keep (fun k=>k≠w.heap.size+1) w6 w7):CollM g s n kd p0 w w7 r v (kids++ks2) kv' (cs++cs2) (fun b=>R b∨R2 b):=by
 have t2:=C.two
 have new:∀ k,kv'.ownBlock=some k→wr.heap.size≤k∨kv.ownBlock=some k:=fun k e=>by
  rcases n6 with h|h
  ·rw[h] at e;exact .inr e
  ·rw[h] at e;injection e with e;exact .inl (by omega)
 have stay:∀ k,k<wr.heap.size→k≠w.heap.size+1→kv.ownBlock≠some k→w7.heap[k]?=wr.heap[k]?:=fun k h1 h2 h3=>(h7.block k h2).trans (g6.block k h1 (fun e=>h3 e.symm))
 have hk0:∀ k,k<w.heap.size+2→kv.ownBlock≠some k:=fun k h e=>by have:=(C.knew k e).1;omega
 have z6:=g6.size
 have z7:=h7.size
 have hkv:∀ k,kv.ownBlock=some k→k<wr.heap.size:=fun k e=>C.has.own k e
 have hown:∀ b,(R b∨R2 b)→b<wr.heap.size∧w.heap.size+2≤b∧v.ownBlock≠some b∧kv.ownBlock≠some b:=fun b hb=>by
  rcases hb with hb|hb
  ·exact C.own b hb
  ·exact hR2 b hb
 refine ⟨r7,(stay _ (by omega) (by omega) (hk0 _ (by omega))).trans C.res,C.st.keep fun k hlt hk=>stay k hlt ?_ ?_,?_,?_,?_,C.vnew,fun k e=>?_,fun k hb=>?_⟩
 ·rcases hk with rfl|hk
  ·omega
  ·have:=C.vnew k hk;omega
 ·rcases hk with rfl|hk
  ·exact hk0 _ (by omega)
  ·exact fun e=>(C.knew k e).2 hk
 ·rw[List.length_append]
  exact hv6.keep fun k e _=>h7.block k (by rcases new k e with h|h;omega;have:=(C.knew k h).1;omega)
 ·have fr:∀ b,(R b∨R2 b)→w7.heap[b]?=wr.heap[b]?:=fun b hb=>by
   obtain ⟨q1,q2,q3,q4⟩:=hown b hb
   exact stay b q1 (by omega) q4
  exact IsKL.append _ _ _ _ (IsKL.frame (R':=fun b=>R b∨R2 b) (fun b hb=>⟨.inl hb,fr b (.inl hb)⟩) _ _ C.nodes) (IsKL.frame (R':=fun b=>R b∨R2 b) (fun b hb=>⟨.inr hb,fr b (.inr hb)⟩) _ _ h2)
 ·exact C.keep.trans (Q:=fun k=>k<w.heap.size) ⟨h7.os.trans g6.os,h7.tape.trans g6.tape,h7.output.trans g6.output,by omega,fun k hk=>stay k (by omega) (by omega) (hk0 k (by omega))⟩ (fun k hk=>hk.1)
 ·rcases new k e with h|h
  ·exact ⟨by omega,fun e2=>by have:=C.st.has.own k e2;omega⟩
  ·exact C.knew k h
 ·obtain ⟨q1,q2,q3,q4⟩:=hown k hb
  exact ⟨by omega,q2,q3,fun e=>by rcases new k e with h|h;omega;exact q4 h⟩
theorem CollM.post (C:CollM g s n kd p0 w wr r v kids kv cs R) {o:Rd (NT × Rst)} {c:Int} {r2:Rst} {v2 fv:Value} {ft:Coms} {w9:World} (hg:g<w.heap.size) (hR:RSb g s n r2 v2 w9) (h9:Keep (fun k=>k≠g∧k≠w.heap.size∧k≠w.heap.size+1) wr w9)
  (hf:(fv=.slice none 0 0∧ft=[]∧v2.ownBlock=v.ownBlock)∨(fv=v∧ft=r.l∧v2.ownBlock=none)) (hres:ResN o c (.mk ⟨kd,7,p0,0,[],[],[],[],ft,false,[]⟩ kids) r2) (hwf:∀ y,o=.ok y→WFr s r2) :
  NodePost g s n w [] o (.returned (.tuple #[.agg #[.int .i64 kd,.int .i64 7,.int .i64 (p0:Int),.int .i64 0,.string ⟨#[]⟩,.string ⟨#[]⟩,.string ⟨#[]⟩,kv,.slice none 0 0,fv,.bool false,.string ⟨#[]⟩],.int .i64 c])) w9:=by
 have t2:=C.two
 have z9:=h9.size
 have hv2:∀ k,v2.ownBlock=some k→v.ownBlock=some k∧fv=.slice none 0 0:=fun k e=>by
  rcases hf with ⟨h,_,h2⟩|⟨_,_,h2⟩
  ·exact ⟨by rw[←h2];exact e,h⟩
  ·rw[h2] at e;cases e
 have hfo:∀ k,fv.ownBlock=some k→v.ownBlock=some k∧v2.ownBlock=none:=fun k e=>by
  rcases hf with ⟨h,_,_⟩|⟨h,_,h2⟩
  ·rw[h] at e;cases e
  ·rw[h] at e;exact ⟨e,h2⟩
 have stay:∀ k,w.heap.size+2≤k→w9.heap[k]?=wr.heap[k]?:=fun k h=>h9.block k ⟨by omega,by omega,by omega⟩
 obtain ⟨ao,b,off,cap,rfl,hcm,hc,hlt⟩:=C.has
 have hkn:=C.knew
 have Nd:IsN (fun k=>R k∨(Value.slice ao kids.length cap).ownBlock=some k∨fv.ownBlock=some k) w9 (.mk ⟨kd,7,p0,0,[],[],[],[],ft,false,[]⟩ kids) (headC ⟨kd,7,p0,0,[],[],[],[],ft,false,[]⟩ (.slice ao kids.length cap) (.slice none 0 0) fv):=by
  refine IsN.shut (ComsR.nil _ _) ?_ ⟨ao,cap,rfl,hc.le,hcm,fun h0=>?_⟩
  ·rcases hf with ⟨rfl,rfl,_⟩|⟨rfl,rfl,_⟩
   ·exact ComsR.nil _ _
   ·exact C.st.has.toComs.frame fun k hk=>⟨.inr (.inr hk),stay k (C.vnew k hk)⟩
  ·have ha:=hc.addr (Nat.lt_of_lt_of_le h0 hc.le)
   have hb:=hkn b (by rw[ha];rfl)
   refine ⟨b,off,ha,.inr (.inl (by rw[ha];rfl)),IsKL.toKids _ off cs (IsKL.frame (fun k hk=>⟨.inl hk,stay k (C.own k hk).2.1⟩) _ _ C.nodes) fun j u hu=>?_⟩
   exact (World.cell?_of_block (a:=⟨b,off+j,none⟩) (stay b hb.1)).trans (hc.olds j u hu)
 refine ⟨_,c,rfl,_,r2,v2,_,Nd,hR,fun k hk=>?_,fun k hk=>?_,fun k hk=>?_,fun k e=>?_,?_,fun _=>Nat.zero_le _,hres,hwf⟩
 ·rcases hk with hk|hk|hk
  ·have:=(C.own k hk).1;omega
  ·have:=hlt k hk;omega
  ·have:=C.st.has.own k (hfo k hk).1;omega
 ·rcases hk with hk|hk|hk
  ·exact ⟨by have:=(C.own k hk).2.1;omega,fun e=>(C.own k hk).2.2.1 (hv2 k e).1⟩
  ·exact ⟨by have:=(hkn k hk).1;omega,fun e=>(hkn k hk).2 (hv2 k e).1⟩
  ·exact ⟨by have:=C.vnew k (hfo k hk).1;omega,fun e=>by rw[(hfo k hk).2] at e;cases e⟩
 ·rcases hk with hk|hk|hk
  ·exact .inl (by have:=(C.own k hk).2.1;omega)
  ·exact .inl (by have:=(hkn k hk).1;omega)
  ·exact .inl (by have:=C.vnew k (hfo k hk).1;omega)
 ·exact .inl (by have:=C.vnew k (hv2 k e).1;omega)
 ·exact C.keep.trans h9 (fun k hk=>⟨hk.2.1,by have:=hk.1;omega,by have:=hk.1;omega⟩)
end
end Go.Proofs.YtncngeamdechmaaGreatDoor
