/- Parts of the proof, put together from smaller texts (blanks that Lean does not want are struck). Conditions: those that each theorem writes out. -/
import Derived.Test.YtncngeamdechmaaGreatDoorZ00
import Derived.Test.YtncngeamdechmaaGreatDoorZ01
import Derived.Test.YtncngeamdechmaaGreatDoorZ05
import Derived.Test.YtncngeamdechmaaGreatDoorZ07
import Derived.Test.YtncngeamdechmaaGreatDoorZ08
import Derived.Test.YtncngeamdechmaaGreatDoorZ17
import Derived.Test.YtncngeamdechmaaGreatDoorZ21
import Derived.Test.YtncngeamdechmaaGreatDoorZ23
namespace Go.Proofs.YtncngeamdechmaaGreatDoor
open Go.RowKit
set_option maxHeartbeats 1600000 in
theorem quotRead_no (s:ByteArray) (at' n:Int) (w:World) (_hs:s.size≤100000) (h:¬ (0≤at'∧at'.toNat<s.size∧(byt s at'.toNat=39∨byt s at'.toNat=34))) :
  Calls Tryz.prog 53 #[.string s,.int .i64 at',.int .i64 n] w fun e w'=>e=.returned (.tuple #[.string ⟨#[]⟩,.int .i64 at',.bool false,.int .i64 5])∧w=w':=by
 by_cases h0:at'<0
 ·clear h
  go_enter Tryz.func53,Tryz.ntmps53
  go_wp2
  refine bodyPost_ret (results_tmp4 rfl _ _ _) rfl ?_
  exact ⟨rfl,rfl⟩
 obtain ⟨k,rfl⟩:∃ k:Nat,at'=(k:Int):=⟨at'.toNat,by omega⟩
 rw[Int.toNat_natCast] at h
 clear h0
 by_cases h1:s.size≤k
 ·clear h
  go_enter Tryz.func53,Tryz.ntmps53
  go_wp2
  refine bodyPost_ret (results_tmp4 rfl _ _ _) rfl ?_
  exact ⟨rfl,rfl⟩
 have hi:=run_byt s k (by omega) (k:Int) rfl
 obtain ⟨y,hy⟩:∃ y,byt s k=y:=⟨_,rfl⟩
 rw[hy] at hi h
 have a39:((y:Int) != 39)=true:=by rw[bne_iff_ne];omega
 have a34:((y:Int) != 34)=true:=by rw[bne_iff_ne];omega
 have hd1:decide ((k:Int)<0)=false:=decide_eq_false (by omega)
 have hd2:decide (s.size≤k)=false:=decide_eq_false (by omega)
 clear h hy
 go_enter Tryz.func53,Tryz.ntmps53
 go_wp2
 refine bodyPost_ret (results_tmp4 rfl _ _ _) rfl ?_
 exact ⟨rfl,rfl⟩
theorem quotRead_is (T:List UInt8) (E:Int) (O:Bool) (C:Int) (s:ByteArray) (at' n:Int) (w:World) (hs:s.size≤100000) (hEv:Env w) (h:QuoZ s at' n T E O C) :
  Calls Tryz.prog 53 #[.string s,.int .i64 at',.int .i64 n] w fun e w'=>e=.returned (.tuple #[.string ⟨T.toArray⟩,.int .i64 E,.bool O,.int .i64 C])∧Below w.heap.size w w':=by
 unfold QuoZ at h
 split at h
 ·rename_i hc
  obtain ⟨h0,h1,h2⟩:=hc
  obtain ⟨E',rfl,hZ⟩:=h
  obtain ⟨k,rfl⟩:∃ k:Nat,at'=(k:Int):=⟨at'.toNat,by omega⟩
  rw[Int.toNat_natCast] at h1 h2 hZ
  rcases h2 with h2|h2
  ·rw[h2] at hZ
   exact quotRead_39 n T E' O C s k w hs h1 h2 hZ
  ·rw[h2] at hZ
   exact quotRead_34 n T E' O C s k w hs h1 h2 hEv hZ
 ·rename_i hc
  obtain ⟨rfl,rfl,rfl,rfl⟩:=h
  refine (quotRead_no s E n w hs hc).mono ?_
  rintro e w' ⟨rfl,rfl⟩
  exact ⟨rfl,Below.refl _ _⟩
end Go.Proofs.YtncngeamdechmaaGreatDoor
namespace Go.Proofs.YtncngeamdechmaaGreatDoor
open Go.RowKit
theorem zero_cells (m:Nat):Builtin.zeroCells (Value.string ByteArray.empty).cells m=(List.replicate m (Value.string ByteArray.empty)).toArray:=by
 apply Array.ext'
 apply List.ext_getElem
 ·simp[Builtin.zeroCells,Value.cells]
 ·intro k h1 h2
  simp[Builtin.zeroCells,Value.cells,Nat.mod_one]
theorem run_int (P:Program) (k:IntKind) (n:Int) (w:World):(asInt (.int k n)).run P w=.ok n w:=by simp[asInt,asIntOf]
theorem run_zeros_room {P:Program} (w:World) (t u ty e:TypeId) (i:TypeInfo) (k:IntKind) (ht:P.underlying t=some (.slice e)) (hu:P.underlying u=some (.int k)) (hi:P.info? e=some i) (hz:i.zero=some (.string ByteArray.empty)) (h1:i.size=1) (hb:i.bytes=16)
  (g n cap:Nat) (cur:Array Value) (hg:w.heap[g]?=some (.cells cur e (0,0))) (m:Nat) (hm:m≤1000000000) (hroom:n+m≤cap) (hfit:n+m≤cur.size) :
  (Builtin.append_ #[t,u] ty #[.slice (some ⟨g,0,none⟩) n cap,.int .i64 (m:Int)]).run P w =
   .ok (.slice (some ⟨g,0,none⟩) (n+m) cap) (w.setRow g (cur.toList.take n++List.replicate m (Value.string ByteArray.empty)++cur.toList.drop (n+m)).toArray):=by
 have hst:=run_storeCells_at (P:=P) g n e (List.replicate m (Value.string ByteArray.empty)) 0 cur w hg (by simpa using hfit) (by intro u hu;rw[List.mem_replicate] at hu;rw[hu.2];rfl)
 simp only[Nat.add_zero,List.length_replicate] at hst
 have hw:IntKind.i64.wrap (m:Int)=(m:Int):=by rw[IntKind.wrap_i64];omega
 have h0:¬ ((m:Int)<0):=by omega
 have h48:¬ (281474976710656<(m:Int)*16):=by omega
 by_cases hm0:m=0
 ·subst hm0
  simp only[List.replicate_zero,List.append_nil,Nat.add_zero,List.take_append_drop,Array.toArray_toList] at hst ⊢
  simp[Builtin.append_,run_underlying ht,run_underlying hu,sizeOf,typeInfo,hi,run_int,hb,h1,Addr.add_lit,show IntKind.i64.wrap 0=0 from rfl,show n≤cap by omega,hst]
 ·simp[Builtin.append_,run_underlying ht,run_underlying hu,sizeOf,typeInfo,hi,run_int,hw,h0,hb,h1,h48,hroom,hm0,Addr.add_lit,zeroValue,hz,zero_cells,hst]
theorem run_zeros_grow {P:Program} (w:World) (t u ty e:TypeId) (i:TypeInfo) (k:IntKind) (ht:P.underlying t=some (.slice e)) (hu:P.underlying u=some (.int k)) (hi:P.info? e=some i) (hz:i.zero=some (.string ByteArray.empty)) (h1:i.size=1) (hb:i.bytes=16)
  (b:Addr) (n cap:Nat) (olds:List Value) (hlo:olds.length=n) (holds:∀ j v,olds[j]?=some v→w.cell? (b.add j)=some v) (m:Nat) (hm:n+m≤2000000000) (hroom:cap<n+m) :
  (Builtin.append_ #[t,u] ty #[.slice (some b) n cap,.int .i64 (m:Int)]).run P w =
   .ok (.slice (some ⟨w.heap.size,0,none⟩) (n+m) (grownCap w (n+m) cap e)) (w.drew.alloc (.cells (olds.toArray++(List.replicate m (Value.string ByteArray.empty)).toArray++Builtin.zeroCells (Value.string ByteArray.empty).cells (grownCap w (n+m) cap e-(n+m))) e)):=by
 have hw:IntKind.i64.wrap (m:Int)=(m:Int):=by rw[IntKind.wrap_i64];omega
 have h0:¬ ((m:Int)<0):=by omega
 have h48:¬ (281474976710656<(m:Int)*16):=by omega
 have hfit:=growslice_fits (need:=n+m) (old:=cap) (bytes:=16) hroom (by omega)
 have h48':¬ (281474976710656<Builtin.nextslicecap (n+m) cap*16):=by omega
 have hn:¬ (n+m≤cap):=by omega
 have h63:¬ (9223372036854775807<((n:Int)+(m:Int))):=by omega
 have hfo:=run_firstCells_some (P:=P) w.drew 1 n b n cap olds (by omega) (by simpa using holds)
 by_cases hm0:m=0
 ·subst hm0
  have hn':¬ (n≤cap):=by omega
  have h63':¬ (9223372036854775807<(n:Int)):=by omega
  simp only[Nat.add_zero] at h48'
  simp[Builtin.append_,run_underlying ht,run_underlying hu,sizeOf,typeInfo,hi,run_int,hb,h1,hz,zeroValue,show IntKind.i64.wrap 0=0 from rfl,hn',h63',h48',Question.forced,hfo,newRow,grownCap]
 ·simp[Builtin.append_,run_underlying ht,run_underlying hu,sizeOf,typeInfo,hi,run_int,hw,h0,hb,h1,h48,hn,h63,h48',hm0,zeroValue,hz,zero_cells,Question.forced,hfo,newRow,grownCap]
theorem appendBlanks {ops:Array Oper} {rest:List Oper} {o:Oper} {a:Act} {Q:Exit→Act→World→Prop} {w:World} (hgd:o.guard=none) (s x:Operand)
  (ho:o.op=.call { callee:=.builtin .append,args:=#[s,x],argTypes:=#[24,3] })
  (B:Nat) (v:Value) (xs:List (List UInt8)) (m:Nat) (hs:a.eval s=v) (hx:a.eval x=.int .i64 (m:Int)) (hv:OutT B w v xs) (hp:0<xs.length) (hn:xs.length+m≤1000000000) (hB:B≤w.heap.size)
  (h:∀ v' w',OutT B w' v' (xs++U.blanksL m)→w.grownBy w' v.ownBlock→wpList Tryz.prog ops Q rest (a.put o.dst v') w'):wpList Tryz.prog ops Q (o :: rest) a w:=by
 obtain ⟨i,hi,hz,h1,hb⟩:=info_parts infoS
 have hu:=Tryz.underlying3
 have ht:=Tryz.underlying24
 have hbl:txts (U.blanksL m)=List.replicate m (Value.string ByteArray.empty):=by
  unfold txts U.blanksL
  rw[List.map_replicate]
  rfl
 have hlen:(xs++U.blanksL m).length=xs.length+m:=by rw[List.length_append];simp[U.blanksL]
 have key:∃ v' w',(Builtin.append_ #[24,3] o.type #[v,.int .i64 (m:Int)]).run Tryz.prog w=.ok v' w'∧OutT B w' v' (xs++U.blanksL m)∧w.grownBy w' v.ownBlock:=by
  obtain ⟨g0,hv2⟩:=hv
  rcases hv2 with ⟨_,hn0⟩|⟨g,cap,cur,rfl,hg,hh,hnc,hcm,hcs,htake⟩
  ·omega
  by_cases hroom:xs.length+m≤cap
  ·have hr:=run_zeros_room (P:=Tryz.prog) w 24 3 o.type 9 i _ ht hu hi hz h1 hb g xs.length cap cur hh m (by omega) hroom (by omega)
   refine ⟨_,_,hr,⟨?_,.inr ⟨g,cap,_,?_,hg,setRow_heap w g cur _ 9 _ hh,?_,hcm,?_,?_⟩⟩,⟨rfl,rfl,rfl,by simp,fun k _ hk=>setRow_other w g k _ (fun e=>hk (by simp[Value.ownBlock,e]))⟩⟩
   ·rw[txts_length];omega
   ·rw[hlen]
   ·rw[hlen];exact hroom
   ·simp;omega
   ·rw[hlen,txts_append,hbl,←htake,Nat.mul_one]
    simp
    rw[←List.append_assoc]
    exact List.take_left' (by simp;omega)
  ·have holds:∀ j u,(txts xs)[j]?=some u→w.cell? ((⟨g,0,none⟩:Addr).add j)=some u:=World.ownsRow.cells (base:=B) (e:=9) (size:=1) (v:=.slice (some ⟨g,0,none⟩) xs.length cap) (n:=xs.length) ⟨g0,.inr ⟨g,cap,cur,rfl,hg,hh,hnc,hcm,hcs,htake⟩⟩ (g:=g) rfl
   have hr:=run_zeros_grow (P:=Tryz.prog) w 24 3 o.type 9 i _ ht hu hi hz h1 hb ⟨g,0,none⟩ xs.length cap (txts xs) (txts_length _) holds m (by omega) (by omega)
   have hge:=grownCap_ge w (xs.length+m) cap 9
   have hcm2:grownCap w (xs.length+m) cap 9≤maxLen:=grownCap_le_maxLen w (xs.length+m) cap 9 (by unfold maxLen;omega)
   refine ⟨_,_,hr,⟨?_,.inr ⟨w.heap.size,_,_,?_,hB,heap_alloc_new w.drew _,?_,hcm2,?_,?_⟩⟩,⟨rfl,rfl,rfl,by simp,fun k hk _=>heap_alloc_old w.drew _ hk⟩⟩
   ·rw[txts_length];omega
   ·rw[hlen]
   ·rw[hlen];exact hge
   ·rw[zero_cells];simp[txts_length];omega
   ·rw[hlen,txts_append,hbl,zero_cells]
    simp
    rw[←List.replicate_append_replicate,←List.append_assoc]
    exact List.take_left' (by simp[txts_length])
 obtain ⟨v',w',hr,h2,h3⟩:=key
 refine wpList_plain hgd fun K hK=>?_
 unfold Oper.wp execOp
 simp only[ho,resolve,invoke,builtin,Sem.run_bind,Sem.run_pure,Result.andThen_ok,List.map_toArray,List.map_cons,List.map_nil,hs,hx,hr]
 exact hK _ _ (h v' w' h2 h3)
end Go.Proofs.YtncngeamdechmaaGreatDoor
namespace Go.Proofs.YtncngeamdechmaaGreatDoor
open Go.RowKit
set_option maxRecDepth 100000 in
set_option maxHeartbeats 3200000 in
theorem plaiRead_t (T:List UInt8) (E:Int) (O:Bool) (C:Int) (s:ByteArray) (at' n:Int) (w:World) (hs:s.size≤100000) (h:PlaiZ s at' n true T E O C) :
  Calls Tryz.prog 54 #[.string s,.int .i64 at',.int .i64 n,.bool true] w fun e w'=>e=.returned (.tuple #[.string ⟨T.toArray⟩,.int .i64 E,.bool O,.int .i64 C])∧Below w.heap.size w w':=by
 have hs2:s.size≤1099511627776:=by omega
 cases hb0:begB s at' true with
 | false=>
  unfold PlaiZ at h
  rw[hb0,if_pos rfl] at h
  obtain ⟨rfl,rfl,rfl,rfl⟩:=h
  have HB:=Lib.hid hb0
  clear hb0
  go_enter Tryz.func54,Tryz.ntmps54
  go_wp2_with fail
  refine (plaiBegins_is false s E true _ hs2 HB.out).mono ?_
  rintro e9 w9 ⟨rfl,rfl⟩
  go_wp2
  refine bodyPost_ret (results_tmp4 rfl _ _ _) rfl ?_
  exact ⟨rfl,Below.refl _ _⟩
 | true=>
  obtain ⟨h0,h1⟩:=beg_in hb0
  obtain ⟨k0,rfl⟩:∃ k0:Nat,at'=(k0:Int):=⟨at'.toNat,by omega⟩
  unfold PlaiZ at h
  rw[hb0,if_neg (by decide),Int.toNat_natCast] at h
  rw[Int.toNat_natCast] at h1
  obtain ⟨E',rfl,h⟩:=h
  obtain ⟨e0,he0⟩:=ParN.ex s true k0 (by omega)
  have hG:=h e0 he0
  have q1:=he0.ge
  have q2:=he0.le
  have HB:=Lib.hid hb0
  have HE0:=Lib.hid he0
  have hpl:(pieceL s k0 e0).length=e0-k0:=piece_len q2
  have hx0:s.extract k0 e0=⟨(pieceL s k0 e0).toArray⟩:=piece_ext s k0 e0
  have hsl0:∀ W,(Instr.slice 9 (.string s) (some (.int .i64 (k0:Int))) (some (.int .i64 (e0:Int))) none).run Tryz.prog W=.ok (.string ⟨(pieceL s k0 e0).toArray⟩) W:=fun W=>by
   rw[run_slice_string W 9 s .i64 .i64 k0 e0 Tryz.underlying9 (by omega) (by omega) (by omega),←hx0]
   rfl
  obtain ⟨P0,hP0⟩:∃ P0,pieceL s k0 e0=P0:=⟨_,rfl⟩
  rw[hP0] at hsl0 hpl hG
  have HG:=Lib.hid hG
  have htot:U.tot [P0]≤e0+1:=by simp[U.tot];omega
  clear hb0 he0 hG hx0 hP0 hpl h h0
  go_enter Tryz.func54,Tryz.ntmps54
  go_wp2_with fail
  refine (plaiBegins_is true s (k0:Int) true _ hs2 HB.out).mono ?_
  rintro e9 w9 ⟨rfl,rfl⟩
  go_wp2_with fail
  refine (plaiPart_is e0 s k0 true _ hs2 h1 HE0.out).mono ?_
  rintro e9 w1 ⟨rfl,hb1⟩
  go_wp2
  go_loopw [12,13] (fun v12 v13 wr=>∃ (e:Nat) (R:List (List UInt8)) (one:Bool) (g:Nat),v12=.int .i64 (e:Int)∧e≤s.size∧OutT w.heap.size wr v13 R∧Below w.heap.size w wr∧U.tot R≤e+1∧s.size<e+g∧0<R.length∧Hid (one=decide (R.length=1))∧Hid (PlaiG s n true T E' O C g e R one)) (fun v12 _ _=>s.size-(intOf v12).toNat)
  case atStart=>exact ⟨e0,[P0],true,s.size+1,rfl,q2,OutT_one w.heap.size w1 P0 hb1.size,hb1.alloc hb1.size _,htot,by omega,by simp,by show _=_;rfl,HG.out⟩
  case round=>
   obtain ⟨e,R,one,g,rfl,he,ho,hb,htt,hg,hR,HO,H⟩:=hrel
   obtain ⟨g,rfl⟩:∃ g',g=g'+1:=⟨g-1,by omega⟩
   obtain ⟨F,K,hN⟩:=NxS.ex s n (s.size+1) e (-1) (by omega)
   have hF:=hN.le he
   obtain ⟨E1,hS⟩:=StpN.ex s true F hF
   have hst:=H.out.step he hN hS
   have hE2:=hS.2.1
   have HN:=Lib.hid hN
   have HS:=Lib.hid hS
   have hRl:R.length≤e+1:=Nat.le_trans (tot_len R) htt
   clear hN hS HB HE0 HG hsl0 htot hb1 H
   rcases hst with ⟨hE,rT,rE,rO,rC⟩|⟨hFE,heF,k,rfl,hek,hc⟩
   ·obtain rfl:F=E1:=hE.symm
    obtain rfl:E'=e:=rE
    subst rO
    subst rC
    have RT:=Lib.hid rT.symm
    have hL:((R.length:Int)==1)=O:=by rw[HO.out,Bool.eq_iff_iff];simp;omega
    obtain ⟨gb,cp,rfl,_,_,_⟩:=ho.shape hR
    clear rT hE
    go_wp2_with fail
    refine (plaiNext_is F _ s _ n _ hs2 he HN.out).mono ?_
    rintro e9 w9 ⟨rfl,hb9⟩
    have hb3:=hb.trans (hb9.mono hb.size)
    have ho3:=ho.below hb9
    go_wp2_with fail
    refine (plaiStop_is _ s F true _ hs2 hF HS.out).mono ?_
    rintro e9 w8 ⟨rfl,hb8⟩
    have hb4:=hb3.trans (hb8.mono hb3.size)
    have ho4:=ho3.below hb8
    clear ho ho3 hb hb3 hb8 hb9
    go_wp2_with fail
    refine (foldFlow_is T _ R _ ho4.is (by omega) RT.out).mono ?_
    rintro e9 w7 ⟨rfl,hb7⟩
    go_wp2
    refine bodyPost_ret (results_tmp4 rfl _ _ _) rfl ?_
    exact ⟨rfl,hb4.trans (hb7.mono hb4.size)⟩
   ·have hc7:((E1:Int)==(F:Int))=false:=by simp;omega
    replace hc:=hc.resolve_left (fun h=>by cases h.1)
    obtain ⟨hn,q,hq,hFq,hG⟩:=hc
    have hq1:=hq.1
    have hq2:=hq.2.1
    have HQ:=Lib.hid hq
    have hpl:(pieceL s F q).length=q-F:=piece_len (by omega)
    have hx0:s.extract F q=⟨(pieceL s F q).toArray⟩:=piece_ext s F q
    have hsl0:∀ W,(Instr.slice 9 (.string s) (some (.int .i64 (F:Int))) (some (.int .i64 (q:Int))) none).run Tryz.prog W=.ok (.string ⟨(pieceL s F q).toArray⟩) W:=fun W=>by
     rw[run_slice_string W 9 s .i64 .i64 F q Tryz.underlying9 (by omega) (by omega) (by omega),←hx0]
     rfl
    obtain ⟨P0,hP0⟩:∃ P0,pieceL s F q=P0:=⟨_,rfl⟩
    rw[hP0] at hsl0 hpl hG
    have htt2:U.tot (R++(U.blanksL k++[P0]))≤q+1:=by
     rw[U.tot_append,U.tot_append,tot_blanks]
     simp only[U.tot]
     omega
    have hrl:(R++U.blanksL k).length≤1000000000:=by
     rw[List.length_append,U.blanksL,List.length_replicate]
     omega
    have hone:false=decide ((R++(U.blanksL k++[P0])).length=1):=by
     symm
     rw[decide_eq_false_iff_not]
     simp
     omega
    have hlp:0<(R++(U.blanksL k++[P0])).length:=by simp;omega
    have HTT:=Lib.hid htt2
    have HRL:=Lib.hid hrl
    have HG:=Lib.hid hG
    have HO2:=Lib.hid hone
    have HLP:=Lib.hid hlp
    have hkn:R.length+k≤1000000000:=by omega
    clear hq hx0 hP0 hpl hG htt2 hrl hone hlp htt HO hRl
    clear hn
    go_wp2_with fail
    refine (plaiNext_is F _ s _ n _ hs2 he HN.out).mono ?_
    rintro e9 w9 ⟨rfl,hb9⟩
    have hb3:=hb.trans (hb9.mono hb.size)
    have ho3:=ho.below hb9
    go_wp2_with fail
    refine (plaiStop_is _ s F true _ hs2 hF HS.out).mono ?_
    rintro e9 w8 ⟨rfl,hb8⟩
    have hb4:=hb3.trans (hb8.mono hb3.size)
    have ho4:=ho3.below hb8
    clear ho ho3 hb hb3 hb8 hb9
    go_wp2_with fail
    refine (plaiTrim_is q s F E1 _ hs2 hE2 HQ.out).mono ?_
    rintro e9 w7 ⟨rfl,rfl⟩
    go_wp2_with (at_builtin;first|(refine appendBlanks rfl _ _ rfl w.heap.size _ R k rfl rfl ho4 hR hkn hb4.size ?_;intro v2 w2 o2 g2;have hb5:=hb4.grown g2 hb4.size (fun k hk=>(ho4.lt k hk).1))|(refine appendOne w2 P0 rfl _ _ rfl w.heap.size w _ _ rfl rfl o2 hb5 HRL.out (Nat.le_refl _) ?_;intro v3 w3 o3 b3))
    rw[List.append_assoc] at o3
    go_roundw
    case rel=>exact ⟨q,R++(U.blanksL k++[P0]),false,g,rfl,by omega,o3,b3,HTT.out,by omega,HLP.out,HO2,HG⟩
    case measure=>simp[intOf];omega
set_option maxRecDepth 100000 in
set_option maxHeartbeats 3200000 in
theorem plaiRead_f (T:List UInt8) (E:Int) (O:Bool) (C:Int) (s:ByteArray) (at' n:Int) (w:World) (hs:s.size≤100000) (h:PlaiZ s at' n false T E O C) :
  Calls Tryz.prog 54 #[.string s,.int .i64 at',.int .i64 n,.bool false] w fun e w'=>e=.returned (.tuple #[.string ⟨T.toArray⟩,.int .i64 E,.bool O,.int .i64 C])∧Below w.heap.size w w':=by
 have hs2:s.size≤1099511627776:=by omega
 cases hb0:begB s at' false with
 | false=>
  unfold PlaiZ at h
  rw[hb0,if_pos rfl] at h
  obtain ⟨rfl,rfl,rfl,rfl⟩:=h
  have HB:=Lib.hid hb0
  clear hb0
  go_enter Tryz.func54,Tryz.ntmps54
  go_wp2_with fail
  refine (plaiBegins_is false s E false _ hs2 HB.out).mono ?_
  rintro e9 w9 ⟨rfl,rfl⟩
  go_wp2
  refine bodyPost_ret (results_tmp4 rfl _ _ _) rfl ?_
  exact ⟨rfl,Below.refl _ _⟩
 | true=>
  obtain ⟨h0,h1⟩:=beg_in hb0
  obtain ⟨k0,rfl⟩:∃ k0:Nat,at'=(k0:Int):=⟨at'.toNat,by omega⟩
  unfold PlaiZ at h
  rw[hb0,if_neg (by decide),Int.toNat_natCast] at h
  rw[Int.toNat_natCast] at h1
  obtain ⟨E',rfl,h⟩:=h
  obtain ⟨e0,he0⟩:=ParN.ex s false k0 (by omega)
  have hG:=h e0 he0
  have q1:=he0.ge
  have q2:=he0.le
  have HB:=Lib.hid hb0
  have HE0:=Lib.hid he0
  have hpl:(pieceL s k0 e0).length=e0-k0:=piece_len q2
  have hx0:s.extract k0 e0=⟨(pieceL s k0 e0).toArray⟩:=piece_ext s k0 e0
  have hsl0:∀ W,(Instr.slice 9 (.string s) (some (.int .i64 (k0:Int))) (some (.int .i64 (e0:Int))) none).run Tryz.prog W=.ok (.string ⟨(pieceL s k0 e0).toArray⟩) W:=fun W=>by
   rw[run_slice_string W 9 s .i64 .i64 k0 e0 Tryz.underlying9 (by omega) (by omega) (by omega),←hx0]
   rfl
  obtain ⟨P0,hP0⟩:∃ P0,pieceL s k0 e0=P0:=⟨_,rfl⟩
  rw[hP0] at hsl0 hpl hG
  have HG:=Lib.hid hG
  have htot:U.tot [P0]≤e0+1:=by simp[U.tot];omega
  clear hb0 he0 hG hx0 hP0 hpl h h0
  go_enter Tryz.func54,Tryz.ntmps54
  go_wp2_with fail
  refine (plaiBegins_is true s (k0:Int) false _ hs2 HB.out).mono ?_
  rintro e9 w9 ⟨rfl,rfl⟩
  go_wp2_with fail
  refine (plaiPart_is e0 s k0 false _ hs2 h1 HE0.out).mono ?_
  rintro e9 w1 ⟨rfl,hb1⟩
  go_wp2
  go_loopw [12,13] (fun v12 v13 wr=>∃ (e:Nat) (R:List (List UInt8)) (one:Bool) (g:Nat),v12=.int .i64 (e:Int)∧e≤s.size∧OutT w.heap.size wr v13 R∧Below w.heap.size w wr∧U.tot R≤e+1∧s.size<e+g∧0<R.length∧Hid (one=decide (R.length=1))∧Hid (PlaiG s n false T E' O C g e R one)) (fun v12 _ _=>s.size-(intOf v12).toNat)
  case atStart=>exact ⟨e0,[P0],true,s.size+1,rfl,q2,OutT_one w.heap.size w1 P0 hb1.size,hb1.alloc hb1.size _,htot,by omega,by simp,by show _=_;rfl,HG.out⟩
  case round=>
   obtain ⟨e,R,one,g,rfl,he,ho,hb,htt,hg,hR,HO,H⟩:=hrel
   obtain ⟨g,rfl⟩:∃ g',g=g'+1:=⟨g-1,by omega⟩
   obtain ⟨F,K,hN⟩:=NxS.ex s n (s.size+1) e (-1) (by omega)
   have hF:=hN.le he
   obtain ⟨E1,hS⟩:=StpN.ex s false F hF
   have hst:=H.out.step he hN hS
   have hE2:=hS.2.1
   have HN:=Lib.hid hN
   have HS:=Lib.hid hS
   have hRl:R.length≤e+1:=Nat.le_trans (tot_len R) htt
   clear hN hS HB HE0 HG hsl0 htot hb1 H
   rcases hst with ⟨hE,rT,rE,rO,rC⟩|⟨hFE,heF,k,rfl,hek,hc⟩
   ·obtain rfl:F=E1:=hE.symm
    obtain rfl:E'=e:=rE
    subst rO
    subst rC
    have RT:=Lib.hid rT.symm
    have hL:((R.length:Int)==1)=O:=by rw[HO.out,Bool.eq_iff_iff];simp;omega
    obtain ⟨gb,cp,rfl,_,_,_⟩:=ho.shape hR
    clear rT hE
    go_wp2_with fail
    refine (plaiNext_is F _ s _ n _ hs2 he HN.out).mono ?_
    rintro e9 w9 ⟨rfl,hb9⟩
    have hb3:=hb.trans (hb9.mono hb.size)
    have ho3:=ho.below hb9
    go_wp2_with fail
    refine (plaiStop_is _ s F false _ hs2 hF HS.out).mono ?_
    rintro e9 w8 ⟨rfl,hb8⟩
    have hb4:=hb3.trans (hb8.mono hb3.size)
    have ho4:=ho3.below hb8
    clear ho ho3 hb hb3 hb8 hb9
    go_wp2_with fail
    refine (foldFlow_is T _ R _ ho4.is (by omega) RT.out).mono ?_
    rintro e9 w7 ⟨rfl,hb7⟩
    go_wp2
    refine bodyPost_ret (results_tmp4 rfl _ _ _) rfl ?_
    exact ⟨rfl,hb4.trans (hb7.mono hb4.size)⟩
   ·have hc7:((E1:Int)==(F:Int))=false:=by simp;omega
    rcases hc with ⟨_,hl,h58,rT,rE,rO,rC⟩|hc
    ·subst rT
     obtain rfl:E'=E1:=rE
     subst rO
     subst rC
     have HC:=Lib.hid (show decide (E'<s.size∧byt s E'=58)=true from decide_eq_true ⟨hl,h58⟩)
     clear h58
     go_wp2_with fail
     refine (plaiNext_is F _ s _ n _ hs2 he HN.out).mono ?_
     rintro e9 w9 ⟨rfl,hb9⟩
     have hb3:=hb.trans (hb9.mono hb.size)
     have ho3:=ho.below hb9
     go_wp2_with fail
     refine (plaiStop_is _ s F false _ hs2 hF HS.out).mono ?_
     rintro e9 w8 ⟨rfl,hb8⟩
     have hb4:=hb3.trans (hb8.mono hb3.size)
     have ho4:=ho3.below hb8
     clear ho ho3 hb hb3 hb8 hb9
     go_wp2_with fail
     refine (colon_is true s E' _ HC.out).mono ?_
     rintro e9 w7 ⟨rfl,rfl⟩
     go_wp2
     refine bodyPost_ret (results_tmp4 rfl _ _ _) rfl ?_
     exact ⟨rfl,hb4⟩
    ·have _h:=hc
     obtain ⟨hn,q,hq,hFq,hG⟩:=hc
     have hq1:=hq.1
     have hq2:=hq.2.1
     have HQ:=Lib.hid hq
     have hpl:(pieceL s F q).length=q-F:=piece_len (by omega)
     have hx0:s.extract F q=⟨(pieceL s F q).toArray⟩:=piece_ext s F q
     have hsl0:∀ W,(Instr.slice 9 (.string s) (some (.int .i64 (F:Int))) (some (.int .i64 (q:Int))) none).run Tryz.prog W=.ok (.string ⟨(pieceL s F q).toArray⟩) W:=fun W=>by
      rw[run_slice_string W 9 s .i64 .i64 F q Tryz.underlying9 (by omega) (by omega) (by omega),←hx0]
      rfl
     obtain ⟨P0,hP0⟩:∃ P0,pieceL s F q=P0:=⟨_,rfl⟩
     rw[hP0] at hsl0 hpl hG
     have htt2:U.tot (R++(U.blanksL k++[P0]))≤q+1:=by
      rw[U.tot_append,U.tot_append,tot_blanks]
      simp only[U.tot]
      omega
     have hrl:(R++U.blanksL k).length≤1000000000:=by
      rw[List.length_append,U.blanksL,List.length_replicate]
      omega
     have hone:false=decide ((R++(U.blanksL k++[P0])).length=1):=by
      symm
      rw[decide_eq_false_iff_not]
      simp
      omega
     have hlp:0<(R++(U.blanksL k++[P0])).length:=by simp;omega
     have HTT:=Lib.hid htt2
     have HRL:=Lib.hid hrl
     have HG:=Lib.hid hG
     have HO2:=Lib.hid hone
     have HLP:=Lib.hid hlp
     have hkn:R.length+k≤1000000000:=by omega
     clear hq hx0 hP0 hpl hG htt2 hrl hone hlp htt HO hRl
     have HN58:=Lib.hid (show decide (E1<s.size∧byt s E1=58)=false from decide_eq_false fun hh=>hn ⟨rfl,hh⟩)
     clear hn
     go_wp2_with fail
     refine (plaiNext_is F _ s _ n _ hs2 he HN.out).mono ?_
     rintro e9 w9 ⟨rfl,hb9⟩
     have hb3:=hb.trans (hb9.mono hb.size)
     have ho3:=ho.below hb9
     go_wp2_with fail
     refine (plaiStop_is _ s F false _ hs2 hF HS.out).mono ?_
     rintro e9 w8 ⟨rfl,hb8⟩
     have hb4:=hb3.trans (hb8.mono hb3.size)
     have ho4:=ho3.below hb8
     clear ho ho3 hb hb3 hb8 hb9
     go_wp2_with fail
     refine (colon_is false s E1 _ HN58.out).mono ?_
     rintro e9 w7 ⟨rfl,rfl⟩
     go_wp2_with fail
     refine (plaiTrim_is q s F E1 _ hs2 hE2 HQ.out).mono ?_
     rintro e9 w7 ⟨rfl,rfl⟩
     go_wp2_with (at_builtin;first|(refine appendBlanks rfl _ _ rfl w.heap.size _ R k rfl rfl ho4 hR hkn hb4.size ?_;intro v2 w2 o2 g2;have hb5:=hb4.grown g2 hb4.size (fun k hk=>(ho4.lt k hk).1))|(refine appendOne w2 P0 rfl _ _ rfl w.heap.size w _ _ rfl rfl o2 hb5 HRL.out (Nat.le_refl _) ?_;intro v3 w3 o3 b3))
     rw[List.append_assoc] at o3
     go_roundw
     case rel=>exact ⟨q,R++(U.blanksL k++[P0]),false,g,rfl,by omega,o3,b3,HTT.out,by omega,HLP.out,HO2,HG⟩
     case measure=>simp[intOf];omega
theorem plaiRead_is (T:List UInt8) (E:Int) (O:Bool) (C:Int) (s:ByteArray) (at' n:Int) (fl:Bool) (w:World) (hs:s.size≤100000) (h:PlaiZ s at' n fl T E O C) :
  Calls Tryz.prog 54 #[.string s,.int .i64 at',.int .i64 n,.bool fl] w fun e w'=>e=.returned (.tuple #[.string ⟨T.toArray⟩,.int .i64 E,.bool O,.int .i64 C])∧Below w.heap.size w w':=by
 cases fl with
 | true=>exact plaiRead_t T E O C s at' n w hs h
 | false=>exact plaiRead_f T E O C s at' n w hs h
end Go.Proofs.YtncngeamdechmaaGreatDoor
