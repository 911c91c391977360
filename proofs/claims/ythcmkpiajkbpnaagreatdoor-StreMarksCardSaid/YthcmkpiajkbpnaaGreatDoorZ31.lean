/- Parts of the proof, put together from smaller texts (blanks that Lean does not want are struck). Conditions: those that each theorem writes out. -/
import Derived.Test.YthcmkpiajkbpnaaGreatDoorZ29
import Derived.Test.YthcmkpiajkbpnaaGreatDoorZ30
namespace Go.Proofs.YthcmkpiajkbpnaaGreatDoor
open Go.RowKit
def MapI (s:ByteArray) (blk:Nat→Nat→Rd Tre→Prop) (c deep:Nat) (o:Rd (List NT × Coms × Nat)) (k q:Nat) (L:Coms) (kids:List NT) (b:Bool):Prop:=kids.length≤2*q∧if b=true then q<s.size∧U.white (byt s q:Int)=false∧MapK s blk c deep o k q L kids else o=.ok (kids,L,q)
set_option maxRecDepth 100000 in
set_option maxHeartbeats 6400000 in
theorem trMap_is {Ev:World→Prop} {P:ByteArray→Prop} (K:CntC Ev P) (w0:World) (hEv:Ev w0) (g:Nat) (hg0:w0.heap.size≤g) (s:ByteArray) (hs:s.size≤10000) (hPs:P s) (blk:Nat→Nat→Rd Tre→Prop) (hblk:BlkC w0 g s blk) (hld:LeadB blk) (hfb:FarB s blk) (hwn:NwB s blk) (c d p:Nat) (hcp:colF s p=c) (oS:Rd (List NT × Coms × Nat)) (ho:MapP s blk c (d+1) oS p [] []) (w:World) (hB:Below w0.heap.size w0 w) (h:TrAt g s p (.slice none 0 0) w) (hp:p<s.size) (hpw:U.white (byt s p:Int)=false) (hd:d<40) :
  Calls Tryz.prog 53 #[.pointer (some ⟨g,0,none⟩),.int .i64 (d:Int)] w fun e w'=>TrPost g w (rdMap (fun r=>(NT.mk ⟨4,6,p,0,[],[],[],[],[],false,[]⟩ r.1,r.2)) oS) (NodG g s w) e w':=by
 obtain ⟨hk,hK⟩:=ho.rounds
 have hg:=h.lt
 have h0:=h.cell
 obtain ⟨W1,hW1⟩:∃ W1,W1=(w.alloc (.cells #[.int .i64 0,.int .i64 0,.int .i64 0,.int .i64 0,.string ⟨#[]⟩,.string ⟨#[]⟩,.string ⟨#[]⟩,.slice none 0 0,.slice none 0 0,.slice none 0 0,.bool false,.string ⟨#[]⟩] 27)).alloc (.cells #[.int .i64 4,.int .i64 6,.int .i64 (p:Int),.int .i64 0,.string ⟨#[]⟩,.string ⟨#[]⟩,.string ⟨#[]⟩,.slice none 0 0,.slice none 0 0,.slice none 0 0,.bool false,.string ⟨#[]⟩] 27):=⟨_,rfl⟩
 have u1:W1.heap.size=w.heap.size+2:=by rw[hW1];simp
 have b1:Below w.heap.size w W1:=by rw[hW1];exact ((Below.refl _ _).alloc (Nat.le_refl _) _).alloc (by simp) _
 have ra:W1.heap[w.heap.size]?=some (.cells #[.int .i64 0,.int .i64 0,.int .i64 0,.int .i64 0,.string ⟨#[]⟩,.string ⟨#[]⟩,.string ⟨#[]⟩,.slice none 0 0,.slice none 0 0,.slice none 0 0,.bool false,.string ⟨#[]⟩] 27 (0,0)):=by rw[hW1];exact (heap_alloc_old _ _ (by simp)).trans (heap_alloc_new w _)
 have rn:W1.heap[w.heap.size+1]?=some (.cells #[.int .i64 4,.int .i64 6,.int .i64 (p:Int),.int .i64 0,.string ⟨#[]⟩,.string ⟨#[]⟩,.string ⟨#[]⟩,.slice none 0 0,.slice none 0 0,.slice none 0 0,.bool false,.string ⟨#[]⟩] 27 (0,0)):=by
  rw[hW1]
  have:=heap_alloc_new (w.alloc (.cells #[.int .i64 0,.int .i64 0,.int .i64 0,.int .i64 0,.string ⟨#[]⟩,.string ⟨#[]⟩,.string ⟨#[]⟩,.slice none 0 0,.slice none 0 0,.slice none 0 0,.bool false,.string ⟨#[]⟩] 27)) (.cells #[.int .i64 4,.int .i64 6,.int .i64 (p:Int),.int .i64 0,.string ⟨#[]⟩,.string ⟨#[]⟩,.string ⟨#[]⟩,.slice none 0 0,.slice none 0 0,.slice none 0 0,.bool false,.string ⟨#[]⟩] 27)
  simpa using this
 have h1:=h.below b1 hg
 have CC:=trCol_is g s p (.slice none 0 0) W1 h1 hs (Nat.le_of_lt hp)
 rw[hcp] at CC
 have HW:=Lib.hid hW1
 clear hW1 h ho
 go_enter Tryz.func53,Tryz.ntmps53
 go_upto_region 2 with fail
 rw[←HW.out]
 go_wp2_with fail
 refine CC.mono ?_
 rintro e w2 ⟨rfl,j2,e2⟩
 have b2:Below W1.heap.size W1 w2:=by rw[e2];exact Go.below_drewN (Below.refl _ _) _
 clear e2 CC
 have z2:=b2.size
 have C2:BlM g s 4 p w w2 p (.slice none 0 0) [] [] (.slice none 0 0) [] (fun _=>False):=⟨(b2.block (w.heap.size+1) (by omega)).trans rn,(b2.block w.heap.size (by omega)).trans ra,⟨h1.below b2 h1.lt,HasV.nil _ _,fun k hk=>(by cases hk),fun k hk=>hk.elim (fun h=>h.elim) (fun h=>(by cases h)),(below_lx b1).lxB b2 b1.size,Nat.le_of_lt hp,Nat.zero_le _⟩,HasV.nil _ _,rfl,fun k hk=>(by rcases hk with h|h|h;exact h.elim;cases h;cases h),fun k hk=>hk.elim⟩
 have I2:MapI s blk c (d+1) oS hk p [] [] true:=⟨Nat.zero_le _,by rw[if_pos rfl];exact ⟨hp,hpw,hK⟩⟩
 have HC2:=Lib.hid C2
 have HI2:=Lib.hid I2
 clear C2 I2 hK rn ra h1 b1 b2 h0
 go_wp2
 go_loopg [7] hk (fun gk v7 wr=>∃ (q:Nat) (v:Value) (L:Coms) (kids:List NT) (kv:Value) (cs:List Value) (R:Nat→Prop) (b:Bool),v7=.bool b∧BlM g s 4 p w wr q v L kids kv cs R∧Hid (MapI s blk c (d+1) oS gk q L kids b))
 case atStart=>exact ⟨p,_,_,_,_,_,_,true,rfl,HC2.out,HI2⟩
 case round=>
 obtain ⟨q,v,L,kids,kv,cs,R,b,rfl,C,HI⟩:=hrel
 obtain ⟨ak,ck,rfl⟩:=C.has.form
 obtain ⟨av,cv,rfl⟩:=C.m.has.form
 cases b with
 | false=>
  have hI:oS=.ok (kids,L,q):=by
   have:=HI.out.2
   rwa [if_neg (by decide)] at this
  subst hI
  have ra2:=C.res
  have rn2:=C.row
  have qn2:∀ j,wr.cell? ⟨w.heap.size+1,j,none⟩=(#[.int .i64 4,.int .i64 6,.int .i64 (p:Int),.int .i64 0,.string ⟨#[]⟩,.string ⟨#[]⟩,.string ⟨#[]⟩,.slice ak kids.length ck,.slice none 0 0,.slice none 0 0,.bool false,.string ⟨#[]⟩]:Array Value)[j]?:=fun j=>cell_of_row wr _ j _ _ _ rn2
  have qa2:∀ j,wr.cell? ⟨w.heap.size,j,none⟩=(#[.int .i64 0,.int .i64 0,.int .i64 0,.int .i64 0,.string ⟨#[]⟩,.string ⟨#[]⟩,.string ⟨#[]⟩,.slice none 0 0,.slice none 0 0,.slice none 0 0,.bool false,.string ⟨#[]⟩]:Array Value)[j]?:=fun j=>cell_of_row wr _ j _ _ _ ra2
  have fa2:∀ j,wr.frozen? ⟨w.heap.size,j,none⟩=false:=fun j=>frozen_of_row wr _ j _ _ ra2
  have HC:=Lib.hid C
  have ra2:=Lib.hid ra2
  clear C HI rn2
  go_wp2
  try rw[Exit.noGoto_ret]
  obtain ⟨w12,hw12⟩:∃ w12,w12=((((((((((((wr.setCell ⟨w.heap.size,0,none⟩ (.int .i64 4)).setCell ⟨w.heap.size,1,none⟩ (.int .i64 6)).setCell ⟨w.heap.size,2,none⟩ (.int .i64 (p:Int))).setCell ⟨w.heap.size,3,none⟩ (.int .i64 0)).setCell ⟨w.heap.size,4,none⟩ (.string ⟨#[]⟩)).setCell ⟨w.heap.size,5,none⟩ (.string ⟨#[]⟩)).setCell ⟨w.heap.size,6,none⟩ (.string ⟨#[]⟩)).setCell ⟨w.heap.size,7,none⟩ (.slice ak kids.length ck)).setCell ⟨w.heap.size,8,none⟩ (.slice none 0 0)).setCell ⟨w.heap.size,9,none⟩ (.slice none 0 0)).setCell ⟨w.heap.size,10,none⟩ (.bool false)).setCell ⟨w.heap.size,11,none⟩ (.string ⟨#[]⟩)):=⟨_,rfl⟩
  have r12:w12.heap[w.heap.size]?=some (.cells #[.int .i64 4,.int .i64 6,.int .i64 (p:Int),.int .i64 0,.string ⟨#[]⟩,.string ⟨#[]⟩,.string ⟨#[]⟩,.slice ak kids.length ck,.slice none 0 0,.slice none 0 0,.bool false,.string ⟨#[]⟩] 27 (0,0)):=by rw[hw12];exact row12_set wr (hg:=ra2.out) ..
  have b12:Below w.heap.size wr w12:=by rw[hw12];exact row12_below wr _ _ (Nat.le_refl _) _ _ _ _ _ _ _ _ _ _ _ _
  have z12:w12.heap.size=wr.heap.size:=by rw[hw12,row12_size]
  have s12:∀ k,¬ k=w.heap.size→w12.heap[k]?=wr.heap[k]?:=fun k hk=>by rw[hw12];exact row12_other wr _ k hk ..
  rw[←hw12]
  clear hw12
  have hcz:∀ j,w12.cell? ⟨w.heap.size,j,none⟩=(#[.int .i64 4,.int .i64 6,.int .i64 (p:Int),.int .i64 0,.string ⟨#[]⟩,.string ⟨#[]⟩,.string ⟨#[]⟩,.slice ak kids.length ck,.slice none 0 0,.slice none 0 0,.bool false,.string ⟨#[]⟩]:Array Value)[j]?:=fun j=>cell_of_row w12 _ j _ _ _ r12
  refine bodyPost_ret (v:=.agg #[.int .i64 4,.int .i64 6,.int .i64 (p:Int),.int .i64 0,.string ⟨#[]⟩,.string ⟨#[]⟩,.string ⟨#[]⟩,.slice ak kids.length ck,.slice none 0 0,.slice none 0 0,.bool false,.string ⟨#[]⟩]) (by simp[results,Tryz.results53,go_sem,hcz]) rfl ?_
  exact HC.out.post hg s12 z12 ⟨b12.os,b12.tape,b12.output⟩
 | true=>
  obtain ⟨hlen,hif⟩:=HI.out
  rw[if_pos rfl] at hif
  obtain ⟨hq,hqw,hK⟩:=hif
  obtain ⟨gk,rfl⟩:∃ n,gk=n+1:=by
   cases gk with
   | zero=>exact hK.elim
   | succ n=>exact ⟨n,rfl⟩
  obtain ⟨ko,jA,mA,hAb,hko,hres⟩:∃ ko jA mA,Abv s q jA mA∧pairP s blk c (d+1) q ko∧(match ko with | .bad r e=>oS=.bad r e | .ok x=>if colF s x.2.2.2=c∧overB s x.2.2.2=false then ∃ r,KeyR s x.2.2.2 r∧if (r.isSome||markB s x.2.2.2 63)=true then MapK s blk c (d+1) oS gk x.2.2.2 x.2.2.1 (kids++[x.1.withTop (L++x.1.h.lead) mA,x.2.1]) else oS=.ok (kids++[x.1.withTop (L++x.1.h.lead) mA,x.2.1],x.2.2) else oS=.ok (kids++[x.1.withTop (L++x.1.h.lead) mA,x.2.1],x.2.2)):=by
   rcases hK with ⟨r,e,h1,h2⟩|⟨x,m,j,h1,h2,h3⟩
   ·obtain ⟨j,m,h3⟩:=Abv.ex s q
    exact ⟨_,j,m,h3,h1,h2⟩
   ·exact ⟨_,j,m,h2,h1,h3⟩
  have c2:=C.m.cells.cell
  have f2:=C.m.cells.free
  have CT:=trTake_is g s q (.slice av L.length cv) wr.drew C.m.cells
  have CA:=fun W=>rowsAbove_is mA q jA s (q:Int) W (by omega) (clampN_self _ _ (Nat.le_of_lt hq)) hAb
  have HC:=Lib.hid C
  have HRES:=Lib.hid hres
  clear C HI hK hres
  go_wp2_with fail
  go_cut [8,9] from 19 to 65 (fun v8 v9 wx=>v8=.slice av L.length cv∧v9=.int .i64 (mA:Int)∧wx=(wr.setCell ⟨g,2,none⟩ (.slice none 0 0)).drew)
  case first=>
   go_region_with (first|(go_at_call 18;refine CT.mono ?_;rintro e w3 ⟨rfl,rfl⟩)|(go_at_call 73;refine (CA _).mono ?_;rintro e w3 ⟨rfl,rfl⟩))
   all_goals
    go_wp2_with fail
    go_meet
    exact ⟨rfl,rfl,rfl⟩
  case rest=>
  obtain ⟨rfl,rfl,e3⟩:=hcut
  have s3:∀ k,¬ k=g→wc.heap[k]?=wr.heap[k]?:=fun k hk=>by rw[e3];exact heap_setCell_other wr _ _ _ hk
  have z3:wc.heap.size=wr.heap.size:=by rw[e3];simp[World.setCell]
  have T3:TrAt g s q (.slice none 0 0) wc:=by rw[e3];exact heap_setCell_same wr _ 2 _ _ _ HC.out.m.cells
  have k3:Keep (Lx g w.heap.size) w wc:=by rw[e3];exact (HC.out.m.keep.trans (tr_keep1 _ _ _) (fun _ hk=>hk)).lxB (Below.refl _ _).drew (by have:=HC.out.two;simp[World.setCell];omega)
  have h2r:=HC.out.two
  have z3a:wr.heap.size≤wc.heap.size:=Nat.le_of_eq z3.symm
  have z3b:wc.heap.size≤wr.heap.size:=Nat.le_of_eq z3
  clear e3 z3 CT CA c2 f2
  have B3:Below w0.heap.size w0 wc:=hB.trans (k3.below (fun j hj=>⟨by have:=hB.size;omega,by omega⟩))
  have CN:Calls Tryz.prog 85 #[.pointer (some ⟨g,0,none⟩),.int .i64 (c:Int),.int .i64 ((d:Int)+1)] wc fun e w'=>TrPost g wc ko (PairG g s wc) e w':=trEntry_is K w0 hEv g hg0 s hs hPs blk hblk hld c (d+1) q (.slice none 0 0) ko wc B3 ⟨_,_,_,rfl⟩ T3 hq hko
  go_wp2_with fail
  refine CN.mono ?_
  rintro e wA hpost
  clear CN
  cases ko with
  | bad r e=>
   obtain ⟨rfl,kA⟩:=hpost
   have hres:oS=.bad r e:=HRES.out
   subst hres
   exact ⟨rfl,rfl,k3.lx kA k3.size⟩
  | ok x=>
   obtain ⟨cs2,ds2,v2,R2,rfl,hNA,hNB,M2⟩:=hpost
   obtain ⟨x0,x1,x2,x3,x4,x5,x6,xa,xb,xc,xd,xe,xf,xg,xh,xi,x7,x8,rfl⟩:=hNA.cells12
   obtain ⟨y0,y1,y2,y3,y4,y5,y6,ya,yb,yc,yd,ye,yf,yg,yh,yi,y7,y8,rfl⟩:=hNB.cells12
   have kA:=M2.keep
   have zA:=kA.size
   have zxl:x.1.h.lead.length≤2*s.size:=pair_lead hld hq hko
   have hxf:=pairP_far hfb hko
   have hxw:=pair_nw hwn hko
   have fA:∀ j,j<wr.heap.size→¬ j=g→wA.heap[j]?=wr.heap[j]?:=fun j h1 h2=>(kA.block j ⟨by omega,h2⟩).trans (s3 j h2)
   have HNA:=Lib.hid hNA
   have HNB:=Lib.hid hNB
   have HM2:=Lib.hid M2
   have HK3:=Lib.hid k3
   have HKA:=Lib.hid kA
   have HXW:=Lib.hid hxw
   clear hNA hNB M2 kA k3 T3 B3 hxw
   go_upto_region 8 with fail
   obtain ⟨nb,hnb⟩:∃ nb,nb=wA.heap.size:=⟨_,rfl⟩
   obtain ⟨w5,hw5⟩:∃ w5,w5=(wA.alloc (.cells #[.int .i64 x0,.int .i64 x1,.int .i64 x2,.int .i64 x3,.string x4,.string x5,.string x6,.slice xa xb xc,.slice xd xe xf,.slice xg xh xi,.bool x7,.string x8] 27)).alloc (.cells #[.int .i64 y0,.int .i64 y1,.int .i64 y2,.int .i64 y3,.string y4,.string y5,.string y6,.slice ya yb yc,.slice yd ye yf,.slice yg yh yi,.bool y7,.string y8] 27):=⟨_,rfl⟩
   have z5:w5.heap.size=nb+2:=by rw[hw5,hnb];simp
   have rn5:w5.heap[nb]?=some (.cells #[.int .i64 x0,.int .i64 x1,.int .i64 x2,.int .i64 x3,.string x4,.string x5,.string x6,.slice xa xb xc,.slice xd xe xf,.slice xg xh xi,.bool x7,.string x8] 27 (0,0)):=by rw[hw5,hnb];exact (heap_alloc_old _ _ (by simp)).trans (heap_alloc_new wA _)
   have rm5:w5.heap[nb+1]?=some (.cells #[.int .i64 y0,.int .i64 y1,.int .i64 y2,.int .i64 y3,.string y4,.string y5,.string y6,.slice ya yb yc,.slice yd ye yf,.slice yg yh yi,.bool y7,.string y8] 27 (0,0)):=by
    rw[hw5,hnb]
    have:=heap_alloc_new (wA.alloc (.cells #[.int .i64 x0,.int .i64 x1,.int .i64 x2,.int .i64 x3,.string x4,.string x5,.string x6,.slice xa xb xc,.slice xd xe xf,.slice xg xh xi,.bool x7,.string x8] 27)) (.cells #[.int .i64 y0,.int .i64 y1,.int .i64 y2,.int .i64 y3,.string y4,.string y5,.string y6,.slice ya yb yc,.slice yd ye yf,.slice yg yh yi,.bool y7,.string y8] 27)
    simpa using this
   have b5:Below nb wA w5:=by rw[hw5,hnb];exact ((Below.refl _ _).alloc (Nat.le_refl _) _).alloc (by simp) _
   have znA:wA.heap.size≤nb:=Nat.le_of_eq hnb.symm
   have znB:nb≤wA.heap.size:=Nat.le_of_eq hnb
   have z5a:nb+2≤w5.heap.size:=Nat.le_of_eq z5.symm
   have z5b:w5.heap.size≤nb+2:=Nat.le_of_eq z5
   rw[←hw5,←hnb]
   clear hw5 hnb z5
   have f5:∀ j,j<wr.heap.size→¬ j=g→w5.heap[j]?=wr.heap[j]?:=fun j h1 h2=>(b5.block j (by omega)).trans (fA j h1 h2)
   have hvr:∀ j,(Value.slice av L.length cv).ownBlock=some j→w.heap.size+2≤j∧j<wr.heap.size:=fun j hj=>⟨HC.out.old j (.inr (.inr hj)),HC.out.m.has.own j hj⟩
   have V5:HasV 2 w5 (.slice av L.length cv) L.length (comV L):=HC.out.m.has.keep fun j hj hlt=>f5 j hlt (by have:=(hvr j hj).1;omega)
   have N5:IsN R2 w5 x.1 [.int .i64 x0,.int .i64 x1,.int .i64 x2,.int .i64 x3,.string x4,.string x5,.string x6,.slice xa xb xc,.slice xd xe xf,.slice xg xh xi,.bool x7,.string x8]:=IsN.frame (fun j hj=>⟨hj,b5.block j (by have:=(HM2.out.new j hj).2;omega)⟩) _ _ HNA.out
   have O5:IsN R2 w5 x.2.1 [.int .i64 y0,.int .i64 y1,.int .i64 y2,.int .i64 y3,.string y4,.string y5,.string y6,.slice ya yb yc,.slice yd ye yf,.slice yg yh yi,.bool y7,.string y8]:=IsN.frame (fun j hj=>⟨hj,b5.block j (by have:=(HM2.out.new j hj).2;omega)⟩) _ _ HNB.out
   obtain ⟨hxl,hcom⟩:xe=x.1.h.lead.length∧ComsR R2 w5 (.slice xd x.1.h.lead.length xf) x.1.h.lead:=by
    obtain ⟨kv,lv,fv,e,h1,_,_⟩:=N5.open
    unfold headC at e
    simp only[List.cons.injEq,and_true] at e
    have e8:=e.2.2.2.2.2.2.2.2.1
    obtain ⟨ao,cap,rfl,k1,k2,k3⟩:=h1
    injection e8 with q1 q2 q3
    refine ⟨q2,ao,cap,?_,k1,k2,k3⟩
    rw[q1,q3]
   subst hxl
   have hLn:L.length≤s.size:=HC.out.m.few
   have zL:L.length+x.1.h.lead.length≤1000000000:=by omega
   obtain ⟨lead,hlead⟩:∃ lead,L++x.1.h.lead=lead:=⟨_,rfl⟩
   have HLD:=Lib.hid hlead
   have HV5:=Lib.hid V5
   have HN5:=Lib.hid N5
   have HO5:=Lib.hid O5
   have HCM:=Lib.hid hcom
   have qn5:∀ j,w5.cell? ⟨nb,j,none⟩=(#[.int .i64 x0,.int .i64 x1,.int .i64 x2,.int .i64 x3,.string x4,.string x5,.string x6,.slice xa xb xc,.slice xd x.1.h.lead.length xf,.slice xg xh xi,.bool x7,.string x8]:Array Value)[j]?:=fun j=>cell_of_row w5 _ j _ _ _ rn5
   have qm5:∀ j,w5.cell? ⟨nb+1,j,none⟩=(#[.int .i64 y0,.int .i64 y1,.int .i64 y2,.int .i64 y3,.string y4,.string y5,.string y6,.slice ya yb yc,.slice yd ye yf,.slice yg yh yi,.bool y7,.string y8]:Array Value)[j]?:=fun j=>cell_of_row w5 _ j _ _ _ rm5
   have HRN5:=Lib.hid rn5
   have HRM5:=Lib.hid rm5
   clear hlead V5 N5 O5 hcom rn5 rm5 HNA HNB
   go_upto_region 9 with (at_builtin;refine appendH rfl _ _ rfl R2 (.slice av L.length cv) (.slice xd x.1.h.lead.length xf) L x.1.h.lead rfl rfl HV5.out HCM.out zL ?_;intro v6 w6 o6 g6 n6;rw[HLD.out] at o6;obtain ⟨v6a,v6c,rfl⟩:=o6.form;have rn6:=(g6.block nb (by omega) (fun e=>by have:=hvr _ e.symm;omega)).trans HRN5.out;have qn6:∀ j,w6.cell? ⟨nb,j,none⟩=(#[.int .i64 x0,.int .i64 x1,.int .i64 x2,.int .i64 x3,.string x4,.string x5,.string x6,.slice xa xb xc,.slice xd x.1.h.lead.length xf,.slice xg xh xi,.bool x7,.string x8]:Array Value)[j]?:=fun j=>cell_of_row w6 _ j _ _ _ rn6;have fn6:∀ j,w6.frozen? ⟨nb,j,none⟩=false:=fun j=>frozen_of_row w6 _ j _ _ rn6;have rm6:=(g6.block (nb+1) (by omega) (fun e=>by have:=hvr _ e.symm;omega)).trans HRM5.out;have HRM6:=Lib.hid rm6;have HO6:=Lib.hid o6;have HRN6:=Lib.hid rn6;clear o6 rn6 rm6)
   go_upto_region 10 with fail
   obtain ⟨w8,hw8⟩:∃ w8,w8=(w6.setCell ⟨nb,8,none⟩ (.slice v6a lead.length v6c)).setCell ⟨nb,3,none⟩ (.int .i64 (mA:Int)):=⟨_,rfl⟩
   have rn8:w8.heap[nb]?=some (.cells #[.int .i64 x0,.int .i64 x1,.int .i64 x2,.int .i64 (mA:Int),.string x4,.string x5,.string x6,.slice xa xb xc,.slice v6a lead.length v6c,.slice xg xh xi,.bool x7,.string x8] 27 (0,0)):=by rw[hw8];exact heap_setCell_same _ _ 3 _ _ _ (heap_setCell_same _ _ 8 _ _ _ HRN6.out)
   have rm8:w8.heap[nb+1]?=some (.cells #[.int .i64 y0,.int .i64 y1,.int .i64 y2,.int .i64 y3,.string y4,.string y5,.string y6,.slice ya yb yc,.slice yd ye yf,.slice yg yh yi,.bool y7,.string y8] 27 (0,0)):=by rw[hw8];exact (heap_setCell_other _ _ _ _ (by simp)).trans ((heap_setCell_other _ _ _ _ (by simp)).trans HRM6.out)
   have s8:∀ j,¬ j=nb→w8.heap[j]?=w6.heap[j]?:=fun j hj=>by rw[hw8];exact (heap_setCell_other _ _ _ _ hj).trans (heap_setCell_other _ _ _ _ hj)
   have z8:w8.heap.size=w6.heap.size:=by rw[hw8];simp[World.setCell]
   have o8:w8.os=w6.os∧w8.tape=w6.tape∧w8.output=w6.output:=by rw[hw8];exact ⟨rfl,rfl,rfl⟩
   have z6:=g6.size
   have z8a:w6.heap.size≤w8.heap.size:=Nat.le_of_eq z8.symm
   have z8b:w8.heap.size≤w6.heap.size:=Nat.le_of_eq z8
   rw[←hw8]
   clear hw8 z8 qn6 fn6 qn5 qm5 HRN6 HRN5 HRM6 HRM5
   have f8:∀ j,j<wr.heap.size→¬ j=g→(Value.slice av L.length cv).ownBlock≠some j→w8.heap[j]?=wr.heap[j]?:=fun j h1 h2 h3=>(s8 j (by omega)).trans ((g6.block j (by omega) (fun e=>h3 e.symm)).trans (f5 j h1 h2))
   have hkr:∀ j,(Value.slice ak kids.length ck).ownBlock=some j→w.heap.size+2≤j∧j<wr.heap.size∧(Value.slice av L.length cv).ownBlock≠some j:=fun j hj=>⟨HC.out.old j (.inr (.inl hj)),HC.out.has.own j hj,fun e=>(HC.out.m.own j e).2 (.inr hj)⟩
   have rN8:=(f8 (w.heap.size+1) (by omega) (by omega) (fun e=>by have:=hvr _ e;omega)).trans HC.out.row
   have K8:HasV 12 w8 (.slice ak kids.length ck) kids.length cs:=HC.out.has.keep fun j hj hlt=>f8 j hlt (by have:=(hkr j hj).1;omega) (hkr j hj).2.2
   have hv6:∀ j,(Value.slice v6a lead.length v6c).ownBlock=some j→w.heap.size+2≤j∧j<w6.heap.size∧j≠nb:=fun j hj=>by
    have h0:=HO6.out.own j hj
    rcases n6 with e|e
    ·rw[e] at hj
     have:=hvr j hj
     omega
    ·rw[e] at hj
     injection hj with hj
     omega
   have N8:IsN (fun j=>R2 j∨(Value.slice v6a lead.length v6c).ownBlock=some j) w8 (x.1.withTop lead mA) [.int .i64 x0,.int .i64 x1,.int .i64 x2,.int .i64 (mA:Int),.string x4,.string x5,.string x6,.slice xa xb xc,.slice v6a lead.length v6c,.slice xg xh xi,.bool x7,.string x8]:=by
    exact IsN.top12 HN5.out (fun j hj=>(s8 j (by have:=HM2.out.new j hj;omega)).trans (g6.block j (by have:=HM2.out.new j hj;omega) (fun e=>by have:=hvr j e.symm;have:=HM2.out.new j hj;omega))) (HO6.out.keep fun j hj _=>s8 j (hv6 j hj).2.2)
   have HN8:=Lib.hid N8
   have O8:IsN (fun j=>R2 j∨(Value.slice v6a lead.length v6c).ownBlock=some j) w8 x.2.1 [.int .i64 y0,.int .i64 y1,.int .i64 y2,.int .i64 y3,.string y4,.string y5,.string y6,.slice ya yb yc,.slice yd ye yf,.slice yg yh yi,.bool y7,.string y8]:=by
    exact IsN.frame (fun j hj=>⟨.inl hj,(s8 j (by have:=HM2.out.new j hj;omega)).trans (g6.block j (by have:=HM2.out.new j hj;omega) (fun e=>by have:=hvr j e.symm;have:=HM2.out.new j hj;omega))⟩) _ _ HO5.out
   have HP8:=Lib.hid (IsKL.two N8 O8)
   have qn8:∀ j,w8.cell? ⟨nb,j,none⟩=(#[.int .i64 x0,.int .i64 x1,.int .i64 x2,.int .i64 (mA:Int),.string x4,.string x5,.string x6,.slice xa xb xc,.slice v6a lead.length v6c,.slice xg xh xi,.bool x7,.string x8]:Array Value)[j]?:=fun j=>cell_of_row w8 _ j _ _ _ rn8
   have qm8:∀ j,w8.cell? ⟨nb+1,j,none⟩=(#[.int .i64 y0,.int .i64 y1,.int .i64 y2,.int .i64 y3,.string y4,.string y5,.string y6,.slice ya yb yc,.slice yd ye yf,.slice yg yh yi,.bool y7,.string y8]:Array Value)[j]?:=fun j=>cell_of_row w8 _ j _ _ _ rm8
   have qN8:∀ j,w8.cell? ⟨w.heap.size+1,j,none⟩=(#[.int .i64 4,.int .i64 6,.int .i64 (p:Int),.int .i64 0,.string ⟨#[]⟩,.string ⟨#[]⟩,.string ⟨#[]⟩,.slice ak kids.length ck,.slice none 0 0,.slice none 0 0,.bool false,.string ⟨#[]⟩]:Array Value)[j]?:=fun j=>cell_of_row w8 _ j _ _ _ rN8
   have HVK:=Lib.hid (K8.below ((Below.refl w8.heap.size w8).alloc (Nat.le_refl _) (.cells #[.int .i64 x0,.int .i64 x1,.int .i64 x2,.int .i64 (mA:Int),.string x4,.string x5,.string x6,.slice xa xb xc,.slice v6a lead.length v6c,.slice xg xh xi,.bool x7,.string x8,.int .i64 y0,.int .i64 y1,.int .i64 y2,.int .i64 y3,.string y4,.string y5,.string y6,.slice ya yb yc,.slice yd ye yf,.slice yg yh yi,.bool y7,.string y8] 27)) (Nat.le_refl _))
   have HRB:=Lib.hid (heap_alloc_new w8 (.cells #[.int .i64 x0,.int .i64 x1,.int .i64 x2,.int .i64 (mA:Int),.string x4,.string x5,.string x6,.slice xa xb xc,.slice v6a lead.length v6c,.slice xg xh xi,.bool x7,.string x8,.int .i64 y0,.int .i64 y1,.int .i64 y2,.int .i64 y3,.string y4,.string y5,.string y6,.slice ya yb yc,.slice yd ye yf,.slice yg yh yi,.bool y7,.string y8] 27))
   have HRN8:=Lib.hid rN8
   clear N8 O8 rn8 rm8 rN8 K8
   go_upto_region 5 with (at_builtin;refine appendK rfl _ _ rfl (.slice ak kids.length ck) kids.length cs w8.heap.size 2 2 #[.int .i64 x0,.int .i64 x1,.int .i64 x2,.int .i64 (mA:Int),.string x4,.string x5,.string x6,.slice xa xb xc,.slice v6a lead.length v6c,.slice xg xh xi,.bool x7,.string x8,.int .i64 y0,.int .i64 y1,.int .i64 y2,.int .i64 y3,.string y4,.string y5,.string y6,.slice ya yb yc,.slice yd ye yf,.slice yg yh yi,.bool y7,.string y8] rfl rfl HVK.out HRB.out (Nat.le_refl 24) (fun u hu=>IsKL.ones _ _ HP8.out u hu) (by omega) ?_;intro kv7 w9 hv7 g7 n7;obtain ⟨a7,c7,rfl⟩:=hv7.form;have rN9:=(g7.block (w.heap.size+1) (by simp;omega) (fun e=>by have:=hkr _ e.symm;omega)).trans ((heap_alloc_old w8 _ (by omega)).trans HRN8.out);have qN9:∀ j,w9.cell? ⟨w.heap.size+1,j,none⟩=(#[.int .i64 4,.int .i64 6,.int .i64 (p:Int),.int .i64 0,.string ⟨#[]⟩,.string ⟨#[]⟩,.string ⟨#[]⟩,.slice ak kids.length ck,.slice none 0 0,.slice none 0 0,.bool false,.string ⟨#[]⟩]:Array Value)[j]?:=fun j=>cell_of_row w9 _ j _ _ _ rN9;have fN9:∀ j,w9.frozen? ⟨w.heap.size+1,j,none⟩=false:=fun j=>frozen_of_row w9 _ j _ _ rN9;have HV7:=Lib.hid hv7;have HRN9:=Lib.hid rN9;clear hv7 rN9)
   obtain ⟨w10,hw10⟩:∃ w10,w10=w9.setCell ⟨w.heap.size+1,7,none⟩ (.slice a7 (kids.length+2) c7):=⟨_,rfl⟩
   have rN10:w10.heap[w.heap.size+1]?=some (.cells #[.int .i64 4,.int .i64 6,.int .i64 (p:Int),.int .i64 0,.string ⟨#[]⟩,.string ⟨#[]⟩,.string ⟨#[]⟩,.slice a7 (kids.length+2) c7,.slice none 0 0,.slice none 0 0,.bool false,.string ⟨#[]⟩] 27 (0,0)):=by rw[hw10];exact heap_setCell_same _ _ 7 _ _ _ HRN9.out
   have s10:∀ j,¬ j=w.heap.size+1→w10.heap[j]?=w9.heap[j]?:=fun j hj=>by rw[hw10];exact heap_setCell_other _ _ _ _ hj
   have z10:w10.heap.size=w9.heap.size:=by rw[hw10];simp[World.setCell]
   have o10:w10.os=w9.os∧w10.tape=w9.tape∧w10.output=w9.output:=by rw[hw10];exact ⟨rfl,rfl,rfl⟩
   have z9:=g7.size
   have zb:(w8.alloc (.cells #[.int .i64 x0,.int .i64 x1,.int .i64 x2,.int .i64 (mA:Int),.string x4,.string x5,.string x6,.slice xa xb xc,.slice v6a lead.length v6c,.slice xg xh xi,.bool x7,.string x8,.int .i64 y0,.int .i64 y1,.int .i64 y2,.int .i64 y3,.string y4,.string y5,.string y6,.slice ya yb yc,.slice yd ye yf,.slice yg yh yi,.bool y7,.string y8] 27)).heap.size=w8.heap.size+1:=by simp
   rw[zb] at z9 n7
   rw[←hw10]
   clear hw10 qN9 fN9 qn8 qm8 qN8
   have fr:∀ j,j<w8.heap.size→¬ j=w.heap.size+1→(Value.slice ak kids.length ck).ownBlock≠some j→w10.heap[j]?=w8.heap[j]?:=fun j h1 h2 h3=>(s10 j h2).trans ((g7.block j (by rw[zb];omega) (fun e=>h3 e.symm)).trans (heap_alloc_old w8 _ h1))
   have fr2:∀ j,j<nb→¬ j=w.heap.size+1→(Value.slice ak kids.length ck).ownBlock≠some j→(Value.slice av L.length cv).ownBlock≠some j→w10.heap[j]?=wA.heap[j]?:=fun j h1 h2 h3 h4=>(fr j (by omega) h2 h3).trans ((s8 j (by omega)).trans ((g6.block j (by omega) (fun e=>h4 e.symm)).trans (b5.block j h1)))
   have hRr:∀ j,R j→w.heap.size+2≤j∧j<wr.heap.size:=fun j hj=>⟨HC.out.old j (.inl hj),(HC.out.m.new j (.inl hj)).2⟩
   have hR2r:∀ j,R2 j→wc.heap.size≤j∧j<wA.heap.size:=fun j hj=>HM2.out.new j hj
   have hv2r:∀ j,v2.ownBlock=some j→wc.heap.size≤j∧¬ R2 j∧j<wA.heap.size:=fun j hj=>⟨(HM2.out.own j hj).1,(HM2.out.own j hj).2,HM2.out.has.own j hj⟩
   have hv6c:∀ j,(Value.slice v6a lead.length v6c).ownBlock=some j→(Value.slice av L.length cv).ownBlock=some j∨nb<j:=fun j hj=>by
    rcases n6 with e|e
    ·rw[e] at hj;exact .inl hj
    ·rw[e] at hj;injection hj with hj;exact .inr (by omega)
   have hk7:∀ j,(Value.slice a7 (kids.length+2) c7).ownBlock=some j→(Value.slice ak kids.length ck).ownBlock=some j∨w8.heap.size<j:=fun j hj=>by
    rcases n7 with e|e
    ·rw[e] at hj;exact .inl hj
    ·rw[e] at hj;injection hj with hj;exact .inr (by omega)
   have hle:x.2.2.2≤s.size:=HM2.out.le
   have T10:TrAt g s x.2.2.2 v2 w10:=(fr2 g (by omega) (by omega) (fun e=>by have:=(hkr _ e).1;omega) (fun e=>by have:=(hvr _ e).1;omega)).trans HM2.out.cells
   have kA10:Keep (fun j=>j<w.heap.size) wA w10:=⟨o10.1.trans (g7.os.trans (o8.1.trans (g6.os.trans b5.os))),o10.2.1.trans (g7.tape.trans (o8.2.1.trans (g6.tape.trans b5.tape))),o10.2.2.trans (g7.output.trans (o8.2.2.trans (g6.output.trans b5.output))),by omega,fun j hj=>fr2 j (by omega) (by omega) (fun e=>by have:=(hkr _ e).1;omega) (fun e=>by have:=(hvr _ e).1;omega)⟩
   have C10:BlM g s 4 p w w10 x.2.2.2 v2 x.2.2.1 (kids++[x.1.withTop lead mA,x.2.1]) (.slice a7 (kids.length+2) c7) (cs++([.int .i64 x0,.int .i64 x1,.int .i64 x2,.int .i64 (mA:Int),.string x4,.string x5,.string x6,.slice xa xb xc,.slice v6a lead.length v6c,.slice xg xh xi,.bool x7,.string x8]++[.int .i64 y0,.int .i64 y1,.int .i64 y2,.int .i64 y3,.string y4,.string y5,.string y6,.slice ya yb yc,.slice yd ye yf,.slice yg yh yi,.bool y7,.string y8])) (fun j=>R j∨R2 j∨(Value.slice v6a lead.length v6c).ownBlock=some j):=by
    refine ⟨rN10,?_,⟨T10,?_,?_,?_,?_,hle,HM2.out.few⟩,?_,?_,?_,?_⟩
    ·exact (fr2 _ (by omega) (by omega) (fun e=>by have:=(hkr _ e).1;omega) (fun e=>by have:=(hvr _ e).1;omega)).trans ((fA _ (by omega) (by omega)).trans HC.out.res)
    ·exact HM2.out.has.keep fun j hj hlt=>fr2 j (by omega) (by have:=(hv2r j hj).1;omega) (fun e=>by have:=(hkr _ e).2.1;have:=(hv2r j hj).1;omega) (fun e=>by have:=(hvr _ e).2;have:=(hv2r j hj).1;omega)
    ·intro j hj
     have h1:=hv2r j hj
     refine ⟨by omega,fun h=>?_⟩
     rcases h with (h|h|h)|h
     ·have:=hRr j h;omega
     ·exact h1.2.1 h
     ·rcases hv6c j h with h|h
      ·have:=hvr j h;omega
      ·omega
     ·rcases hk7 j h with h|h
      ·have:=hkr j h;omega
      ·omega
    ·intro j hj
     rcases hj with (h|h|h)|h
     ·have:=hRr j h;omega
     ·have:=hR2r j h;omega
     ·have:=hv6 j h;omega
     ·have:=HV7.out.own j h
      rcases hk7 j h with h|h
      ·have:=hkr j h;omega
      ·omega
    ·exact (HK3.out.lx HKA.out HK3.out.size).trans kA10 (fun _ hk=>hk.1)
    ·rw[List.length_append]
     exact HV7.out.keep fun j hj _=>s10 j (by
      rcases hk7 j hj with h|h
      ·have:=hkr j h;omega
      ·omega)
    ·refine IsKL.append _ _ _ _ (IsKL.frame (fun j hj=>⟨.inl hj,?_⟩) _ _ HC.out.nodes) (IsKL.frame (fun j hj=>⟨.inr hj,?_⟩) _ _ HP8.out)
     ·have h1:=hRr j hj
      exact (fr2 j (by omega) (by omega) (HC.out.apart j hj) (fun e=>(HC.out.m.own j e).2 (.inl hj))).trans (fA j h1.2 (by omega))
     ·rcases hj with h|h
      ·have h1:=hR2r j h
       exact fr j (by omega) (by omega) (fun e=>by have:=hkr j e;omega)
      ·have h1:=hv6 j h
       refine fr j (by omega) (by omega) (fun e=>?_)
       rcases hv6c j h with h2|h2
       ·exact (hkr j e).2.2 h2
       ·have:=hkr j e;omega
    ·intro j hj
     rcases hj with (h|h|h)|h|h
     ·exact (hRr j h).1
     ·have:=hR2r j h;omega
     ·exact (hv6 j h).1
     ·rcases hk7 j h with h|h
      ·exact (hkr j h).1
      ·omega
     ·have:=hv2r j h;omega
    ·intro j hj h
     rcases hk7 j h with h|h
     ·rcases hj with h1|h1|h1
      ·exact HC.out.apart j h1 h
      ·have:=hR2r j h1;have:=hkr j h;omega
      ·rcases hv6c j h1 with h2|h2
       ·exact (hkr j h).2.2 h2
       ·have:=hkr j h;omega
     ·rcases hj with h1|h1|h1
      ·have:=hRr j h1;omega
      ·have:=hR2r j h1;omega
      ·have:=hv6 j h1;omega
   have hres:if colF s x.2.2.2=c∧overB s x.2.2.2=false then ∃ r,KeyR s x.2.2.2 r∧if (r.isSome||markB s x.2.2.2 63)=true then MapK s blk c (d+1) oS gk x.2.2.2 x.2.2.1 (kids++[x.1.withTop lead mA,x.2.1]) else oS=.ok (kids++[x.1.withTop lead mA,x.2.1],x.2.2) else oS=.ok (kids++[x.1.withTop lead mA,x.2.1],x.2.2):=by
    have:=HRES.out
    rwa [HLD.out] at this
   have HR:=Lib.hid hres
   have hl2:(kids++[x.1.withTop lead mA,x.2.1]).length≤2*x.2.2.2:=by rw[List.length_append];show kids.length+2≤_;omega
   have HC10:=Lib.hid C10
   have CC:=trCol_is g s x.2.2.2 v2 w10 T10 hs hle
   clear C10 T10 kA10 fr fr2 hRr hR2r hv2r hv6c hk7 rN10 s10 z10 o10 g7 n7 HV7 HRN9 HN8 HP8 HVK HRB HRN8 g6 n6 HO6 HM2 HKA HK3 f8 f5 fA s8 o8 hres HRES HC HLD
   go_wp2_with fail
   refine CC.mono ?_
   rintro e w11 ⟨rfl,j11,e11⟩
   have b11:Below w10.heap.size w10 w11:=by rw[e11];exact Go.below_drewN (Below.refl _ _) _
   clear e11 CC
   have C11:=HC10.out.below b11
   by_cases hcl:colF s x.2.2.2=c
   ·have hci:((colF s x.2.2.2:Int)==(c:Int))=true:=by rw[beq_iff_eq];omega
    obtain ⟨ov,hov⟩:∃ ov,overB s x.2.2.2=ov:=⟨_,rfl⟩
    have CO:=trOver_is g s x.2.2.2 v2 w11 ov C11.m.cells hs hle hov
    have HC11:=Lib.hid C11
    clear C11
    go_wp2_with fail
    refine CO.mono ?_
    rintro e w12 ⟨rfl,j12,e12⟩
    have b12:Below w11.heap.size w11 w12:=by rw[e12];exact Go.below_drewN (Below.refl _ _) _
    clear e12 CO
    have C12:=HC11.out.below b12
    cases ov with
    | true=>
     have I12:MapI s blk c (d+1) oS gk x.2.2.2 x.2.2.1 (kids++[x.1.withTop lead mA,x.2.1]) false:=by
      refine ⟨hl2,?_⟩
      have hr:=HR.out
      rw[if_neg (fun h=>by rw[hov] at h;cases h.2)] at hr
      rw[if_neg (by decide)]
      exact hr
     have HC12:=Lib.hid C12
     have HI12:=Lib.hid I12
     clear C12 I12 hov
     go_wp2
     go_roundg gk
     case rel=>exact ⟨x.2.2.2,v2,x.2.2.1,_,_,_,_,false,rfl,HC12.out,HI12⟩
     case measure=>omega
    | false=>
     have hrr:=HR.out
     rw[if_pos ⟨hcl,hov⟩] at hrr
     obtain ⟨r,hkr2,hrr⟩:=hrr
     have hlt:=over_lt hov
     obtain ⟨mk,hmk⟩:∃ mk,(r.isSome||markB s x.2.2.2 63)=mk:=⟨_,rfl⟩
     have B12:Below w0.heap.size w0 w12:=hB.trans (C12.m.keep.below (fun j hj=>⟨by have:=hB.size;omega,by omega⟩))
     have CM:=trKeyed_is K g s x.2.2.2 v2 w12 r mk C12.m.cells hs hPs (K.below _ _ hEv B12) (HXW.out hlt) hkr2 hmk
     have HRR:=Lib.hid hrr
     have HC12:=Lib.hid C12
     have HMK:=Lib.hid hmk
     clear C12 hrr hmk hkr2 B12
     go_wp2_with fail
     refine CM.mono ?_
     rintro e w13 ⟨rfl,b13⟩
     clear CM
     have C13:=HC12.out.below b13
     have I13:MapI s blk c (d+1) oS gk x.2.2.2 x.2.2.1 (kids++[x.1.withTop lead mA,x.2.1]) mk:=by
      refine ⟨hl2,?_⟩
      have hr:=HRR.out
      rw[HMK.out] at hr
      cases mk with
      | true=>
       rw[if_pos rfl] at hr ⊢
       exact ⟨hlt,HXW.out hlt,hr⟩
      | false=>
       rw[if_neg (by decide)] at hr ⊢
       exact hr
     have HC13:=Lib.hid C13
     have HI13:=Lib.hid I13
     clear C13 I13 b13 hov
     go_wp2
     go_roundg gk
     case rel=>exact ⟨x.2.2.2,v2,x.2.2.1,_,_,_,_,mk,rfl,HC13.out,HI13⟩
     case measure=>omega
   ·have hci:((colF s x.2.2.2:Int)==(c:Int))=false:=by rw[beq_eq_false_iff_ne];omega
    have I11:MapI s blk c (d+1) oS gk x.2.2.2 x.2.2.1 (kids++[x.1.withTop lead mA,x.2.1]) false:=by
     refine ⟨hl2,?_⟩
     have hr:=HR.out
     rw[if_neg (fun h=>hcl h.1)] at hr
     rw[if_neg (by decide)]
     exact hr
    have HC11:=Lib.hid C11
    have HI11:=Lib.hid I11
    clear C11 I11
    go_wp2
    go_roundg gk
    case rel=>exact ⟨x.2.2.2,v2,x.2.2.1,_,_,_,_,false,rfl,HC11.out,HI11⟩
    case measure=>omega
end Go.Proofs.YthcmkpiajkbpnaaGreatDoor
