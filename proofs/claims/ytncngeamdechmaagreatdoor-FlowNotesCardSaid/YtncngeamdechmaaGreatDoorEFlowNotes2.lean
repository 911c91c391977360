/- Parts of the proof of FlowNotes, put together from smaller texts (blanks that Lean does not want are struck). Conditions: those that each theorem writes out. -/
import Derived.BigQuiet
import Derived.Deep.DeepCutAuto
import Derived.Deep.DrawnRows
import Derived.Deep.LoopGhost
import Derived.Deep.RegionHeld3
import Derived.Deep.RegionWith
import Derived.Laws.Cover4
import Derived.Lib.CountLaws
import Derived.Lib.MapLaws
import Derived.Lib.Replace
import Derived.Shelf.LaysC
import Derived.Shelf.LaysM
import Derived.Shelf.Small.Strs
import Derived.Shelf.Small.Utf8
import Derived.Shelf.Strconv.Clone
import Derived.Shelf.Strconv.SyntaxError
import Derived.Shelf.Strconv.ToError
import Derived.Shelf.Strings.AsciiSet
import Derived.Shelf.Strings.Builder1
import Derived.Shelf.Strings.BuilderF
import Derived.Shelf.Strings.BuilderK
import Derived.Shelf.Strings.BuilderRune
import Derived.Shelf.Strings.LastIndex
import Derived.Shelf.Strings.Prefix
import Derived.Shelf.Strings.Runes
import Derived.Shelf.Strings.Search1
import Derived.Shelf.Strings.Search2
import Derived.Shelf.Strings.Search3
import Derived.Shelf.Strings.Shaped
import Derived.Shelf.Strings.Trim
import Derived.Shelf.Unicode.DecodeSlow
import Derived.Test.YtncngeamdechmaaGreatDoorEFlowNotes0
import Derived.Test.YtncngeamdechmaaGreatDoorEFlowNotes1
import Derived.Test.YtncngeamdechmaaGreatDoorProg
import Derived.Test.YtncngeamdechmaaGreatDoorZ00
import Derived.Test.YtncngeamdechmaaGreatDoorZ01
import Derived.Test.YtncngeamdechmaaGreatDoorZ02
import Derived.Test.YtncngeamdechmaaGreatDoorZ05
import Derived.Test.YtncngeamdechmaaGreatDoorZ08
import Derived.Test.YtncngeamdechmaaGreatDoorZ11
import Derived.Test.YtncngeamdechmaaGreatDoorZ15
namespace Go.Proofs.YtncngeamdechmaaGreatDoor
open Go.RowKit
attribute [local go_sem ↓] Go.wp_at_zero Go.wp_at_succ
set_option maxRecDepth 100000 in
set_option maxHeartbeats 1600000 in
theorem awake16_true {Ev:World→Prop} (K:FlowC Ev) (w:World) (hE:Ev w):Calls Tryz.prog 7 #[] w fun e w'=>e=.returned (.bool true)∧Below w.heap.size w w':=by
 obtain ⟨T,a,b,hF1,hTk,hTa,hTb⟩:∃ T a b,FlowZ awakeA 0 (-1) 0 (some T) 9 0∧T.kids=[a,b]∧a.h.text=[97]∧b.h.kind=4:=by
  obtain ⟨m,m2,h⟩:=awakeF1
  exact ⟨_,_,_,h,rfl,rfl,rfl⟩
 go_enter Tryz.func7,Tryz.ntmps7
 go_wp2_with fail
 refine (K.read _ _ _ awakeA _ _ _ _ (by decide) hE hF1).mono ?_
 rintro e w2 ⟨cx,rfl,-,nx,b2⟩
 have hEs:=K.keep _ _ hE b2
 obtain ⟨kv,lv,fv,rfl,⟨la,lc,rfl,-,-,-⟩,⟨fa,fc,rfl,-,-,-⟩,⟨ka,kc,rfl,n1,n2,n3⟩⟩:=(nx _ rfl).open
 unfold maxLen at n2
 rw[hTk] at n1 n3 ⊢
 obtain ⟨kb,ko,rfl,hkb,hk⟩:=n3 (by show 0<2;decide)
 have n1:2≤kc:=n1
 rw[show ([a,b]:List NT).length=2 from rfl]
 obtain ⟨p0,p1,p2,p3,p4,p5,p6,p7,p8,p9,p10,p11,hN1,f0,f1,f2,f3,f4,f5,f6,f7,f8,f9,f10,f11⟩:=kid_cells hk (j:=0) (by show 0<2;decide)
 obtain ⟨q0,q1,q2,q3,q4,q5,q6,q7,q8,q9,q10,q11,hN2,g0,g1,g2,g3,g4,g5,g6,g7,g8,g9,g10,g11⟩:=kid_cells hk (j:=1) (by show 1<2;decide)
 have e6:p6=.string ⟨#[97]⟩:=by
  obtain ⟨a',b',c',e,_⟩:=hN1.open
  unfold headC at e
  simp only[List.cons.injEq] at e
  rw[e.2.2.2.2.2.2.1]
  show Value.string ⟨a.h.text.toArray⟩=_
  rw[hTa]
 have e0:q0=.int .i64 4:=by
  obtain ⟨a',b',c',e,_⟩:=hN2.open
  unfold headC at e
  simp only[List.cons.injEq] at e
  rw[e.1]
  show Value.int .i64 b.h.kind=_
  rw[hTb]
 have t6:w2.cell? ⟨kb,ko+6,none⟩=some (.string ⟨#[97]⟩):=by rw[e6] at f6;simpa using f6
 have t0:w2.cell? ⟨kb,ko+12,none⟩=some (.int .i64 4):=by rw[e0] at g0;simpa using g0
 have HKB:kb<w2.heap.size:=hkb
 clear f0 f1 f2 f3 f4 f5 f6 f7 f8 f9 f10 f11 g0 g1 g2 g3 g4 g5 g6 g7 g8 g9 g10 g11 hN1 hN2 hk e6 e0 n3 hkb nx hTk hTa hTb hF1
 unfold headC
 generalize (⟨T.h.anchor.toArray⟩:ByteArray)=s1
 generalize (⟨T.h.tag.toArray⟩:ByteArray)=s2
 generalize (⟨T.h.text.toArray⟩:ByteArray)=s3
 generalize (⟨T.h.trail.toArray⟩:ByteArray)=s4
 go_wp2_with fail
 obtain ⟨WX,hWX⟩:∃ WX:World,WX=w2.alloc (.cells #[.int .i64 T.h.kind,.int .i64 T.h.style,.int .i64 T.h.at',.int .i64 T.h.blank,.string s1,.string s2,.string s3,.slice (some ⟨kb,ko,none⟩) 2 kc,.slice la T.h.lead.length lc,.slice fa T.h.foot.length fc,.bool T.h.ht,.string s4] 30):=⟨_,rfl⟩
 have r7:WX.cell? ⟨w2.heap.size,7,none⟩=some (.slice (some ⟨kb,ko,none⟩) 2 kc):=by rw[hWX];exact World.cell?_alloc_mark ..
 have z1:WX.heap.size=w2.heap.size+1:=by rw[hWX];simp
 have z2:Below w2.heap.size w2 WX:=by rw[hWX];exact (Below.refl _ _).alloc (Nat.le_refl _) _
 rw[←hWX]
 clear hWX
 have t6':WX.cell? ⟨kb,ko+6,none⟩=some (.string ⟨#[97]⟩):=(z2.cell (p:=⟨kb,ko+6,none⟩) HKB).trans t6
 have t0':WX.cell? ⟨kb,ko+12,none⟩=some (.int .i64 4):=(z2.cell (p:=⟨kb,ko+12,none⟩) HKB).trans t0
 have hb3:=b2.trans (z2.mono b2.size)
 have hEt:=K.keep _ _ hE hb3
 refine (K.read _ _ _ awakeB _ _ _ _ (by decide) hEt awakeF2).mono ?_
 rintro e w3 ⟨cy,rfl,ly,-,b3⟩
 have r7':=(b3.cell (p:=⟨w2.heap.size,7,none⟩) (by show w2.heap.size<_;omega)).trans r7
 have t6'':=(b3.cell (p:=⟨kb,ko+6,none⟩) (by show kb<_;omega)).trans t6'
 have t0'':=(b3.cell (p:=⟨kb,ko+12,none⟩) (by show kb<_;omega)).trans t0'
 clear t6 t0 t6' t0' r7
 obtain ⟨i1,i2,i3,i4,u1,u2,u3,a1,m1,d1,a2,m2,d2,a3,m3,d3,bo,u4,rfl⟩:=ly
 have z3:w2.heap.size<w3.heap.size:=by have:=b3.size;omega
 have z4:kb<w3.heap.size:=by omega
 have hb4:=hb3.trans (b3.mono hb3.size)
 go_wp2
 go_ret
 exact ⟨rfl,hb4.alloc hb4.size _⟩
end Go.Proofs.YtncngeamdechmaaGreatDoor
namespace Go.Proofs.YtncngeamdechmaaGreatDoor
open Go.RowKit
def tkT:List UInt8:=[32,116]
def lkT:List UInt8:=[32,108]
def preK:List (List UInt8):=[[],[32,35,32,116,10],[],[],[10,35,32,108,10,32],[32,35,32,116,10,32,35,32,108,10]]
def postK:List (List UInt8):=[[32],[32],[32,35,32,116,10,32],[10,35,32,108,10,32],[32],[32]]
def preC:List (List (List UInt8) × Bool):=[([],false),([tkT],true),([],false),([],false),([lkT],false),([tkT,lkT],true)]
def postC:List (List (List UInt8) × Bool):=[([],false),([],false),([tkT],true),([lkT],false),([],false),([],false)]
def tK (k:Nat):Bool:=decide (k=1∨k=2∨k=5)
def lK (k:Nat):Bool:=decide (2<k)
theorem nk_facts:∀ k:Fin 6,∀ w∈wordL,plainF (w++(preK.getD k.val []++[44]))=some w.length∧betwF (-1) (preK.getD k.val []++[44]) false=some ((preC.getD k.val ([],false)).1,(preC.getD k.val ([],false)).2,(preK.getD k.val []).length) ∧
  (match (preK.getD k.val []++[44]).dropWhile wsp with | []=>false|y :: _=>decide (y≠58))=true:=by decide +kernel
theorem nk_post:∀ k:Fin 6,∀ u∈wordL++[[93]],betwF (-1) (postK.getD k.val []++u) false=some ((postC.getD k.val ([],false)).1,(postC.getD k.val ([],false)).2,(postK.getD k.val []).length):=by decide +kernel
theorem nk_first:∀ w∈wordL,w≠[]∧w.getD 0 0≠63∧w.getD 0 0≠58∧w.getD 0 0≠44∧w.getD 0 0≠93∧w.getD 0 0≠125∧w.getD (w.length-1) 0≠10∧wsp (w.getD (w.length-1) 0)=false:=by decide +kernel
def noteT:List (List UInt8 × Nat)→List UInt8
 | []=>[93]
 | (w,k) :: t=>w++(preK.getD k []++(44 :: (postK.getD k []++noteT t)))
def areN:List (List UInt8)→List NT→List (List UInt8 × Nat)→List (List UInt8)→Prop
 | l,[],[],f=>f=l
 | l,x :: xs,(_,k) :: t,f=>x.h.lead.map (·.1)=l∧x.h.ht=tK k∧(tK k=true→x.h.trail=tkT)∧areN (if lK k=true then [lkT] else []) xs t f
 | _,_,_,_=>False
theorem areN.len:∀ (l:List (List UInt8)) (xs:List NT) (t:List (List UInt8 × Nat)) (f:List (List UInt8)),areN l xs t f→xs.length=t.length
 | _,[],[],_,_=>rfl
 | l,x :: xs,(w,k) :: t,f,h=>by rw[List.length_cons,List.length_cons,areN.len _ xs t f h.2.2.2]
 | _,[],_ :: _,_,h=>h.elim
 | _,_ :: _,[],_,h=>h.elim
theorem areN.at:∀ (l:List (List UInt8)) (xs:List NT) (t:List (List UInt8 × Nat)) (f:List (List UInt8)) (j:Nat) (h1:j<xs.length) (h2:j<t.length),areN l xs t f →
  xs[j].h.ht=tK t[j].2∧(tK t[j].2=true→xs[j].h.trail=tkT)∧(if h3:j+1<xs.length then xs[j+1].h.lead.map (·.1) else f)=(if lK t[j].2=true then [lkT] else [])
 | _,[],_,_,j,h1,_,_=>absurd h1 (Nat.not_lt_zero _)
 | _,_ :: _,[],_,j,_,h2,_=>absurd h2 (Nat.not_lt_zero _)
 | l,x :: xs,(w,k) :: t,f,0,h1,h2,h=>by
  obtain ⟨_,q1,q2,q3⟩:=h
  refine ⟨q1,q2,?_⟩
  cases xs with
  | nil=>
   cases t with
   | nil=>rw[dif_neg (by simp)];exact q3
   | cons _ _=>exact q3.elim
  | cons x2 xs=>
   cases t with
   | nil=>exact q3.elim
   | cons y t=>
    obtain ⟨w2,k2⟩:=y
    rw[dif_pos (by simp)]
    exact q3.1
 | l,x :: xs,(w,k) :: t,f,j+1,h1,h2,h=>by
  have:=areN.at _ xs t f j (by simpa using h1) (by simpa using h2) h.2.2.2
  simpa using this
theorem areN.first:∀ (l:List (List UInt8)) (xs:List NT) (t:List (List UInt8 × Nat)) (f:List (List UInt8)) (h1:0<xs.length),areN l xs t f→xs[0].h.lead.map (·.1)=l
 | _,[],_,_,h1,_=>absurd h1 (Nat.not_lt_zero _)
 | _,_ :: _,[],_,_,h=>h.elim
 | _,_ :: _,(_,_) :: _,_,_,h=>h.1
theorem note_head (t:List (List UInt8 × Nat)) (h:∀ x∈t,x.1∈wordL):∃ u r,noteT t=u++r∧u∈wordL++[[93]]:=by
 cases t with
 | nil=>exact ⟨[93],[],rfl,by decide⟩
 | cons x t=>
  obtain ⟨w,k⟩:=x
  exact ⟨w,_,rfl,List.mem_append_left _ (h (w,k) (by simp))⟩
theorem note_trail {x:NT} {L1 L2:Coms} {sm r:Bool} {k:Nat} (hk:k<6) (hx:x.h.ht=false) (e1:L1.map (·.1)=(preC.getD k ([],false)).1) (e2:L2.map (·.1)=(postC.getD k ([],false)).1) (hr:k=2→r=true) (hsm:sm=if L1=[] then (postC.getD k ([],false)).2&&r else (preC.getD k ([],false)).2) :
  ∃ x' lead',trailed false [x] (L1++L2) sm=[x']∧left (L1++L2) sm=lead'∧x'.h.lead=x.h.lead∧x'.h.ht=tK k∧(tK k=true→x'.h.trail=tkT)∧lead'.map (·.1)=(if lK k=true then [lkT] else []):=by
 match k,hk with
 | 0,_=>
  have a1:L1=[]:=List.map_eq_nil_iff.1 e1
  have a2:L2=[]:=List.map_eq_nil_iff.1 e2
  subst a1 a2
  have:sm=false:=by rw[hsm];rfl
  subst this
  exact ⟨x,[],rfl,rfl,rfl,hx,(by intro h;cases h),rfl⟩
 | 1,_=>
  obtain ⟨a,L,rfl,g1,g2⟩:=List.map_eq_cons_iff.1 e1
  have a3:L=[]:=List.map_eq_nil_iff.1 g2
  have a2:L2=[]:=List.map_eq_nil_iff.1 e2
  subst a3 a2
  have:sm=true:=by rw[hsm];rfl
  subst this
  exact ⟨x.withTrail a.1,[],rfl,rfl,rfl,rfl,fun _=>g1,rfl⟩
 | 2,_=>
  have a1:L1=[]:=List.map_eq_nil_iff.1 e1
  obtain ⟨a,L,rfl,g1,g2⟩:=List.map_eq_cons_iff.1 e2
  have a3:L=[]:=List.map_eq_nil_iff.1 g2
  subst a1 a3
  have:sm=true:=by rw[hsm,hr rfl];rfl
  subst this
  exact ⟨x.withTrail a.1,[],rfl,rfl,rfl,rfl,fun _=>g1,rfl⟩
 | 3,_=>
  have a1:L1=[]:=List.map_eq_nil_iff.1 e1
  subst a1
  obtain ⟨a,L,rfl,g1,g2⟩:=List.map_eq_cons_iff.1 e2
  have:sm=false:=by rw[hsm];rfl
  subst this
  exact ⟨x,a :: L,rfl,rfl,rfl,hx,(by intro h;cases h),e2⟩
 | 4,_=>
  have a2:L2=[]:=List.map_eq_nil_iff.1 e2
  subst a2
  obtain ⟨a,L,rfl,g1,g2⟩:=List.map_eq_cons_iff.1 e1
  have:sm=false:=by rw[hsm];rfl
  subst this
  rw[List.append_nil]
  exact ⟨x,a :: L,rfl,rfl,rfl,hx,(by intro h;cases h),e1⟩
 | 5,_=>
  have a2:L2=[]:=List.map_eq_nil_iff.1 e2
  subst a2
  obtain ⟨a,L,rfl,g1,g2⟩:=List.map_eq_cons_iff.1 e1
  have:sm=true:=by rw[hsm];rfl
  subst this
  rw[List.append_nil]
  exact ⟨x.withTrail a.1,L,rfl,rfl,rfl,rfl,fun _=>g1,g2⟩
section
variable {s:ByteArray} {col:Nat→Nat→Rd (NT × Nat)→Prop}
theorem note_step {p k:Nat} {lead:Coms} {w u r:List UInt8} (hk:k<6) (hw:w∈wordL) (hu:u∈wordL++[[93]]) (h:Pre s p (w++(preK.getD k []++(44 :: (postK.getD k []++(u++r)))))) :
  ∃ x lead',stepR s (-1) col true 93 0 lead p (.ok ([x],lead',p+w.length+(preK.getD k []).length+1+(postK.getD k []).length))∧x.h.lead=lead∧x.h.ht=tK k∧(tK k=true→x.h.trail=tkT)∧lead'.map (·.1)=(if lK k=true then [lkT] else []):=by
 obtain ⟨f1,f2,f3⟩:=nk_facts ⟨k,hk⟩ w hw
 have f4:=nk_post ⟨k,hk⟩ u hu
 obtain ⟨w0,w1,w2,w3,w4,w5,w6,w7⟩:=nk_first w hw
 dsimp only at f1 f2 f3 f4
 have hl:=List.length_pos_iff.2 w0
 have h1:Pre s p (w++(preK.getD k []++[44])):=by
  rw[show w++(preK.getD k []++(44 :: (postK.getD k []++(u++r))))=(w++(preK.getD k []++[44]))++(postK.getD k []++(u++r)) by simp] at h
  exact h.app.1
 have h2:=h1.app.2
 have h3:Pre s (p+w.length+(preK.getD k []).length) (44 :: (postK.getD k []++(u++r))):=h.app.2.app.2
 obtain ⟨c1,c2,h4⟩:=h3.cons
 have h5:Pre s (p+w.length+(preK.getD k []).length+1) (postK.getD k []++u):=by
  rw[←List.append_assoc] at h4
  exact h4.app.1
 have hlast:=h1.app.1.byte (w.length-1) (by omega)
 rw[show p+(w.length-1)=p+w.length-1 by omega] at hlast
 have hsz:p+w.length≤s.size:=by omega
 obtain ⟨L1,e1,b1⟩:=betw_of (n:=-1) (p:=p+w.length) (by omega) h2 (by rw[hlast];intro e;exact w6 ((u8_eq (by decide)).1 e)) (by rw[hlast,wsp_white];exact w7) f2 hsz
 obtain ⟨L2,e2,b2⟩:=betw_of (n:=-1) (p:=p+w.length+(preK.getD k []).length+1) (by omega) h5 (by show byt s (p+w.length+(preK.getD k []).length)≠10;rw[c2];decide) (by show U.white (byt s (p+w.length+(preK.getD k []).length):Int)=false;rw[c2];decide) f4 c1
 obtain ⟨x0,t0,hx0,hx1⟩:∃ x t,Pre s p (x :: t)∧(x≠63∧x≠58):=by
  cases w with
  | nil=>exact absurd rfl w0
  | cons x t=>exact ⟨x,t,h1.app.1,w1,w2⟩
 have hf:=node_plain (n:=-1) (col:=col) (deep:=1) h1 f1
 rw[List.take_left] at hf
 cases hd:(preK.getD k []++[44]).dropWhile wsp with
 | nil=>rw[hd] at f3;cases f3
 | cons y t=>
  rw[hd] at f3
  have hy:y≠58:=of_decide_eq_true f3
  obtain ⟨m,hi⟩:=item_of (lead:=lead) (deep:=0) hx0 hx1 hf rfl hsz h2 hd hy b1 ((sign_of (near:=false) h3).1 (by decide))
  obtain ⟨sm,hsm,hs⟩:=step_comma (seq:=true) (closing:=93) hi h3 b2
  dsimp only at hsm hs
  have hr:k=2→sameRow s (p+w.length) (p+w.length+(preK.getD k []).length)=true:=by
   rintro rfl
   show sameRow s (p+w.length) (p+w.length+0)=true
   rw[Nat.add_zero,sameRow_self]
  obtain ⟨x',lead',z1,z2,z3,z4,z5,z6⟩:=note_trail (x:=(leafN 1 p w).withTop (lead++(leafN 1 p w).h.lead) m) hk rfl e1 e2 hr hsm
  rw[z1,z2] at hs
  exact ⟨x',lead',hs,z3.trans (List.append_nil _),z4,z5,z6⟩
theorem note_loop:∀ (t:List (List UInt8 × Nat)) (p:Nat) (lead:Coms) (kids:List NT),(∀ x∈t,x.1∈wordL∧x.2<6)→Pre s p (noteT t) →
  ∃ kids2 foot,LoopR s (-1) col true 93 0 (.ok (kids++kids2,foot,p+(noteT t).length)) p lead kids∧areN (lead.map (·.1)) kids2 t (foot.map (·.1))
 | [],p,lead,kids,hw,h=>by
  have h:Pre s p (93 :: []):=h
  exact ⟨[],lead,by rw[List.append_nil];exact .done (by rw[isB_of (c:=93) h];decide) rfl,rfl⟩
 | (w,k) :: t,p,lead,kids,hw,h=>by
  obtain ⟨hwm,hk⟩:=hw (w,k) (by simp)
  have htm:∀ x∈t,x.1∈wordL∧x.2<6:=fun x hx=>hw x (by simp[hx])
  obtain ⟨u,r,hr,hu⟩:=note_head t (fun x hx=>(htm x hx).1)
  unfold noteT at h ⊢
  obtain ⟨w0,w1,w2,w3,w4,w5,w6,w7⟩:=nk_first w hwm
  obtain ⟨x0,t0,hx0,hx1⟩:∃ x t,Pre s p (x :: t)∧(x≠44∧x≠93∧x≠125):=by
   cases w with
   | nil=>exact absurd rfl w0
   | cons x t=>exact ⟨x,t,h.app.1,w3,w4,w5⟩
  have hcl:isB s p 93=false:=by rw[isB_of (c:=93) hx0];exact decide_eq_false (fun e=>hx1.2.1 ((u8_eq (by decide)).1 e))
  have hlk:lacksB s p=false:=by rw[lacks_of hx0];exact decide_eq_false (by rintro (e|e|e);exact hx1.1 e;exact hx1.2.1 e;exact hx1.2.2 e)
  obtain ⟨x,lead',hs,q1,q2,q3,q4⟩:=note_step (col:=col) (lead:=lead) (r:=r) hk hwm hu (by rw[←hr];exact h)
  have h5:Pre s (p+w.length+(preK.getD k []).length+1+(postK.getD k []).length) (noteT t):=h.app.2.app.2.cons.2.2.app.2
  obtain ⟨k2,foot,hl,ha⟩:=note_loop t _ lead' (kids++[x]) htm h5
  refine ⟨x :: k2,foot,.go hcl hx0.cons.1 hlk hs ?_,⟨by rw[q1],q2,q3,by rw[←q4];exact ha⟩⟩
  have hL:p+(w++(preK.getD k []++(44 :: (postK.getD k []++noteT t)))).length=p+w.length+(preK.getD k []).length+1+(postK.getD k []).length+(noteT t).length:=by
   rw[List.length_append,List.length_append,List.length_cons,List.length_append]
   omega
  rw[show kids++x :: k2=(kids++[x])++k2 by simp,hL]
  exact hl
end
theorem note_text (t:List (List UInt8 × Nat)) (ht:t≠[]) (hw:∀ x∈t,x.1∈wordL∧x.2<6):∃ x,FlowZ (mkB (91 :: noteT t)) 0 (-1) 0 (some x) ((mkB (91 :: noteT t)).size:Int) 0∧areN [] x.kids t (x.h.foot.map (·.1)):=by
 have h:Pre (mkB (91 :: noteT t)) 0 (91 :: noteT t):=List.prefix_refl _
 obtain ⟨h1,h2,h3⟩:=h.cons
 have hb:betwR (mkB (91 :: noteT t)) (-1) 1 (.ok ([],false,1)):=by
  cases t with
  | nil=>exact absurd rfl ht
  | cons x t=>
   obtain ⟨w,k⟩:=x
   have hwm:=(hw (w,k) (by simp)).1
   have hf:∀ w∈wordL,betwF (-1) w false=some ([],false,0):=by decide +kernel
   exact betw_at (n:=-1) 1 w 0 (by omega) (Pre.app (a:=w) h3).1 (by show byt _ 0≠10;rw[h2];decide) (by show U.white (byt _ 0:Int)=false;rw[h2];decide) (hf w hwm) h1
 obtain ⟨k2,foot,hl,ha⟩:=note_loop (s:=mkB (91 :: noteT t)) (col:=collR (mkB (91 :: noteT t)) (-1) 1) t 1 [] [] hw h3
 refine ⟨NT.mk ⟨if (91:UInt8)=91 then 3 else 4,7,(0:Nat),0,[],[],[],[],foot,false,[]⟩ ([]++k2),?_,(show areN [] ([]++k2) t _ from ha)⟩
 unfold FlowZ
 rw[if_pos ⟨by decide,.inl (by rw[show (0:Int).toNat=0 from rfl,isB_of (c:=91) h];rfl)⟩]
 exact ⟨2,_,coll_of (g:=1) (deep:=0) h (.inl rfl) (by omega) hb hl,rfl,by rw[mkB_size,List.length_cons,Nat.add_comm],rfl⟩
end Go.Proofs.YtncngeamdechmaaGreatDoor
