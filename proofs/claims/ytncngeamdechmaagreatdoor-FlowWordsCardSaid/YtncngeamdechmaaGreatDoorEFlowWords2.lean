/- Parts of the proof of FlowWords, put together from smaller texts (blanks that Lean does not want are struck). Conditions: those that each theorem writes out. -/
import Derived.BigQuiet
import Derived.Deep.DeepCutAuto
import Derived.Deep.DrawnRows
import Derived.Deep.LoopGhost
import Derived.Deep.RegionHeld3
import Derived.Deep.RegionWith
import Derived.Laws.Cover4
import Derived.Lib.CountLaws
import Derived.Lib.MapLaws
import Derived.Lib.Replace
import Derived.Shelf.LaysC
import Derived.Shelf.LaysM
import Derived.Shelf.Small.Strs
import Derived.Shelf.Small.Utf8
import Derived.Shelf.Strconv.Clone
import Derived.Shelf.Strconv.SyntaxError
import Derived.Shelf.Strconv.ToError
import Derived.Shelf.Strings.AsciiSet
import Derived.Shelf.Strings.Builder1
import Derived.Shelf.Strings.BuilderF
import Derived.Shelf.Strings.BuilderK
import Derived.Shelf.Strings.BuilderRune
import Derived.Shelf.Strings.LastIndex
import Derived.Shelf.Strings.Prefix
import Derived.Shelf.Strings.Runes
import Derived.Shelf.Strings.Search1
import Derived.Shelf.Strings.Search2
import Derived.Shelf.Strings.Search3
import Derived.Shelf.Strings.Shaped
import Derived.Shelf.Strings.Trim
import Derived.Shelf.Unicode.DecodeSlow
import Derived.Test.YtncngeamdechmaaGreatDoorEFlowWords0
import Derived.Test.YtncngeamdechmaaGreatDoorEFlowWords1
import Derived.Test.YtncngeamdechmaaGreatDoorProg
import Derived.Test.YtncngeamdechmaaGreatDoorZ00
import Derived.Test.YtncngeamdechmaaGreatDoorZ01
import Derived.Test.YtncngeamdechmaaGreatDoorZ02
import Derived.Test.YtncngeamdechmaaGreatDoorZ05
import Derived.Test.YtncngeamdechmaaGreatDoorZ08
import Derived.Test.YtncngeamdechmaaGreatDoorZ11
import Derived.Test.YtncngeamdechmaaGreatDoorZ15
import Derived.Test.YtncngeamdechmaaGreatDoorZ33
namespace Go.Proofs.YtncngeamdechmaaGreatDoor
open Go.RowKit
attribute [local go_sem ↓] Go.wp_at_zero Go.wp_at_succ
set_option maxRecDepth 100000 in
set_option maxHeartbeats 1600000 in
theorem awake16_true {Ev:World→Prop} (K:FlowC Ev) (w:World) (hE:Ev w):Calls Tryz.prog 7 #[] w fun e w'=>e=.returned (.bool true)∧Below w.heap.size w w':=by
 obtain ⟨T,a,b,hF1,hTk,hTa,hTb⟩:∃ T a b,FlowZ awakeA 0 (-1) 0 (some T) 9 0∧T.kids=[a,b]∧a.h.text=[97]∧b.h.kind=4:=by
  obtain ⟨m,m2,h⟩:=awakeF1
  exact ⟨_,_,_,h,rfl,rfl,rfl⟩
 go_enter Tryz.func7,Tryz.ntmps7
 go_wp2_with fail
 refine (K.read _ _ _ awakeA _ _ _ _ (by decide) hE hF1).mono ?_
 rintro e w2 ⟨cx,rfl,-,nx,b2⟩
 have hEs:=K.keep _ _ hE b2
 obtain ⟨kv,lv,fv,rfl,⟨la,lc,rfl,-,-,-⟩,⟨fa,fc,rfl,-,-,-⟩,⟨ka,kc,rfl,n1,n2,n3⟩⟩:=(nx _ rfl).open
 unfold maxLen at n2
 rw[hTk] at n1 n3 ⊢
 obtain ⟨kb,ko,rfl,hkb,hk⟩:=n3 (by show 0<2;decide)
 have n1:2≤kc:=n1
 rw[show ([a,b]:List NT).length=2 from rfl]
 obtain ⟨p0,p1,p2,p3,p4,p5,p6,p7,p8,p9,p10,p11,hN1,f0,f1,f2,f3,f4,f5,f6,f7,f8,f9,f10,f11⟩:=kid_cells hk (j:=0) (by show 0<2;decide)
 obtain ⟨q0,q1,q2,q3,q4,q5,q6,q7,q8,q9,q10,q11,hN2,g0,g1,g2,g3,g4,g5,g6,g7,g8,g9,g10,g11⟩:=kid_cells hk (j:=1) (by show 1<2;decide)
 have e6:p6=.string ⟨#[97]⟩:=by
  obtain ⟨a',b',c',e,_⟩:=hN1.open
  unfold headC at e
  simp only[List.cons.injEq] at e
  rw[e.2.2.2.2.2.2.1]
  show Value.string ⟨a.h.text.toArray⟩=_
  rw[hTa]
 have e0:q0=.int .i64 4:=by
  obtain ⟨a',b',c',e,_⟩:=hN2.open
  unfold headC at e
  simp only[List.cons.injEq] at e
  rw[e.1]
  show Value.int .i64 b.h.kind=_
  rw[hTb]
 have t6:w2.cell? ⟨kb,ko+6,none⟩=some (.string ⟨#[97]⟩):=by rw[e6] at f6;simpa using f6
 have t0:w2.cell? ⟨kb,ko+12,none⟩=some (.int .i64 4):=by rw[e0] at g0;simpa using g0
 have HKB:kb<w2.heap.size:=hkb
 clear f0 f1 f2 f3 f4 f5 f6 f7 f8 f9 f10 f11 g0 g1 g2 g3 g4 g5 g6 g7 g8 g9 g10 g11 hN1 hN2 hk e6 e0 n3 hkb nx hTk hTa hTb hF1
 unfold headC
 generalize (⟨T.h.anchor.toArray⟩:ByteArray)=s1
 generalize (⟨T.h.tag.toArray⟩:ByteArray)=s2
 generalize (⟨T.h.text.toArray⟩:ByteArray)=s3
 generalize (⟨T.h.trail.toArray⟩:ByteArray)=s4
 go_wp2_with fail
 obtain ⟨WX,hWX⟩:∃ WX:World,WX=w2.alloc (.cells #[.int .i64 T.h.kind,.int .i64 T.h.style,.int .i64 T.h.at',.int .i64 T.h.blank,.string s1,.string s2,.string s3,.slice (some ⟨kb,ko,none⟩) 2 kc,.slice la T.h.lead.length lc,.slice fa T.h.foot.length fc,.bool T.h.ht,.string s4] 30):=⟨_,rfl⟩
 have r7:WX.cell? ⟨w2.heap.size,7,none⟩=some (.slice (some ⟨kb,ko,none⟩) 2 kc):=by rw[hWX];exact World.cell?_alloc_mark ..
 have z1:WX.heap.size=w2.heap.size+1:=by rw[hWX];simp
 have z2:Below w2.heap.size w2 WX:=by rw[hWX];exact (Below.refl _ _).alloc (Nat.le_refl _) _
 rw[←hWX]
 clear hWX
 have t6':WX.cell? ⟨kb,ko+6,none⟩=some (.string ⟨#[97]⟩):=(z2.cell (p:=⟨kb,ko+6,none⟩) HKB).trans t6
 have t0':WX.cell? ⟨kb,ko+12,none⟩=some (.int .i64 4):=(z2.cell (p:=⟨kb,ko+12,none⟩) HKB).trans t0
 have hb3:=b2.trans (z2.mono b2.size)
 have hEt:=K.keep _ _ hE hb3
 refine (K.read _ _ _ awakeB _ _ _ _ (by decide) hEt awakeF2).mono ?_
 rintro e w3 ⟨cy,rfl,ly,-,b3⟩
 have r7':=(b3.cell (p:=⟨w2.heap.size,7,none⟩) (by show w2.heap.size<_;omega)).trans r7
 have t6'':=(b3.cell (p:=⟨kb,ko+6,none⟩) (by show kb<_;omega)).trans t6'
 have t0'':=(b3.cell (p:=⟨kb,ko+12,none⟩) (by show kb<_;omega)).trans t0'
 clear t6 t0 t6' t0' r7
 obtain ⟨i1,i2,i3,i4,u1,u2,u3,a1,m1,d1,a2,m2,d2,a3,m3,d3,bo,u4,rfl⟩:=ly
 have z3:w2.heap.size<w3.heap.size:=by have:=b3.size;omega
 have z4:kb<w3.heap.size:=by omega
 have hb4:=hb3.trans (b3.mono hb3.size)
 go_wp2
 go_ret
 exact ⟨rfl,hb4.alloc hb4.size _⟩
end Go.Proofs.YtncngeamdechmaaGreatDoor
namespace Go.Proofs.YtncngeamdechmaaGreatDoor
open Go.RowKit
theorem vw_plain:∀ w∈wordL,∀ u∈[[(44:UInt8)],[93],[125],[58,32]],plainF (w++u)=some w.length∧(match u.dropWhile wsp with | []=>false|y :: _=>decide (y≠58∨u=[58,32]))=true:=by decide +kernel
theorem vw_first:∀ w∈wordL,w≠[]∧w.getD 0 0≠63∧w.getD 0 0≠58∧w.getD 0 0≠44∧w.getD 0 0≠93∧w.getD 0 0≠125∧w.getD (w.length-1) 0≠10∧wsp (w.getD (w.length-1) 0)=false:=by decide +kernel
theorem vw_betw:∀ u∈wordL++[[(44:UInt8)],[93],[125],[58]],betwF (-1) u false=some ([],false,0)∧betwF (-1) (32 :: u) false=some ([],false,1):=by decide +kernel
def listW (more:Bool):List (List UInt8)→List UInt8
 | []=>[93]
 | w :: t=>w++((if t≠[]∨more=true then [44,32] else [])++listW more t)
def mapW (more:Bool):List (List UInt8)→List UInt8
 | []=>[125]
 | w :: t=>w++([58,32]++(w++((if t≠[]∨more=true then [44] else [])++mapW more t)))
def isW (x:NT) (w:List UInt8):Prop:=x.h.text=w∧x.h.style=1
def areW:List NT→List (List UInt8)→Prop
 | [],[]=>True
 | x :: xs,w :: ws=>isW x w∧areW xs ws
 | _,_=>False
theorem areW.len:∀ (xs:List NT) (ws:List (List UInt8)),areW xs ws→xs.length=ws.length
 | [],[],_=>rfl
 | x :: xs,w :: ws,h=>by rw[List.length_cons,List.length_cons,areW.len xs ws h.2]
 | [],_ :: _,h=>h.elim
 | _ :: _,[],h=>h.elim
theorem areW.at:∀ (xs:List NT) (ws:List (List UInt8)) (j:Nat) (h1:j<xs.length) (h2:j<ws.length),areW xs ws→isW xs[j] ws[j]
 | [],[],j,h1,_,_=>absurd h1 (Nat.not_lt_zero _)
 | x :: xs,w :: ws,0,_,_,h=>h.1
 | x :: xs,w :: ws,j+1,h1,h2,h=>areW.at xs ws j (by simpa using h1) (by simpa using h2) h.2
 | [],_ :: _,_,_,_,h=>h.elim
 | _ :: _,[],_,_,_,h=>h.elim
section
variable {s:ByteArray} {col:Nat→Nat→Rd (NT × Nat)→Prop}
theorem vb0 {p:Nat} {u l:List UInt8} (h0:0<p) (h:Pre s p (u++l)) (hu:u∈wordL++[[(44:UInt8)],[93],[125],[58]]) (hb:byt s (p-1)≠10) (hw:U.white (byt s (p-1):Int)=false) (hp:p≤s.size):betwR s (-1) p (.ok ([],false,p)):=by
 have:=betw_at (n:=-1) p u 0 h0 h.app.1 hb hw (vw_betw u hu).1 hp
 rwa [Nat.add_zero] at this
theorem vb1 {p:Nat} {u l:List UInt8} (h0:0<p) (h:Pre s p (32 :: (u++l))) (hu:u∈wordL++[[(44:UInt8)],[93],[125],[58]]) (hb:byt s (p-1)≠10) (hw:U.white (byt s (p-1):Int)=false) (hp:p≤s.size):betwR s (-1) p (.ok ([],false,p+1)):=
 betw_at (n:=-1) p (32 :: u) 1 h0 (Pre.app (a:=32 :: u) h).1 hb hw (vw_betw u hu).2 hp
theorem last_byte {p:Nat} {w l:List UInt8} (h:Pre s p (w++l)) (hw:w∈wordL):byt s (p+w.length-1)≠10∧U.white (byt s (p+w.length-1):Int)=false∧0<w.length:=by
 obtain ⟨h0,_,_,_,_,_,h1,h2⟩:=vw_first w hw
 have hl:=List.length_pos_iff.2 h0
 have hb:=h.app.1.byte (w.length-1) (by omega)
 rw[show p+(w.length-1)=p+w.length-1 by omega] at hb
 rw[hb]
 exact ⟨fun e=>h1 ((u8_eq (by decide)).1 e),by rw[wsp_white];exact h2,hl⟩
theorem first_byteV {p:Nat} {w l:List UInt8} (h:Pre s p (w++l)) (hw:w∈wordL):∃ x t,Pre s p (x :: t)∧(x≠63∧x≠58)∧(x≠44∧x≠93∧x≠125):=by
 obtain ⟨h0,h1,h2,h3,h4,h5,_⟩:=vw_first w hw
 cases w with
 | nil=>exact absurd rfl h0
 | cons x t=>exact ⟨x,t,h.app.1,⟨h1,h2⟩,h3,h4,h5⟩
theorem vsome {p deep:Nat} {w u l:List UInt8} (h:Pre s p (w++(u++l))) (hw:w∈wordL) (hu:u∈[[(44:UInt8)],[93],[125],[58,32]]):someR s (-1) col deep p (.ok ⟨leafN 1 p w,true,false,true,p+w.length⟩):=by
 have hp:Pre s p (w++u):=by rw[←List.append_assoc] at h;exact h.app.1
 have:=node_plain (n:=-1) (col:=col) (deep:=deep) hp (vw_plain w hw u hu).1
 rwa [List.take_left] at this
theorem vitem {p:Nat} {lead:Coms} {w l:List UInt8} {u:UInt8} (h:Pre s p (w++(u :: l))) (hw:w∈wordL) (hu:u=44∨u=93):∃ m:Nat,itemR s (-1) col lead 0 p (.ok ([(leafN 1 p w).withTop (lead++[]) m],false,⟨[],false,p+w.length,p+w.length⟩)):=by
 obtain ⟨b1,b2,b3⟩:=last_byte h hw
 obtain ⟨x,t,f1,f2,_⟩:=first_byteV h hw
 have h2:=h.app.2
 have hsz:=h.app.1.size (by have:=f1.cons.1;omega)
 have h2':Pre s (p+w.length) ([u]++l):=h2
 have hum:([u]:List UInt8)∈wordL++[[(44:UInt8)],[93],[125],[58]]:=by rcases hu with rfl|rfl <;> decide
 have huw:([u]:List UInt8).dropWhile wsp=u :: []:=by rcases hu with rfl|rfl <;> decide
 have hu58:u≠58:=by rcases hu with rfl|rfl <;> decide
 exact item_of (lead:=lead) (deep:=0) f1 f2 (vsome (u:=[u]) h hw (by rcases hu with rfl|rfl <;> simp)) rfl hsz (l2:=[u]) h2'.app.1 huw hu58 (vb0 (p:=p+w.length) (by omega) h2' hum b1 b2 hsz) ((sign_of (near:=false) h2).1 hu58)
theorem list_loop (more:Bool):∀ (ws:List (List UInt8)) (p:Nat) (kids:List NT),0<p→(∀ w∈ws,w∈wordL)→Pre s p (listW more ws)→∃ kids2,LoopR s (-1) col true 93 0 (.ok (kids++kids2,[],p+(listW more ws).length)) p [] kids∧areW kids2 ws
 | [],p,kids,h0,hw,h=>⟨[],by rw[List.append_nil];exact .done (by rw[isB_of (c:=93) (x:=93) (l:=[]) h];rfl) rfl,trivial⟩
 | w :: t,p,kids,h0,hw,h=>by
  have hwm:=hw w (by simp)
  have hR:=vw_first w hwm
  unfold listW at h ⊢
  obtain ⟨x,tx,f1,f2,f3,f4,f5⟩:=first_byteV h hwm
  have hcl:isB s p 93=false:=by rw[isB_of (c:=93) f1];exact decide_eq_false (fun e=>f4 ((u8_eq (by decide)).1 e))
  have hlk:lacksB s p=false:=by rw[lacks_of f1];exact decide_eq_false (by rintro (e|e|e);exact f3 e;exact f4 e;exact f5 e)
  by_cases hc:t≠[]∨more=true
  ·rw[if_pos hc] at h ⊢
   obtain ⟨m,hi⟩:=vitem (col:=col) (lead:=[]) (u:=44) (l:=32 :: listW more t) h hwm (.inl rfl)
   have h2:=h.app.2
   have h3:Pre s (p+w.length+1) (32 :: listW more t):=h2.cons.2.2
   have hby:byt s (p+w.length)=44:=h2.cons.2.1
   have hb:betwR s (-1) (p+w.length+1) (.ok ([],false,p+w.length+1+1)):=by
    cases t with
    | nil=>exact vb1 (u:=[93]) (l:=[]) (by omega) h3 (by decide) (by show byt s (p+w.length)≠10;rw[hby];decide) (by show U.white (byt s (p+w.length):Int)=false;rw[hby];decide) h2.cons.1
    | cons w2 t2=>exact vb1 (u:=w2) (l:=_) (by omega) h3 (List.mem_append_left _ (hw w2 (by simp))) (by show byt s (p+w.length)≠10;rw[hby];decide) (by show U.white (byt s (p+w.length):Int)=false;rw[hby];decide) h2.cons.1
   obtain ⟨sm,_,hs⟩:=step_comma (seq:=true) (closing:=93) hi h2 hb
   obtain ⟨k2,hl,ha⟩:=list_loop more t (p+w.length+1+1) (kids++[(leafN 1 p w).withTop [] m]) (by omega) (fun v hv=>hw v (by simp[hv])) h3.cons.2.2
   refine ⟨(leafN 1 p w).withTop [] m :: k2,?_,⟨⟨rfl,rfl⟩,ha⟩⟩
   have hs:stepR s (-1) col true 93 0 [] p (.ok ([(leafN 1 p w).withTop [] m],[],p+w.length+1+1)):=by
    cases sm <;> exact hs
   refine .go hcl f1.cons.1 hlk hs ?_
   have hL:p+(w++(([44,32]:List UInt8)++listW more t)).length=p+w.length+1+1+(listW more t).length:=by
    rw[List.length_append,List.length_append]
    show p+(w.length+(2+_))=_
    omega
   rw[show kids++(leafN 1 p w).withTop [] m :: k2=(kids++[(leafN 1 p w).withTop [] m])++k2 by simp,hL]
   exact hl
  ·rw[if_neg hc] at h ⊢
   have ht:t=[]:=Decidable.byContradiction fun e=>hc (.inl e)
   subst ht
   obtain ⟨m,hi⟩:=vitem (col:=col) (lead:=[]) (u:=93) (l:=[]) h hwm (.inr rfl)
   have h2:Pre s (p+w.length) (93 :: []):=h.app.2
   have hs:=step_last (seq:=true) (closing:=93) hi h2 rfl (by decide)
   refine ⟨[(leafN 1 p w).withTop [] m],.go hcl f1.cons.1 hlk hs ?_,⟨⟨rfl,rfl⟩,trivial⟩⟩
   refine .done (by rw[isB_of (c:=93) h2];rfl) ?_
   have hL:p+(w++(([]:List UInt8)++listW more [])).length=p+w.length+1:=by
    rw[List.length_append]
    show p+(w.length+1)=_
    omega
   rw[hL]
   rfl
theorem ventry {p:Nat} {lead:Coms} {w l:List UInt8} {u:UInt8} (h:Pre s p (w++(58 :: 32 :: (w++(u :: l))))) (hw:w∈wordL) (hu:u=44∨u=125):∃ (m:Nat) (q:Nat),q=p+w.length+2+w.length∧entryR s (-1) col lead 0 p (.ok ([(leafN 1 p w).withTop (lead++[]++[]) m,(leafN 1 (p+w.length+2) w).withLead ([]++[]++[])],false,⟨[],false,q,q⟩)):=by
 obtain ⟨b1,b2,b3⟩:=last_byte h hw
 obtain ⟨x,t,f1,f2,_⟩:=first_byteV h hw
 have hsz:=h.app.1.size (by have:=f1.cons.1;omega)
 have h2:Pre s (p+w.length) ([58]++(32 :: (w++(u :: l)))):=h.app.2
 have h3:Pre s (p+w.length+1) (32 :: (w++(u :: l))):=h.app.2.cons.2.2
 have h4:Pre s (p+w.length+2) (w++(u :: l)):=h3.cons.2.2
 have h4':Pre s (p+w.length+2) (w++([u]++l)):=h4
 have h5:Pre s (p+w.length+2+w.length) ([u]++l):=h4.app.2
 obtain ⟨c1,c2,c3⟩:=last_byte h4 hw
 obtain ⟨y,t2,g1,g2,g3⟩:=first_byteV h4 hw
 have hum:([u]:List UInt8)∈wordL++[[(44:UInt8)],[93],[125],[58]]:=by rcases hu with rfl|rfl <;> decide
 have hby:byt s (p+w.length)=58:=h.app.2.cons.2.1
 have hsz4:=h4.app.1.size (by have:=g1.cons.1;omega)
 have hv:=value_of (n:=-1) (col:=col) (lead:=[]) (deep:=1) (vb1 (p:=p+w.length+1) (u:=w) (l:=u :: l) (by omega) h3 (List.mem_append_left _ hw) (by show byt s (p+w.length)≠10;rw[hby];decide) (by show U.white (byt s (p+w.length):Int)=false;rw[hby];decide) h.app.2.cons.1) g1 g3 (vsome h4' hw (by rcases hu with rfl|rfl <;> simp)) (vb0 (p:=p+w.length+2+w.length) (by omega) h5 hum c1 c2 hsz4)
 have hb:=behind_of (n:=-1) (col:=col) (f:=⟨leafN 1 p w,true,false,true,p+w.length⟩) (deep:=1) (p:=p+w.length) rfl (vb0 (p:=p+w.length) (by omega) h2 (by decide) b1 b2 hsz) (by
  rw[(sign_of (near:=false) h.app.2).2.2 32 _ rfl];decide) hv
 obtain ⟨m,hm⟩:=entry_of (lead:=lead) (deep:=0) f1 f2 (vsome (u:=[58,32]) (l:=w++(u :: l)) h hw (by simp)) hb
 exact ⟨m,_,rfl,hm⟩
theorem map_loop (more:Bool):∀ (ws:List (List UInt8)) (p:Nat) (kids:List NT),0<p→(∀ w∈ws,w∈wordL)→Pre s p (mapW more ws)→∃ kids2,LoopR s (-1) col false 125 0 (.ok (kids++kids2,[],p+(mapW more ws).length)) p [] kids∧areW kids2 (twice ws)
 | [],p,kids,h0,hw,h=>⟨[],by rw[List.append_nil];exact .done (by rw[isB_of (c:=125) (x:=125) (l:=[]) h];rfl) rfl,trivial⟩
 | w :: t,p,kids,h0,hw,h=>by
  have hwm:=hw w (by simp)
  unfold mapW at h ⊢
  obtain ⟨x,tx,f1,f2,f3,f4,f5⟩:=first_byteV h hwm
  have hcl:isB s p 125=false:=by rw[isB_of (c:=125) f1];exact decide_eq_false (fun e=>f5 ((u8_eq (by decide)).1 e))
  have hlk:lacksB s p=false:=by rw[lacks_of f1];exact decide_eq_false (by rintro (e|e|e);exact f3 e;exact f4 e;exact f5 e)
  by_cases hc:t≠[]∨more=true
  ·rw[if_pos hc] at h ⊢
   obtain ⟨m,q,hq,hi⟩:=ventry (col:=col) (lead:=[]) (u:=44) (l:=mapW more t) h hwm (.inl rfl)
   have h4:Pre s (p+w.length+2) (w++([44]++mapW more t)):=h.app.2.cons.2.2.cons.2.2
   have h2:Pre s q (44 :: mapW more t):=by rw[hq];exact h4.app.2
   have h3:Pre s (q+1) (mapW more t):=h2.cons.2.2
   have hby:byt s q=44:=h2.cons.2.1
   have hb:betwR s (-1) (q+1) (.ok ([],false,q+1)):=by
    cases t with
    | nil=>exact vb0 (u:=[125]) (l:=[]) (by omega) h3 (by decide) (by show byt s q≠10;rw[hby];decide) (by show U.white (byt s q:Int)=false;rw[hby];decide) h2.cons.1
    | cons w2 t2=>exact vb0 (u:=w2) (l:=_) (by omega) h3 (List.mem_append_left _ (hw w2 (by simp))) (by show byt s q≠10;rw[hby];decide) (by show U.white (byt s q:Int)=false;rw[hby];decide) h2.cons.1
   obtain ⟨sm,_,hs⟩:=step_comma (seq:=false) (closing:=125) hi h2 hb
   obtain ⟨k2,hl,ha⟩:=map_loop more t (q+1) (kids++[(leafN 1 p w).withTop [] m,(leafN 1 (p+w.length+2) w).withLead []]) (by omega) (fun v hv=>hw v (by simp[hv])) h3
   refine ⟨(leafN 1 p w).withTop [] m :: (leafN 1 (p+w.length+2) w).withLead [] :: k2,?_,⟨⟨rfl,rfl⟩,⟨rfl,rfl⟩,ha⟩⟩
   have hs:stepR s (-1) col false 125 0 [] p (.ok ([(leafN 1 p w).withTop [] m,(leafN 1 (p+w.length+2) w).withLead []],[],q+1)):=by
    cases sm <;> exact hs
   refine .go hcl f1.cons.1 hlk hs ?_
   have hL:p+(w++(([58,32]:List UInt8)++(w++(([44]:List UInt8)++mapW more t)))).length=q+1+(mapW more t).length:=by
    rw[hq,List.length_append,List.length_append,List.length_append,List.length_append]
    show p+(w.length+(2+(w.length+(1+_))))=_
    omega
   rw[show kids++(leafN 1 p w).withTop [] m :: (leafN 1 (p+w.length+2) w).withLead [] :: k2=(kids++[(leafN 1 p w).withTop [] m,(leafN 1 (p+w.length+2) w).withLead []])++k2 by simp,hL]
   exact hl
  ·rw[if_neg hc] at h ⊢
   have ht:t=[]:=Decidable.byContradiction fun e=>hc (.inl e)
   subst ht
   obtain ⟨m,q,hq,hi⟩:=ventry (col:=col) (lead:=[]) (u:=125) (l:=[]) h hwm (.inr rfl)
   have h4:Pre s (p+w.length+2) (w++([]++mapW more [])):=h.app.2.cons.2.2.cons.2.2
   have h2:Pre s q (125 :: []):=by rw[hq];exact h4.app.2
   have hs:=step_last (seq:=false) (closing:=125) hi h2 rfl (by decide)
   refine ⟨[(leafN 1 p w).withTop [] m,(leafN 1 (p+w.length+2) w).withLead []],.go hcl f1.cons.1 hlk hs ?_,⟨⟨rfl,rfl⟩,⟨rfl,rfl⟩,trivial⟩⟩
   refine .done (by rw[isB_of (c:=125) h2];rfl) ?_
   have hL:p+(w++(([58,32]:List UInt8)++(w++(([]:List UInt8)++mapW more [])))).length=q+1:=by
    rw[hq,List.length_append,List.length_append,List.length_append]
    show p+(w.length+(2+(w.length+1)))=_
    omega
   rw[hL]
   rfl
end
theorem list_text (more:Bool) (ws:List (List UInt8)) (hw:∀ w∈ws,w∈wordL):∃ x,FlowZ (mkB (91 :: listW more ws)) 0 (-1) 0 (some x) ((mkB (91 :: listW more ws)).size:Int) 0∧areW x.kids ws:=by
 have h:Pre (mkB (91 :: listW more ws)) 0 (91 :: listW more ws):=List.prefix_refl _
 obtain ⟨h1,h2,h3⟩:=h.cons
 have hb:betwR (mkB (91 :: listW more ws)) (-1) 1 (.ok ([],false,1)):=by
  cases ws with
  | nil=>exact vb0 (u:=[93]) (l:=[]) (by omega) h3 (by decide) (by show byt _ 0≠10;rw[h2];decide) (by show U.white (byt _ 0:Int)=false;rw[h2];decide) h1
  | cons w t=>exact vb0 (u:=w) (l:=_) (by omega) h3 (List.mem_append_left _ (hw w (by simp))) (by show byt _ 0≠10;rw[h2];decide) (by show U.white (byt _ 0:Int)=false;rw[h2];decide) h1
 obtain ⟨k2,hl,ha⟩:=list_loop (s:=mkB (91 :: listW more ws)) (col:=collR (mkB (91 :: listW more ws)) (-1) 1) more ws 1 [] (by omega) hw h3
 refine ⟨NT.mk ⟨if (91:UInt8)=91 then 3 else 4,7,(0:Nat),0,[],[],[],[],[],false,[]⟩ ([]++k2),?_,(show areW ([]++k2) _ from ha)⟩
 unfold FlowZ
 rw[if_pos ⟨by decide,.inl (by rw[show (0:Int).toNat=0 from rfl,isB_of (c:=91) h];rfl)⟩]
 exact ⟨2,_,coll_of (g:=1) (deep:=0) h (.inl rfl) (by omega) hb hl,rfl,by rw[mkB_size,List.length_cons,Nat.add_comm],rfl⟩
theorem map_text (more:Bool) (ws:List (List UInt8)) (hw:∀ w∈ws,w∈wordL):∃ x,FlowZ (mkB (123 :: mapW more ws)) 0 (-1) 0 (some x) ((mkB (123 :: mapW more ws)).size:Int) 0∧areW x.kids (twice ws):=by
 have h:Pre (mkB (123 :: mapW more ws)) 0 (123 :: mapW more ws):=List.prefix_refl _
 obtain ⟨h1,h2,h3⟩:=h.cons
 have hb:betwR (mkB (123 :: mapW more ws)) (-1) 1 (.ok ([],false,1)):=by
  cases ws with
  | nil=>exact vb0 (u:=[125]) (l:=[]) (by omega) h3 (by decide) (by show byt _ 0≠10;rw[h2];decide) (by show U.white (byt _ 0:Int)=false;rw[h2];decide) h1
  | cons w t=>exact vb0 (u:=w) (l:=_) (by omega) h3 (List.mem_append_left _ (hw w (by simp))) (by show byt _ 0≠10;rw[h2];decide) (by show U.white (byt _ 0:Int)=false;rw[h2];decide) h1
 obtain ⟨k2,hl,ha⟩:=map_loop (s:=mkB (123 :: mapW more ws)) (col:=collR (mkB (123 :: mapW more ws)) (-1) 1) more ws 1 [] (by omega) hw h3
 refine ⟨NT.mk ⟨if (123:UInt8)=91 then 3 else 4,7,(0:Nat),0,[],[],[],[],[],false,[]⟩ ([]++k2),?_,(show areW ([]++k2) _ from ha)⟩
 unfold FlowZ
 rw[if_pos ⟨by decide,.inr (by rw[show (0:Int).toNat=0 from rfl,isB_of (c:=123) h];rfl)⟩]
 exact ⟨2,_,coll_of (g:=1) (deep:=0) h (.inr rfl) (by omega) hb hl,rfl,by rw[mkB_size,List.length_cons,Nat.add_comm],rfl⟩
end Go.Proofs.YtncngeamdechmaaGreatDoor
