/- Parts of the proof, put together from smaller texts (blanks that Lean does not want are struck). Conditions: those that each theorem writes out. -/
import Derived.Test.YthcmkpiajkbpnaaGreatDoorZ00
namespace Go.Proofs.YthcmkpiajkbpnaaGreatDoor
open Go.RowKit
theorem infoC:(Tryz.prog.info? 36).map (fun i=>(i.zero,i.size,i.bytes))=some (some (.agg #[.string ByteArray.empty,.int .i64 0]),2,24):=by kernel_rfl
def comV:List (List UInt8 × Nat)→List Value
 | []=>[]
 | c :: cs=>.string ⟨c.1.toArray⟩ :: .int .i64 (c.2:Int) :: comV cs
theorem comV_length:∀ cs:List (List UInt8 × Nat),(comV cs).length=cs.length*2
 | []=>rfl
 | c :: cs=>by
  show (comV cs).length+1+1=(cs.length+1)*2
  rw[comV_length cs];omega
theorem comV_append:∀ a b:List (List UInt8 × Nat),comV (a++b)=comV a++comV b
 | [],b=>rfl
 | c :: a,b=>by
  show _ :: _ :: comV (a++b)=_
  rw[comV_append a b]
  rfl
def comT (cs:List (List UInt8 × Nat)) (j:Nat):List UInt8:=(cs.getD j ([],0)).1
def comN (cs:List (List UInt8 × Nat)) (j:Nat):Nat:=(cs.getD j ([],0)).2
theorem comV_get:∀ (cs:List (List UInt8 × Nat)) (j:Nat),j<cs.length→(comV cs)[j*2]?=some (.string ⟨(comT cs j).toArray⟩)∧(comV cs)[j*2+1]?=some (.int .i64 (comN cs j:Int))
 | [],j,h=>by simp at h
 | c :: cs,0,h=>⟨rfl,rfl⟩
 | c :: cs,j+1,h=>by
  obtain ⟨h1,h2⟩:=comV_get cs j (by simpa using h)
  have e1:(j+1)*2=j*2+1+1:=by omega
  refine ⟨?_,?_⟩
  ·rw[e1]
   show (comV cs)[j*2]?=_
   rw[h1];rfl
  ·rw[e1]
   show (comV cs)[j*2+1]?=_
   rw[h2];rfl
theorem comV_one:∀ (cs:List (List UInt8 × Nat)),∀ u∈comV cs,u.oneCell'=true
 | [],u,h=>by simp[comV] at h
 | c :: cs,u,h=>by
  simp only[comV,List.mem_cons] at h
  rcases h with rfl|rfl|h
  ·rfl
  ·rfl
  ·exact comV_one cs u h
def OutC (B:Nat) (w:World) (v:Value) (cs:List (List UInt8 × Nat)):Prop:=w.ownsRow B 36 2 v cs.length (comV cs)
theorem OutC.nil (B:Nat) (w:World):OutC B w (.slice none 0 0) []:=World.ownsRow_nil _ _ _ _
theorem OutC.below {B:Nat} {w w':World} {v:Value} {cs:List (List UInt8 × Nat)} (h:OutC B w v cs) (hb:Below w.heap.size w w'):OutC B w' v cs:=ownsRow_below h hb (Nat.le_refl _)
theorem OutC.lt {B:Nat} {w:World} {v:Value} {cs:List (List UInt8 × Nat)} (h:OutC B w v cs):∀ k,v.ownBlock=some k→B≤k∧k<w.heap.size:=World.ownsRow.lt h
theorem appendC {ops:Array Oper} {rest:List Oper} {o:Oper} {a:Act} {Q:Exit→Act→World→Prop} (w0:World) (T:ByteArray) (t:List UInt8) (n:Nat) (z:Int) (hT:(⟨t.toArray⟩:ByteArray)=T) (hz:(n:Int)=z) (hgd:o.guard=none) (s x:Operand)
  (ho:o.op=.call { callee:=.builtin .append,args:=#[s,x],argTypes:=#[25,25] })
  (B:Nat) (wb:World) (v:Value) (xs:List (List UInt8 × Nat)) (hs:a.eval s=v) (hx:a.eval x=.slice (some ⟨w0.heap.size,0,none⟩) 1 1) (hv:OutC B w0 v xs) (hb:Below B wb w0) (hn:xs.length≤1000000000) (hB:B≤wb.heap.size)
  (h:∀ v' w',OutC B w' v' (xs++[(t,n)])→Below B wb w'→wpList Tryz.prog ops Q rest (a.put o.dst v') w'):wpList Tryz.prog ops Q (o :: rest) a (w0.alloc (.cells #[.string T,.int .i64 z] 36)):=by
 subst hT hz
 obtain ⟨i0,hi,hz0,hz1,hz2⟩:=info_parts infoC
 have hs0:=hb.size
 have hw0:(w0.alloc (.cells #[.string ⟨t.toArray⟩,.int .i64 (n:Int)] 36)).heap.size=w0.heap.size+1:=by simp
 have hB0:B≤w0.heap.size:=Nat.le_trans hB hs0
 refine wpList_append_own _ hgd s x 25 ho B 36 i0 (.agg #[.string ByteArray.empty,.int .i64 0]) 2 24 Tryz.underlying25 hi hz0 hz1 hz2 rfl (by decide) v xs.length (comV xs) hs (hv.below ((Below.refl _ _).alloc (Nat.le_refl _) _)) ⟨w0.heap.size,0,none⟩ 1 1 (comV [(t,n)]) hx rfl ?_ (comV_one _) (by unfold maxLen;omega) (by omega) (by rw[hw0];omega) ?_
 ·intro j u hu
  rw[Addr.add_lit,Nat.zero_add,World.cell?_alloc_mark]
  rw[←hu]
  match j with
  | 0=>rfl
  | 1=>rfl
  | j+2=>rfl
 ·intro v' w' h1 h2 _
  refine h v' w' ?_ ((hb.alloc hB0 _).grown h2 (by rw[hw0];omega) (fun k hk=>(hv.lt k hk).1))
  unfold OutC
  rw[List.length_append,comV_append]
  exact h1
end Go.Proofs.YthcmkpiajkbpnaaGreatDoor
namespace Go.Proofs.YthcmkpiajkbpnaaGreatDoor
open Go.RowKit
structure NH where
 kind:Int
 style:Int
 at':Int
 blank:Int
 anchor:List UInt8
 tag:List UInt8
 text:List UInt8
 lead:List (List UInt8 × Nat)
 foot:List (List UInt8 × Nat)
 ht:Bool
 trail:List UInt8
inductive NT where
 | mk (h:NH) (kids:List NT)
def NT.h:NT→NH | .mk h _=>h
def NT.kids:NT→List NT | .mk _ k=>k
def headC (h:NH) (kv lv fv:Value):List Value:=[.int .i64 h.kind,.int .i64 h.style,.int .i64 h.at',.int .i64 h.blank,.string ⟨h.anchor.toArray⟩,.string ⟨h.tag.toArray⟩,.string ⟨h.text.toArray⟩,kv,lv,fv,.bool h.ht,.string ⟨h.trail.toArray⟩]
def ComsR (R:Nat→Prop) (w:World) (v:Value) (cs:List (List UInt8 × Nat)):Prop:=
 ∃ ao cap,v=.slice ao cs.length cap∧cs.length≤cap∧cap≤maxLen∧(0<cs.length→∃ b o,ao=some ⟨b,o,none⟩∧R b∧∀ j,j<cs.length→w.cell? ⟨b,o+j*2,none⟩=some (.string ⟨(comT cs j).toArray⟩)∧w.cell? ⟨b,o+j*2+1,none⟩=some (.int .i64 (comN cs j:Int)))
mutual
def IsN (R:Nat→Prop) (w:World):NT→List Value→Prop
 | .mk h kids,cs=>∃ kv lv fv,cs=headC h kv lv fv∧ComsR R w lv h.lead∧ComsR R w fv h.foot∧∃ ao cap,kv=.slice ao kids.length cap∧kids.length≤cap∧cap≤maxLen∧(0<kids.length→∃ b o,ao=some ⟨b,o,none⟩∧R b∧IsKids R w b o kids)
def IsKids (R:Nat→Prop) (w:World) (b:Nat):Nat→List NT→Prop
 | _,[]=>True
 | o,t :: ts=>(∃ cs,(∀ i,i<12→w.cell? ⟨b,o+i,none⟩=cs[i]?)∧IsN R w t cs)∧IsKids R w b (o+12) ts
end
def NodesR (R:Nat→Prop) (w:World) (v:Value) (ts:List NT):Prop:=
 ∃ ao cap,v=.slice ao ts.length cap∧ts.length≤cap∧cap≤maxLen∧(0<ts.length→∃ b o,ao=some ⟨b,o,none⟩∧R b∧IsKids R w b o ts)
theorem IsN.open {R:Nat→Prop} {w:World} {t:NT} {cs:List Value} (h:IsN R w t cs):∃ kv lv fv,cs=headC t.h kv lv fv∧ComsR R w lv t.h.lead∧ComsR R w fv t.h.foot∧NodesR R w kv t.kids:=by
 cases t with
 | mk hd kids=>unfold IsN at h;exact h
theorem IsN.shut {R:Nat→Prop} {w:World} {hd:NH} {kids:List NT} {kv lv fv:Value} (h1:ComsR R w lv hd.lead) (h2:ComsR R w fv hd.foot) (h3:NodesR R w kv kids):IsN R w (.mk hd kids) (headC hd kv lv fv):=by
 unfold IsN
 exact ⟨kv,lv,fv,rfl,h1,h2,h3⟩
theorem IsN.len {R:Nat→Prop} {w:World} {t:NT} {cs:List Value} (h:IsN R w t cs):cs.length=12:=by
 obtain ⟨kv,lv,fv,rfl,_⟩:=h.open
 rfl
theorem cell_frame {w w':World} {b o:Nat} (h:w'.heap[b]?=w.heap[b]?):w'.cell? ⟨b,o,none⟩=w.cell? ⟨b,o,none⟩:=World.cell?_of_block (w:=w) h
theorem ComsR.frame {R R':Nat→Prop} {w w':World} {v:Value} {cs:List (List UInt8 × Nat)} (h:ComsR R w v cs) (hR:∀ b,R b→R' b∧w'.heap[b]?=w.heap[b]?):ComsR R' w' v cs:=by
 obtain ⟨ao,cap,rfl,h1,h2,h3⟩:=h
 refine ⟨ao,cap,rfl,h1,h2,fun hp=>?_⟩
 obtain ⟨b,o,e,hb,hc⟩:=h3 hp
 exact ⟨b,o,e,(hR b hb).1,fun j hj=>⟨by rw[cell_frame (hR b hb).2];exact (hc j hj).1,by rw[cell_frame (hR b hb).2];exact (hc j hj).2⟩⟩
mutual
theorem IsN.frame {R R':Nat→Prop} {w w':World} (hR:∀ b,R b→R' b∧w'.heap[b]?=w.heap[b]?):∀ (t:NT) (cs:List Value),IsN R w t cs→IsN R' w' t cs
 | .mk hd kids,cs,h=>by
  unfold IsN at h ⊢
  obtain ⟨kv,lv,fv,e,h1,h2,ao,cap,e2,h3,h4,h5⟩:=h
  refine ⟨kv,lv,fv,e,h1.frame hR,h2.frame hR,ao,cap,e2,h3,h4,fun hp=>?_⟩
  obtain ⟨b,o,e3,hb,hk⟩:=h5 hp
  exact ⟨b,o,e3,(hR b hb).1,IsKids.frame hR hb kids o hk⟩
theorem IsKids.frame {R R':Nat→Prop} {w w':World} (hR:∀ b,R b→R' b∧w'.heap[b]?=w.heap[b]?) {b:Nat} (hb:R b):∀ (ts:List NT) (o:Nat),IsKids R w b o ts→IsKids R' w' b o ts
 | [],o,h=>by unfold IsKids;trivial
 | t :: ts,o,h=>by
  unfold IsKids at h ⊢
  obtain ⟨⟨cs,h1,h2⟩,h3⟩:=h
  exact ⟨⟨cs,fun i hi=>by rw[cell_frame (hR b hb).2];exact h1 i hi,IsN.frame hR t cs h2⟩,IsKids.frame hR hb ts (o+12) h3⟩
end
theorem NodesR.frame {R R':Nat→Prop} {w w':World} {v:Value} {ts:List NT} (h:NodesR R w v ts) (hR:∀ b,R b→R' b∧w'.heap[b]?=w.heap[b]?):NodesR R' w' v ts:=by
 obtain ⟨ao,cap,rfl,h1,h2,h3⟩:=h
 refine ⟨ao,cap,rfl,h1,h2,fun hp=>?_⟩
 obtain ⟨b,o,e,hb,hc⟩:=h3 hp
 exact ⟨b,o,e,(hR b hb).1,IsKids.frame hR hb ts o hc⟩
def Lo (B:Nat):Nat→Prop:=fun b=>b<B
theorem ComsR.nil (R:Nat→Prop) (w:World):ComsR R w (.slice none 0 0) []:=⟨none,0,rfl,Nat.le_refl _,by decide,fun h=>by simp at h⟩
theorem NodesR.nil (R:Nat→Prop) (w:World):NodesR R w (.slice none 0 0) []:=⟨none,0,rfl,Nat.le_refl _,by decide,fun h=>by simp at h⟩
end Go.Proofs.YthcmkpiajkbpnaaGreatDoor
namespace Go.Proofs.YthcmkpiajkbpnaaGreatDoor.U
def cDig (c:Int):Bool:=decide (48≤c∧c≤57)
def cRun (p:Int→Bool):List UInt8→Nat
 | []=>0
 | b :: l=>if p (b.toNat:Int)=true then cRun p l+1 else 0
def cAll (p:Int→Bool) (l:List UInt8):Bool:=!l.isEmpty&&decide (cRun p l=l.length)
theorem cRun_cons (p:Int→Bool) (b:UInt8) (l:List UInt8):cRun p (b :: l)=if p (b.toNat:Int)=true then cRun p l+1 else 0:=rfl
theorem cRun_all {p:Int→Bool} {l:List UInt8} (h:∀ b∈l,p (b.toNat:Int)=true):cRun p l=l.length:=by
 induction l with
 | nil=>rfl
 | cons b l ih=>
  rw[cRun_cons,if_pos (h b List.mem_cons_self),ih fun x hx=>h x (List.mem_cons_of_mem _ hx)]
  rfl
theorem cRun_len {p:Int→Bool} {l:List UInt8} (h:cRun p l=l.length):∀ b∈l,p (b.toNat:Int)=true:=by
 induction l with
 | nil=>intro b hb;cases hb
 | cons b l ih=>
  rw[cRun_cons] at h
  split at h
  ·next hp=>
   intro x hx
   rcases List.mem_cons.1 hx with rfl|hx
   ·exact hp
   ·exact ih (by simpa using h) x hx
  ·simp at h
def cHexV (c:Nat):Int:=if 48≤c∧c≤57 then (c:Int)-48 else if 97≤c∧c≤102 then (c:Int)-87 else if 65≤c∧c≤70 then (c:Int)-55 else -1
end Go.Proofs.YthcmkpiajkbpnaaGreatDoor.U
namespace Go.Proofs.YthcmkpiajkbpnaaGreatDoor.U
def white (c:Int):Bool:=decide (c=32∨c=9)
def flow (c:Int):Bool:=decide (c=44∨c=91∨c=93∨c=123∨c=125)
def indic (c:Int):Bool:=decide (flow c=true∨c=45∨c=63∨c=58∨c=35∨c=38∨c=42∨c=33∨c=124∨c=62∨c=39∨c=34∨c=37∨c=64∨c=96)
def wordc (c:Int):Bool:=decide ((97≤c∧c≤122)∨(65≤c∧c≤90)∨(48≤c∧c≤57)∨c=45)
def uri (c:Int):Bool:=decide (wordc c=true∨c=35∨c=59∨c=47∨c=63∨c=58∨c=64∨c=38∨c=61∨c=43∨c=36∨c=95∨c=46∨c=33∨c=126∨c=42∨c=39∨c=40∨c=41∨c=37∨c=44∨c=91∨c=93)
def endc (c:Int):Bool:=decide (c=32∨c=9∨c=10)
def keeps (b:UInt8):Bool:=!(endc (b.toNat:Int))&&!(flow (b.toNat:Int))
def nameL (l:List UInt8):Nat:=(l.takeWhile keeps).length
theorem nameL_cons (b:UInt8) (l:List UInt8):nameL (b :: l)=if keeps b=true then nameL l+1 else 0:=by
 unfold nameL
 rw[List.takeWhile_cons]
 split <;> simp
theorem nameL_le (l:List UInt8):nameL l≤l.length:=by
 induction l with
 | nil=>exact Nat.le_refl _
 | cons b l ih=>rw[nameL_cons,List.length_cons];split <;> omega
end Go.Proofs.YthcmkpiajkbpnaaGreatDoor.U
namespace Go.Proofs.YthcmkpiajkbpnaaGreatDoor
open Go.RowKit
theorem drop_byte (s:ByteArray) (k:Nat) (h:k<s.size):∃ b:UInt8,s.data.toList.drop k=b :: s.data.toList.drop (k+1)∧b.toNat=byt s k:=by
 have hl:k<s.data.toList.length:=by rw[←Lib.size_eq];exact h
 refine ⟨_,List.drop_eq_getElem_cons hl,?_⟩
 have e:s.get! k=s[k]'h:=by
  simp[ByteArray.get!,getElem!_pos,h]
  rfl
 unfold byt
 rw[e]
 simp[ByteArray.getElem_eq_getElem_data]
set_option maxHeartbeats 400000 in
theorem White_any (c:Int) (w:World) :
  Calls Tryz.prog 57 #[.int .u8 c] w fun e w'=>e=.returned (.bool (U.white c))∧w=w':=by
 go_enter Tryz.func57,Tryz.ntmps57
 go_wp2
 all_goals go_ret
 all_goals
  refine ⟨congrArg (fun b:Bool=>Ending.returned (.bool b)) ?_,rfl⟩
  unfold U.white
  rw[Bool.eq_iff_iff]
  simp at *
  try omega
theorem White_is (q:Bool) (c:Int) (w:World) (h:U.white c=q) :
  Calls Tryz.prog 57 #[.int .u8 c] w fun e w'=>e=.returned (.bool q)∧w=w':=by
 subst h;exact White_any c w
set_option maxHeartbeats 400000 in
theorem Flow_any (c:Int) (w:World) :
  Calls Tryz.prog 90 #[.int .u8 c] w fun e w'=>e=.returned (.bool (U.flow c))∧w=w':=by
 go_enter Tryz.func90,Tryz.ntmps90
 go_wp2
 all_goals go_ret
 all_goals
  refine ⟨congrArg (fun b:Bool=>Ending.returned (.bool b)) ?_,rfl⟩
  unfold U.flow
  rw[Bool.eq_iff_iff]
  simp at *
  try omega
theorem Flow_is (q:Bool) (c:Int) (w:World) (h:U.flow c=q) :
  Calls Tryz.prog 90 #[.int .u8 c] w fun e w'=>e=.returned (.bool q)∧w=w':=by
 subst h;exact Flow_any c w
set_option maxHeartbeats 1600000 in
theorem Indicator_any (c:Int) (w:World) :
  Calls Tryz.prog 150 #[.int .u8 c] w fun e w'=>e=.returned (.bool (U.indic c))∧w=w':=by
 go_enter Tryz.func150,Tryz.ntmps150
 go_wp2_with (go_at_call 90;refine (Flow_any _ _).mono ?_;rintro e w' ⟨rfl,rfl⟩)
 all_goals go_ret
 all_goals
  refine ⟨congrArg (fun b:Bool=>Ending.returned (.bool b)) ?_,rfl⟩
  unfold U.indic
  rw[Bool.eq_iff_iff]
  simp at *
  try omega
theorem Indicator_is (q:Bool) (c:Int) (w:World) (h:U.indic c=q) :
  Calls Tryz.prog 150 #[.int .u8 c] w fun e w'=>e=.returned (.bool q)∧w=w':=by
 subst h;exact Indicator_any c w
set_option maxHeartbeats 400000 in
theorem Word_any (c:Int) (w:World) :
  Calls Tryz.prog 128 #[.int .u8 c] w fun e w'=>e=.returned (.bool (U.wordc c))∧w=w':=by
 go_enter Tryz.func128,Tryz.ntmps128
 go_wp2
 all_goals go_ret
 all_goals
  refine ⟨congrArg (fun b:Bool=>Ending.returned (.bool b)) ?_,rfl⟩
  unfold U.wordc
  rw[Bool.eq_iff_iff]
  simp at *
  try omega
set_option maxHeartbeats 1600000 in
theorem Uri_any (c:Int) (w:World) :
  Calls Tryz.prog 127 #[.int .u8 c] w fun e w'=>e=.returned (.bool (U.uri c))∧w=w':=by
 go_enter Tryz.func127,Tryz.ntmps127
 go_wp2_with (go_at_call 128;refine (Word_any _ _).mono ?_;rintro e w' ⟨rfl,rfl⟩)
 all_goals go_ret
 all_goals
  refine ⟨congrArg (fun b:Bool=>Ending.returned (.bool b)) ?_,rfl⟩
  unfold U.uri
  rw[Bool.eq_iff_iff]
  simp at *
  try omega
theorem Uri_is (q:Bool) (c:Int) (w:World) (h:U.uri c=q) :
  Calls Tryz.prog 127 #[.int .u8 c] w fun e w'=>e=.returned (.bool q)∧w=w':=by
 subst h;exact Uri_any c w
def endsB (s:ByteArray) (at':Int):Bool:=if at'<0∨(s.size:Int)≤at' then true else U.endc (byt s at'.toNat:Int)
theorem endsB_in (s:ByteArray) (k:Nat) (h:k<s.size):endsB s (k:Int)=U.endc (byt s k:Int):=by
 unfold endsB
 rw[if_neg (by omega)]
 rfl
theorem endsB_out (s:ByteArray) (at':Int) (h:at'<0∨(s.size:Int)≤at'):endsB s at'=true:=by
 unfold endsB
 rw[if_pos h]
def nameAt (s:ByteArray) (at':Int):Nat:=if at'<0 then 0 else U.nameL (s.data.toList.drop at'.toNat)
theorem nameAt_in (s:ByteArray) (k:Nat):nameAt s (k:Int)=U.nameL (s.data.toList.drop k):=by
 unfold nameAt
 rw[if_neg (by omega)]
 rfl
theorem nameAt_out (s:ByteArray) (at':Int) (h:at'<0∨(s.size:Int)≤at'):nameAt s at'=0:=by
 unfold nameAt
 split
 ·rfl
 ·rw[List.drop_eq_nil_of_le (by rw[←Lib.size_eq];omega)];rfl
theorem white_endc {b:Int}:U.endc b=(U.white b||b==10):=by
 unfold U.endc U.white
 rw[Bool.eq_iff_iff]
 simp
 omega
set_option maxHeartbeats 400000 in
theorem Ends_is (q:Bool) (s:ByteArray) (at':Int) (w:World) (_hs:s.size≤1099511627776) (h:endsB s at'=q) :
  Calls Tryz.prog 65 #[.string s,.int .i64 at'] w fun e w'=>e=.returned (.bool q)∧w=w':=by
 by_cases h1:at'<0
 ·rw[endsB_out s at' (.inl h1)] at h
  subst h
  go_enter Tryz.func65,Tryz.ntmps65
  go_wp2
  go_ret
  exact ⟨rfl,rfl⟩
 by_cases h2:(s.size:Int)≤at'
 ·rw[endsB_out s at' (.inr h2)] at h
  subst h
  go_enter Tryz.func65,Tryz.ntmps65
  go_wp2
  go_ret
  exact ⟨rfl,rfl⟩
 obtain ⟨k,rfl⟩:∃ k:Nat,at'=(k:Int):=⟨at'.toNat,by omega⟩
 have hk:k<s.size:=by omega
 rw[endsB_in s k hk] at h
 have hi:=run_byt s k hk _ rfl
 obtain ⟨b,hb⟩:∃ b:Nat,b=byt s k:=⟨_,rfl⟩
 rw[←hb] at h hi
 rw[white_endc] at h
 clear hb h1 h2
 have HQ:=Lib.hid h
 clear h
 cases h10:((b:Int)==10) with
 | true=>
  have F:=Lib.hid (show q=true by rw[←HQ.out,h10];simp)
  go_enter Tryz.func65,Tryz.ntmps65
  go_wp2
  go_ret
  exact ⟨by rw[F.out];rfl,rfl⟩
 | false=>
  have F:=Lib.hid (show U.white (b:Int)=q by rw[←HQ.out,h10];simp)
  go_enter Tryz.func65,Tryz.ntmps65
  go_wp2_with (go_at_call 57;refine (White_is q _ _ F.out).mono ?_;rintro e w' ⟨rfl,rfl⟩)
  go_ret
  exact ⟨rfl,rfl⟩
theorem name_stop (s:ByteArray) (e:Nat) (h:e<s.size) (hb:U.endc (byt s e:Int)=true∨U.flow (byt s e:Int)=true):U.nameL (s.data.toList.drop e)=0:=by
 obtain ⟨b,hd,hb2⟩:=drop_byte s e h
 rw[hd,U.nameL_cons,if_neg]
 unfold U.keeps
 rw[hb2]
 rcases hb with hb|hb <;> simp[hb]
theorem name_go (s:ByteArray) (e:Nat) (h:e<s.size) (h1:U.endc (byt s e:Int)=false) (h2:U.flow (byt s e:Int)=false):U.nameL (s.data.toList.drop e)=U.nameL (s.data.toList.drop (e+1))+1:=by
 obtain ⟨b,hd,hb2⟩:=drop_byte s e h
 rw[hd,U.nameL_cons,if_pos]
 unfold U.keeps
 rw[hb2,h1,h2]
 rfl
theorem name_over (s:ByteArray) (e:Nat) (h:¬ e<s.size):U.nameL (s.data.toList.drop e)=0:=by
 rw[List.drop_eq_nil_of_le (by rw[←Lib.size_eq];omega)];rfl
set_option maxHeartbeats 800000 in
theorem Name_is (n:Nat) (s:ByteArray) (at':Int) (w:World) (hs:s.size≤1099511627776) (h:nameAt s at'=n) :
  Calls Tryz.prog 86 #[.string s,.int .i64 at'] w fun e w'=>e=.returned (.int .i64 (n:Int))∧w=w':=by
 by_cases h1:at'<0∨(s.size:Int)≤at'
 ·rw[nameAt_out s at' h1] at h
  subst h
  have HE:=Lib.hid (endsB_out s at' h1)
  clear h1
  go_enter Tryz.func86,Tryz.ntmps86
  go_wp2
  refine wp_loop_rounds 1 ?_
  rw[rounds_succ]
  go_wp2_with (go_at_call 65;refine (Ends_is true s _ _ hs HE.out).mono ?_;rintro e w' ⟨rfl,rfl⟩)
  go_ret
  exact ⟨by simp,rfl⟩
 obtain ⟨p,rfl⟩:∃ p:Nat,at'=(p:Int):=⟨at'.toNat,by omega⟩
 have hp:p<s.size:=by omega
 rw[nameAt_in] at h
 clear h1
 have HN:=Lib.hid h
 clear h
 go_enter Tryz.func86,Tryz.ntmps86
 go_wp2
 go_loop [5] (fun i=>∃ e:Nat,i=.int .i64 (e:Int)∧p≤e∧e≤s.size∧Hid (U.nameL (s.data.toList.drop e)+(e-p)=n)) (fun i=>s.size-(intOf i).toNat)
 case atStart=>exact ⟨p,rfl,Nat.le_refl _,by omega,by show _=_;rw[HN.out];omega⟩
 case round=>
  obtain ⟨e,rfl,he1,he2,H⟩:=hrel
  by_cases hk:e<s.size
  ·have hi:=run_byt s e hk _ rfl
   have hin:=endsB_in s e hk
   have hst:=name_stop s e hk
   have hgo:=name_go s e hk
   have H2:=H.out
   obtain ⟨b,hb⟩:∃ b:Nat,b=byt s e:=⟨_,rfl⟩
   rw[←hb] at hi hin hst hgo
   clear hb
   cases hE:U.endc (b:Int) with
   | true=>
    rw[hE] at hin
    have HE:=Lib.hid hin
    rw[hst (.inl hE)] at H2
    have F:=Lib.hid (show ((e:Int)-(p:Int))=(n:Int) by omega)
    clear hin hst hgo H2 hE
    go_wp2_with (go_at_call 65;refine (Ends_is true s _ _ hs HE.out).mono ?_;rintro e w' ⟨rfl,rfl⟩)
    go_ret
    exact ⟨by rw[←F.out];rfl,rfl⟩
   | false=>
    rw[hE] at hin
    have HE:=Lib.hid hin
    cases hF:U.flow (b:Int) with
    | true=>
     have HF:=Lib.hid hF
     rw[hst (.inr hF)] at H2
     have F:=Lib.hid (show ((e:Int)-(p:Int))=(n:Int) by omega)
     clear hin hst hgo H2 hE hF
     go_wp2_with (first|(go_at_call 65;refine (Ends_is false s _ _ hs HE.out).mono ?_;rintro e w' ⟨rfl,rfl⟩)|(go_at_call 90;refine (Flow_is true _ _ HF.out).mono ?_;rintro e w' ⟨rfl,rfl⟩))
     go_ret
     exact ⟨by rw[←F.out];rfl,rfl⟩
    | false=>
     have HF:=Lib.hid hF
     rw[hgo hE hF] at H2
     have F:=Lib.hid H2
     clear hin hst hgo H2 hE hF
     go_wp2_with (first|(go_at_call 65;refine (Ends_is false s _ _ hs HE.out).mono ?_;rintro e w' ⟨rfl,rfl⟩)|(go_at_call 90;refine (Flow_is false _ _ HF.out).mono ?_;rintro e w' ⟨rfl,rfl⟩))
     go_round
     case rel=>exact ⟨e+1,by go_num,by omega,by omega,by show _=_;have:=F.out;omega⟩
     case measure=>simp[intOf];omega
  ·have HE:=Lib.hid (endsB_out s (e:Int) (.inr (by omega)))
   have H2:=H.out
   rw[name_over s e hk] at H2
   have F:=Lib.hid (show ((e:Int)-(p:Int))=(n:Int) by omega)
   clear H2
   go_wp2_with (go_at_call 65;refine (Ends_is true s _ _ hs HE.out).mono ?_;rintro e w' ⟨rfl,rfl⟩)
   go_ret
   exact ⟨by rw[←F.out];rfl,rfl⟩
end Go.Proofs.YthcmkpiajkbpnaaGreatDoor
namespace Go.Proofs.YthcmkpiajkbpnaaGreatDoor.U
def sfx (c:Int):Bool:=uri c&&!(decide (c=33))&&!(flow c)
def hx (b:UInt8):Bool:=decide (0≤cHexV b.toNat)
def pend (a:Nat):Nat:=if a=0 then 0 else 3-a
def tR (p:Int→Bool):Nat→List UInt8→Nat
 | _,[]=>0
 | 0,b :: l=>if p (b.toNat:Int)=true then (if b.toNat=37 then tR p 2 l else tR p 0 l+1) else 0
 | 1,b :: l=>if hx b=true then tR p 0 l+3 else 0
 | n+2,b :: l=>if hx b=true then tR p (n+1) l else 0
def tHand (l:List UInt8):Nat × Nat:=
 if (l.drop (tR wordc 0 l)).headD 0=33∧0<tR sfx 0 (l.drop (tR wordc 0 l+1)) then (tR wordc 0 l+2,tR sfx 0 (l.drop (tR wordc 0 l+1))) else (1,tR sfx 0 l)
def tBrac:List UInt8→Nat
 | []=>0
 | b :: m=>if b.toNat=60∧0<tR uri 0 m∧(m.drop (tR uri 0 m)).headD 0=62 then tR uri 0 m+3 else 0
def tSize:List UInt8→Nat
 | []=>0
 | b :: l=>if b.toNat=33 then (if 0<tBrac l then tBrac l else (tHand l).1+(tHand l).2) else 0
theorem tR_nil (p:Int→Bool) (a:Nat):tR p a []=0:=by cases a <;> rfl
theorem tR_zero (p:Int→Bool) (b:UInt8) (l:List UInt8):tR p 0 (b :: l)=if p (b.toNat:Int)=true then (if b.toNat=37 then tR p 2 l else tR p 0 l+1) else 0:=rfl
theorem tR_one (p:Int→Bool) (b:UInt8) (l:List UInt8):tR p 1 (b :: l)=if hx b=true then tR p 0 l+3 else 0:=rfl
theorem tR_two (p:Int→Bool) (b:UInt8) (l:List UInt8):tR p 2 (b :: l)=if hx b=true then tR p 1 l else 0:=rfl
theorem pend0:pend 0=0:=rfl
theorem pend1:pend 1=2:=rfl
theorem pend2:pend 2=1:=rfl
theorem three_of (a:Nat) (h:a≤2):a=0∨a=1∨a=2:=by omega
theorem tR_le (p:Int→Bool):∀ (l:List UInt8) (a:Nat),a≤2→tR p a l≤l.length+pend a:=by
 intro l
 induction l with
 | nil=>intro a _;rw[tR_nil];omega
 | cons b l ih=>
  intro a ha
  have h0:=ih 0 (by omega)
  have h1:=ih 1 (by omega)
  have h2:=ih 2 (by omega)
  rw[pend0] at h0
  rw[pend1] at h1
  rw[pend2] at h2
  rcases three_of a ha with rfl|rfl|rfl
  ·rw[tR_zero,pend0,List.length_cons]
   split
   ·split <;> omega
   ·omega
  ·rw[tR_one,pend1,List.length_cons];split <;> omega
  ·rw[tR_two,pend2,List.length_cons];split <;> omega
theorem tR_le0 (p:Int→Bool) (l:List UInt8):tR p 0 l≤l.length:=tR_le p l 0 (by omega)
def stops (p:Int→Bool) (r:List UInt8):Prop:=∀ b r',r=b :: r'→p (b.toNat:Int)=false
theorem tR_stop (p:Int→Bool) (r:List UInt8) (h:stops p r):tR p 0 r=0:=by
 cases r with
 | nil=>rfl
 | cons b r=>rw[tR_zero,if_neg (by simp[h b r rfl])]
theorem tR_take (p:Int→Bool) (r:List UInt8) (hr:stops p r):∀ (l:List UInt8) (a:Nat),a≤2→(a=0∨tR p a l≠0)→tR p a (l.take (tR p a l-pend a)++r)=tR p a l:=by
 intro l
 induction l with
 | nil=>
  intro a ha h
  rcases h with rfl|h
  ·simpa [tR_nil] using tR_stop p r hr
  ·exact absurd (tR_nil p a) h
 | cons b l ih=>
  intro a ha h
  have h0:=ih 0 (by omega) (.inl rfl)
  rw[pend0,Nat.sub_zero] at h0
  have h1:=ih 1 (by omega)
  have h2:=ih 2 (by omega)
  rw[pend1] at h1
  rw[pend2] at h2
  rcases three_of a ha with rfl|rfl|rfl
  ·rw[pend0,Nat.sub_zero]
   by_cases hp:p (b.toNat:Int)=true
   ·by_cases hb:b.toNat=37
    ·have e:tR p 0 (b :: l)=tR p 2 l:=by rw[tR_zero,if_pos hp,if_pos hb]
     rw[e]
     by_cases hz:tR p 2 l=0
     ·rw[hz];simpa using tR_stop p r hr
     ·obtain ⟨m,hm⟩:∃ m,tR p 2 l=m+1:=⟨tR p 2 l-1,by omega⟩
      have h2:=h2 (.inr hz)
      rw[hm,Nat.add_sub_cancel] at h2
      rw[hm,List.take_succ_cons,List.cons_append,tR_zero,if_pos hp,if_pos hb,h2]
    ·have e:tR p 0 (b :: l)=tR p 0 l+1:=by rw[tR_zero,if_pos hp,if_neg hb]
     rw[e,List.take_succ_cons,List.cons_append,tR_zero,if_pos hp,if_neg hb,h0]
   ·have e:tR p 0 (b :: l)=0:=by rw[tR_zero,if_neg hp]
    rw[e];simpa using tR_stop p r hr
  ·rcases h with h|h
   ·omega
   ·by_cases hb:hx b=true
    ·have e:tR p 1 (b :: l)=tR p 0 l+3:=by rw[tR_one,if_pos hb]
     rw[e,pend1,show tR p 0 l+3-2=tR p 0 l+1 by omega,List.take_succ_cons,List.cons_append,tR_one,if_pos hb,h0]
    ·exact absurd (by rw[tR_one,if_neg hb]) h
  ·rcases h with h|h
   ·omega
   ·by_cases hb:hx b=true
    ·have e:tR p 2 (b :: l)=tR p 1 l:=by rw[tR_two,if_pos hb]
     rw[e] at h ⊢
     have h1:=h1 (.inr h)
     have h3:3≤tR p 1 l:=by
      cases l with
      | nil=>exact absurd (tR_nil p 1) h
      | cons c l=>rw[tR_one] at h ⊢;split at h <;> simp_all
     rw[pend2,show tR p 1 l-1=tR p 1 l-2+1 by omega,List.take_succ_cons,List.cons_append,tR_two,if_pos hb,h1]
    ·exact absurd (by rw[tR_two,if_neg hb]) h
theorem tR_take0 (p:Int→Bool) (l r:List UInt8) (hr:stops p r):tR p 0 (l.take (tR p 0 l)++r)=tR p 0 l:=by
 have:=tR_take p r hr l 0 (by omega) (.inl rfl)
 rwa [pend0,Nat.sub_zero] at this
theorem hx_iff (b:UInt8):hx b=true↔0≤cHexV b.toNat:=by unfold hx;simp
theorem hx_range {b:UInt8} (h:hx b=true):(48≤b.toNat∧b.toNat≤57)∨(97≤b.toNat∧b.toNat≤102)∨(65≤b.toNat∧b.toNat≤70):=by
 rw[hx_iff] at h
 unfold cHexV at h
 split at h
 ·omega
 ·split at h
  ·omega
  ·split at h <;> omega
theorem hexV_le (c:Nat):-1≤cHexV c∧cHexV c≤15:=by
 unfold cHexV
 split
 ·omega
 ·split
  ·omega
  ·split <;> omega
theorem hexV_great (c:Nat) (h:128≤c):cHexV c=-1:=by
 unfold cHexV
 rw[if_neg (by omega),if_neg (by omega),if_neg (by omega)]
theorem sfx_parts {c:Int} (h:sfx c=true):uri c=true∧c≠33∧flow c=false:=by
 unfold sfx at h
 simp at h
 exact ⟨h.1.1,h.1.2,h.2⟩
theorem uri_ascii {c:Int} (h:uri c=true):32<c∧c<128:=by
 unfold uri at h
 simp only[decide_eq_true_eq] at h
 unfold wordc at h
 simp only[decide_eq_true_eq] at h
 omega
theorem wordc_ascii {c:Int} (h:wordc c=true):32<c∧c<128∧c≠37:=by
 unfold wordc at h
 simp only[decide_eq_true_eq] at h
 omega
theorem sfx_ascii {c:Int} (h:sfx c=true):32<c∧c<128:=uri_ascii (sfx_parts h).1
theorem sfx_no33:∀ (l:List UInt8) (a:Nat),a≤2→∀ b∈l.take (tR sfx a l-pend a),b≠33:=by
 intro l
 induction l with
 | nil=>intro a ha b hb;simp at hb
 | cons c l ih=>
  intro a ha b hb
  have h0:=ih 0 (by omega)
  have h1:=ih 1 (by omega)
  have h2:=ih 2 (by omega)
  rw[pend0,Nat.sub_zero] at h0
  rw[pend1] at h1
  rw[pend2] at h2
  have key:∀ m,b∈(c :: l).take m→c≠33→(b∈l.take (m-1)→b≠33)→b≠33:=by
   intro m hm hc hi
   cases m with
   | zero=>simp at hm
   | succ m=>
    rw[List.take_succ_cons,List.mem_cons] at hm
    rcases hm with rfl|hm
    ·exact hc
    ·exact hi (by simpa using hm)
  rcases three_of a ha with rfl|rfl|rfl
  ·rw[tR_zero,pend0,Nat.sub_zero] at hb
   by_cases hp:sfx (c.toNat:Int)=true
   ·have hc:c≠33:=by rintro rfl;exact absurd hp (by decide)
    rw[if_pos hp] at hb
    split at hb
    ·exact key _ hb hc (h2 b)
    ·exact key _ hb hc (h0 b)
   ·rw[if_neg hp] at hb;simp at hb
  ·rw[tR_one,pend1] at hb
   by_cases hp:hx c=true
   ·have hc:c≠33:=by rintro rfl;exact absurd hp (by decide)
    rw[if_pos hp] at hb
    exact key _ hb hc (by simpa using h0 b)
   ·rw[if_neg hp] at hb;simp at hb
  ·rw[tR_two,pend2] at hb
   by_cases hp:hx c=true
   ·have hc:c≠33:=by rintro rfl;exact absurd hp (by decide)
    rw[if_pos hp] at hb
    exact key _ hb hc (by rw[Nat.sub_sub];exact h1 b)
   ·rw[if_neg hp] at hb;simp at hb
theorem tHand_le (l:List UInt8):1≤(tHand l).1∧(tHand l).1+(tHand l).2≤l.length+1:=by
 unfold tHand
 split
 ·rename_i h
  have h1:=tR_le0 sfx (l.drop (tR wordc 0 l+1))
  have h2:=tR_le0 wordc l
  rw[List.length_drop] at h1
  refine ⟨by omega,?_⟩
  show tR wordc 0 l+2+tR sfx 0 (l.drop (tR wordc 0 l+1))≤_
  omega
 ·have:=tR_le0 sfx l
  refine ⟨Nat.le_refl _,?_⟩
  show 1+tR sfx 0 l≤_
  omega
theorem headD_pos {l:List UInt8} {k:Nat} {c:UInt8} (hc:c≠0) (h:(l.drop k).headD 0=c):k<l.length∧l.drop k=c :: l.drop (k+1):=by
 by_cases hk:k<l.length
 ·refine ⟨hk,?_⟩
  have e:=List.drop_eq_getElem_cons hk
  rw[e] at h
  rw[e]
  have h2:l[k]=c:=h
  rw[h2]
 ·rw[List.drop_eq_nil_of_le (by omega)] at h
  exact absurd h.symm hc
theorem tBrac_cons (b:UInt8) (m:List UInt8):tBrac (b :: m)=if b.toNat=60∧0<tR uri 0 m∧(m.drop (tR uri 0 m)).headD 0=62 then tR uri 0 m+3 else 0:=rfl
theorem tBrac_le (l:List UInt8):tBrac l≤l.length+1:=by
 cases l with
 | nil=>simp[tBrac]
 | cons b m=>
  rw[tBrac_cons]
  split
  ·rename_i h
   have:=(headD_pos (by decide) h.2.2).1
   simp only[List.length_cons];omega
  ·omega
theorem tSize_cons (b:UInt8) (l:List UInt8):tSize (b :: l)=if b.toNat=33 then (if 0<tBrac l then tBrac l else (tHand l).1+(tHand l).2) else 0:=rfl
theorem tSize_le (l:List UInt8):tSize l≤l.length:=by
 cases l with
 | nil=>exact Nat.le_refl _
 | cons b l=>
  rw[tSize_cons]
  have h1:=tBrac_le l
  have h2:=(tHand_le l).2
  rw[List.length_cons]
  split
  ·split <;> omega
  ·omega
theorem tHand_other (l:List UInt8) (h:(l.headD 0)=60):tHand l=(1,0):=by
 cases l with
 | nil=>simp at h
 | cons b m=>
  have hb:b=60:=h
  subst hb
  have hw:tR wordc 0 (60 :: m)=0:=by rw[tR_zero,if_neg (by decide)]
  have hs:tR sfx 0 (60 :: m)=0:=by rw[tR_zero,if_neg (by decide)]
  unfold tHand
  rw[hw,hs,List.drop_zero,if_neg (by intro h;exact absurd h.1 (by simp))]
theorem tBrac_head {l:List UInt8} (h:0<tBrac l):l.headD 0=60:=by
 cases l with
 | nil=>simp[tBrac] at h
 | cons b m=>
  rw[tBrac_cons] at h
  split at h
  ·rename_i h2
   exact UInt8.toNat_inj.1 h2.1
  ·omega
end Go.Proofs.YthcmkpiajkbpnaaGreatDoor.U
