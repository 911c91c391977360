/- Parts of the proof, put together from smaller texts (blanks that Lean does not want are struck). Conditions: those that each theorem writes out. -/
import Derived.Laws.Closers25
import Derived.Laws.Closers25b
import Derived.Laws.Strings3
import Derived.Lib.AtoiErrMem
import Derived.Lib.ConvBytes
import Derived.Lib.SlTrimSet
import Derived.Lib.Strings
import Derived.Test.YtncngeamdechmaaGreatDoorZ00
import Derived.Test.YtncngeamdechmaaGreatDoorZ02
import Derived.Test.YtncngeamdechmaaGreatDoorZ05
import Derived.Test.YtncngeamdechmaaGreatDoorZ06
import Derived.Test.YtncngeamdechmaaGreatDoorZ15
namespace Go.Proofs.YtncngeamdechmaaGreatDoor
open Go.RowKit
structure Env (w:World):Prop where
 maxI:MaxIs w
 syn:∃ ev,w.cell? ⟨3,0,none⟩=some ev∧(ev=.nilIface∨∃ te pe,ev=.iface te pe)
 tab:w.cell? ⟨7,15,none⟩=some (.int .u8 4)
theorem Env.below {w w':World} (h:Env w) (hb:Below w.heap.size w w'):Env w':=by
 obtain ⟨ev,hev,hor⟩:=h.syn
 exact ⟨h.maxI.below hb,⟨ev,by rw[hb.cell (World.block_lt_of_cell? w _ hev)];exact hev,hor⟩,by rw[hb.cell (World.block_lt_of_cell? w _ h.tab)];exact h.tab⟩
theorem lower_is (y c:Int) (w:World) (h:bits .or .u8 c 32=y) :
  Calls Tryz.prog 126 #[.int .u8 c] w fun e w'=>e=.returned (.int .u8 y)∧w=w':=by
 have H:=Lib.hid h
 clear h
 go_enter Tryz.func126,Tryz.ntmps126
 go_wp2
 go_ret
 exact ⟨by rw[←H.out];rfl,rfl⟩
theorem low_small (c:Nat) (h0:97≤c) (h1:c≤102):bits .or .u8 (c:Int) 32=(c:Int):=by
 have H:∀ x:Fin 256,97≤x.val→x.val≤102→bits .or .u8 ((x.val:Nat):Int) 32=((x.val:Nat):Int):=by decide +kernel
 exact H ⟨c,by omega⟩ h0 h1
theorem low_great (c:Nat) (h0:65≤c) (h1:c≤70):bits .or .u8 (c:Int) 32=((c+32:Nat):Int):=by
 have H:∀ x:Fin 256,65≤x.val→x.val≤70→bits .or .u8 ((x.val:Nat):Int) 32=((x.val+32:Nat):Int):=by decide +kernel
 exact H ⟨c,by omega⟩ h0 h1
theorem low_none (c:Nat) (hc:c<256) (h:U.hexv c=none):∃ y:Nat,bits .or .u8 (c:Int) 32=(y:Int)∧y<256∧(y<97∨102<y):=by
 have H:∀ x:Fin 256,U.hexv x.val=none→bits .or .u8 ((x.val:Nat):Int) 32=((bits .or .u8 ((x.val:Nat):Int) 32).toNat:Int)∧(bits .or .u8 ((x.val:Nat):Int) 32).toNat<256∧((bits .or .u8 ((x.val:Nat):Int) 32).toNat<97∨102<(bits .or .u8 ((x.val:Nat):Int) 32).toNat):=by decide +kernel
 obtain ⟨a,b,d⟩:=H ⟨c,hc⟩ h
 exact ⟨_,a,b,d⟩
theorem hexv_cases {c d:Nat} (h:U.hexv c=some d):(48≤c∧c≤57∧d=c-48)∨(97≤c∧c≤102∧d=c-87)∨(65≤c∧c≤70∧d=c-55):=by
 unfold U.hexv at h
 repeat' split at h
 all_goals first|(cases h;done)|(injection h with h;omega)
theorem hexv_not {c:Nat} (h:U.hexv c=none):¬ (48≤c∧c≤57):=by
 unfold U.hexv at h
 repeat' split at h
 all_goals first|(cases h;done)|omega
def puT (o:Option Nat):Value:=match o with
 | some v=>.tuple #[.int .u64 (v:Int),.nilIface]
 | none=>.tuple #[.int .u64 0,.iface 151 (.int .i64 2)]
set_option maxHeartbeats 8000000 in
set_option maxRecDepth 100000 in
theorem ParseUintI (o:Option Nat) (t:ByteArray) (hne:t.size≠0) (hmax:t.size≤8) (ho:U.hexs 0 t.data.toList=o) (w:World) :
  Calls Tryz.prog 124 #[.string t,.int .i64 16,.int .i64 32] w fun e w'=>e=.returned (puT o)∧Below w.heap.size w w':=by
 have hemp:t.toList.isEmpty=false:=by
  rw[←decide_eq_emptyBytes]
  exact decide_eq_false (fun h=>hne (by rw[h];rfl))
 have hcv:=Lib.run_convert_string_bytes (P:=Tryz.prog) w 9 110 5 t (u:=.string) Tryz.underlying9 Tryz.underlying110 Tryz.underlying5
 have hB:∀ j,j<t.size→(Lib.bytesWorld w 5 t).cell? ⟨w.heap.size,j,none⟩=some (.int .u8 (t.data.toList.getD j 0).toNat):=fun j hj=>Lib.bytesWorld_cell w 5 t j hj
 have hbel:Below w.heap.size w (Lib.bytesWorld w 5 t):=Lib.bytesWorld_below w 5 t
 obtain ⟨W1,hW1⟩:∃ W1,W1=Lib.bytesWorld w 5 t:=⟨_,rfl⟩
 rw[←hW1] at hcv hB hbel
 clear hW1
 obtain ⟨bs,hL⟩:∃ bs,bs=t.data.toList:=⟨_,rfl⟩
 have hLn:bs.length=t.size:=by rw[hL,Lib.size_eq]
 rw[←hL] at hB ho
 clear hL
 have hmv:IntKind.u64.wrap (IntKind.u64.wrap 4294967296-1)=4294967295:=by
  rw[IntKind.wrap_u64,IntKind.wrap_u64]
  decide
 have HO:=Lib.hid ho
 clear ho
 go_enter Tryz.func124,Tryz.ntmps124
 go_wp2
 go_loop [12,13,101] (fun vu vn vi=>∃ (k acc:Nat) (a:Int),vu=.bool false∧vn=.int .u64 a∧vi=.int .i64 k∧k≤t.size∧Hid (a=(acc:Int)∧U.hexs acc (bs.drop k)=o∧acc<16 ^ k))
  (fun _ _ vi=>t.size-(intOf vi).toNat)
 case atStart=>exact ⟨0,0,0,rfl,rfl,rfl,by omega,rfl,HO.out,by simp⟩
 case round=>
  obtain ⟨k,acc,a,rfl,rfl,rfl,hk,hh⟩:=hrel
  by_cases hkn:k<t.size
  ·have hc:=hB k hkn
   have hdrop:bs.drop k=bs[k]'(by omega) :: bs.drop (k+1):=List.drop_eq_getElem_cons (by omega)
   have hget:bs.getD k 0=bs[k]'(by omega):=by simp[List.getD,List.getElem?_eq_getElem (show k<bs.length by omega)]
   obtain ⟨ha,hdec,hpw⟩:=hh.out
   rw[hdrop] at hdec
   rw[hget] at hc
   generalize bs[k]'(by omega)=c at hc hdec
   have hc256:c.toNat<256:=c.toNat_lt
   have hp7:16 ^ k≤16 ^ 7:=Nat.pow_le_pow_right (by omega) (by omega)
   have a0:0≤a:=by omega
   have a1:a≤268435455:=by omega
   clear hB hdrop hget hh hp7
   cases hv:U.hexv c.toNat with
   | some d=>
    rw[U.hexs_some _ _ hv] at hdec
    have hd:=U.hexv_lt hv
    have hpw2:acc*16+d<16 ^ (k+1):=by rw[Nat.pow_succ];omega
    have HD:Hid (a*16+(d:Int)=((acc*16+d:Nat):Int)∧U.hexs (acc*16+d) (bs.drop (k+1))=o∧acc*16+d<16 ^ (k+1)):=⟨by omega,hdec,hpw2⟩
    have hcs:=hexv_cases hv
    clear hdec hpw hpw2 hv ha
    obtain ⟨x,hx⟩:∃ x,x=c.toNat:=⟨_,rfl⟩
    rw[←hx] at hc hc256 hcs
    clear hx
    rcases hcs with ⟨h0,h1,hdx⟩|⟨h0,h1,hdx⟩|⟨h0,h1,hdx⟩
    ·have e1:a*16+((x:Int)-48)=a*16+(d:Int):=by omega
     have E1:=Lib.hid e1
     clear e1 hdx hd
     go_wp2
     go_round
     case rel=>exact ⟨k+1,acc*16+d,_,rfl,rfl,by go_num,by omega,by rw[E1.out];exact HD.out⟩
     case measure=>simp[intOf];omega
    ·have hl:=low_small x h0 h1
     have e1:a*16+((x:Int)-97+10)=a*16+(d:Int):=by omega
     have E1:=Lib.hid e1
     have HL:=Lib.hid hl
     clear hl e1 hdx hd
     go_wp2_with (go_at_call 126;refine (lower_is (x:Int) _ _ HL.out).mono ?_;rintro e w' ⟨rfl,rfl⟩)
     go_round
     case rel=>exact ⟨k+1,acc*16+d,_,rfl,rfl,by go_num,by omega,by rw[E1.out];exact HD.out⟩
     case measure=>simp[intOf];omega
    ·have hl:=low_great x h0 h1
     obtain ⟨y,hy⟩:∃ y,y=x+32:=⟨_,rfl⟩
     rw[←hy] at hl
     have e1:a*16+((y:Int)-97+10)=a*16+(d:Int):=by omega
     have y0:97≤y:=by omega
     have y1:y≤102:=by omega
     have E1:=Lib.hid e1
     have HL:=Lib.hid hl
     clear hl e1 hdx hd hy
     go_wp2_with (go_at_call 126;refine (lower_is (y:Int) _ _ HL.out).mono ?_;rintro e w' ⟨rfl,rfl⟩)
     go_round
     case rel=>exact ⟨k+1,acc*16+d,_,rfl,rfl,by go_num,by omega,by rw[E1.out];exact HD.out⟩
     case measure=>simp[intOf];omega
   | none=>
    rw[U.hexs_none _ _ hv] at hdec
    have HD:=Lib.hid hdec
    obtain ⟨y,hy,hy1,hy2⟩:=low_none c.toNat hc256 hv
    have hnd:=hexv_not hv
    clear hdec hpw hv ha
    obtain ⟨x,hx⟩:∃ x,x=c.toNat:=⟨_,rfl⟩
    rw[←hx] at hc hc256 hy hnd
    clear hx
    have h95:(((x:Nat):Int)==95)=true∨(((x:Nat):Int)==95)=false:=by cases (((x:Nat):Int)==95) <;> simp
    have HY:=Lib.hid hy
    clear hy
    have hnd2:x<48∨57<x:=by omega
    clear hnd
    rcases h95 with h95|h95
    all_goals
     rcases hnd2 with hnd2|hnd2
     all_goals
      rcases hy2 with hy2|hy2
      all_goals
       go_wp2_with (go_at_call 126;refine (lower_is (y:Int) _ _ HY.out).mono ?_;rintro e w' ⟨rfl,rfl⟩)
       all_goals go_ret2
       all_goals exact ⟨by rw[←HD.out];rfl,hbel⟩
  ·have hkk:k=t.size:=by omega
   subst hkk
   obtain ⟨ha,hdec,_⟩:=hh.out
   rw[List.drop_eq_nil_of_le (by omega),U.hexs_nil] at hdec
   subst ha
   have HD:=Lib.hid hdec
   clear hdec hh
   go_wp2
   go_ret2
   exact ⟨by rw[←HD.out];rfl,hbel⟩
end Go.Proofs.YtncngeamdechmaaGreatDoor
namespace Go.Proofs.YtncngeamdechmaaGreatDoor
open Go.RowKit
def flagG (b:Bool):List (List UInt8)→List (List UInt8 × Bool)
 | []=>[]
 | r :: t=>(r,b&&t.isEmpty) :: flagG b t
theorem flagG_snoc (b:Bool) (x:List UInt8):∀ g,flagG b (g++[x])=flagG false g++[(x,b)]
 | []=>by simp[flagG]
 | r :: t=>by
  show (r,b&&(t++[x]).isEmpty) :: flagG b (t++[x])=(r,false&&t.isEmpty) :: flagG false t++[(x,b)]
  rw[flagG_snoc b x t]
  simp
def jGrp:List (List UInt8)→List UInt8
 | []=>U.flowT []
 | r :: t=>if r=[]∧t≠[] then 10 :: jGrp t else U.flowT (r :: t)
theorem jGrp_blank {t:List (List UInt8)} (h:t≠[]):jGrp ([] :: t)=10 :: jGrp t:=by rw[jGrp,if_pos ⟨rfl,h⟩]
theorem jGrp_row {r:List UInt8} {t:List (List UInt8)} (h:¬ (r=[]∧t≠[])):jGrp (r :: t)=U.flowT (r :: t):=by rw[jGrp,if_neg h]
def jRest:List (List (List UInt8))→List UInt8
 | []=>[]
 | g :: t=>jGrp g++jRest t
def jAll:List (List (List UInt8))→List UInt8
 | []=>[]
 | g :: t=>U.flowT g++jRest t
theorem flagG_ne {b:Bool} {g:List (List UInt8)} (rest:List (List UInt8 × Bool)) (h:g≠[]):flagG b g++rest≠[]:=by
 cases g with
 | nil=>exact absurd rfl h
 | cons r t=>simp[flagG]
theorem flagG_one (b:Bool) (r:List UInt8):flagG b [r]=[(r,b)]:=by simp[flagG]
theorem flagG_more (b:Bool) (r:List UInt8) {t:List (List UInt8)} (h:t≠[]):flagG b (r :: t)=(r,false) :: flagG b t:=by
 cases t with
 | nil=>exact absurd rfl h
 | cons r2 t=>simp[flagG]
theorem not_blank {b:Bool} {rest:List (List UInt8 × Bool)} {r:List UInt8} (hb:b=true∨rest=[]):¬ (r=[]∧b=false∧rest≠[]):=by
 rintro ⟨_,e1,e2⟩
 rcases hb with e|e
 ·rw[e] at e1;cases e1
 ·exact e2 e
theorem qGo_flag (b:Bool) (rest:List (List UInt8 × Bool)) (hb:b=true∨rest=[]):∀ (g:List (List UInt8)) (n:Nat),g≠[]→qGo n false (flagG b g++rest)=U.flowGo n g++qGo 0 b rest:=by
 intro g
 induction g with
 | nil=>intro n h;exact absurd rfl h
 | cons r t ih=>
  intro n _
  by_cases ht:t=[]
  ·subst ht
   rw[flagG_one,U.flowGo_row n (fun h=>h.2 rfl),U.flowGo_nil]
   show qGo n false ((r,b) :: rest)=_
   rw[qGo_row n false b rest (not_blank hb),if_neg (by decide)]
   simp
  ·rw[flagG_more b r ht]
   by_cases hr:r=[]
   ·subst hr
    show qGo n false (([],false) :: (flagG b t++rest))=_
    rw[qGo_blank n false (flagG_ne rest ht),U.flowGo_blank n ht,ih (n+1) ht]
   ·show qGo n false ((r,false) :: (flagG b t++rest))=_
    rw[qGo_row n false false _ (fun h=>hr h.1),U.flowGo_row n (fun h=>hr h.1),ih 0 ht,if_neg (by decide)]
    simp
theorem qGo_back (b:Bool) (rest:List (List UInt8 × Bool)) (hb:b=true∨rest=[]):∀ (g:List (List UInt8)) (n:Nat),g≠[]→qGo n true (flagG b g++rest)=U.feeds n++jGrp g++qGo 0 b rest:=by
 intro g
 induction g with
 | nil=>intro n h;exact absurd rfl h
 | cons r t ih=>
  intro n _
  by_cases ht:t=[]
  ·subst ht
   rw[flagG_one,jGrp_row (fun h=>h.2 rfl)]
   show qGo n true ((r,b) :: rest)=_
   rw[qGo_row n true b rest (not_blank hb),if_pos rfl]
   simp[U.flowT,U.flowGo_nil]
  ·rw[flagG_more b r ht]
   by_cases hr:r=[]
   ·subst hr
    show qGo n true (([],false) :: (flagG b t++rest))=_
    rw[qGo_blank n true (flagG_ne rest ht),jGrp_blank ht,ih (n+1) ht,U.feeds_succ]
    simp
   ·show qGo n true ((r,false) :: (flagG b t++rest))=_
    rw[qGo_row n true false _ (fun h=>hr h.1),jGrp_row (fun h=>hr h.1),qGo_flag b rest hb t 0 ht,if_pos rfl]
    simp[U.flowT]
theorem qT_first (b:Bool) (rest:List (List UInt8 × Bool)) (hb:b=true∨rest=[]) {g:List (List UInt8)} (hg:g≠[]):qT (flagG b g++rest)=U.flowT g++qGo 0 b rest:=by
 cases g with
 | nil=>exact absurd rfl hg
 | cons r t=>
  by_cases ht:t=[]
  ·subst ht
   rw[flagG_one]
   show r++qGo 0 b rest=_
   simp[U.flowT,U.flowGo_nil]
  ·rw[flagG_more b r ht]
   show r++qGo 0 false (flagG b t++rest)=_
   rw[qGo_flag b rest hb t 0 ht]
   simp[U.flowT]
theorem qGo_groups {op:List (List UInt8)} (ho:op≠[]):∀ cl:List (List (List UInt8)),(∀ g∈cl,g≠[])→qGo 0 true (cl.flatMap (flagG true)++flagG false op)=jRest (cl++[op])
 | [],_=>by
  have:=qGo_back false [] (.inr rfl) op 0 ho
  rw[List.append_nil] at this
  show qGo 0 true (flagG false op)=jGrp op++[]
  rw[this]
  simp[U.feeds,qGo]
 | g :: cl,h=>by
  show qGo 0 true (flagG true g++cl.flatMap (flagG true)++flagG false op)=jGrp g++jRest (cl++[op])
  rw[List.append_assoc,qGo_back true _ (.inl rfl) g 0 (h g (by simp)),qGo_groups ho cl (fun x hx=>h x (by simp[hx]))]
  simp[U.feeds]
theorem qT_groups {op:List (List UInt8)} (ho:op≠[]) {cl:List (List (List UInt8))} (h:∀ g∈cl,g≠[]):qT (cl.flatMap (flagG true)++flagG false op)=jAll (cl++[op]):=by
 cases cl with
 | nil=>
  have:=qT_first false [] (.inr rfl) ho
  rw[List.append_nil] at this
  show qT (flagG false op)=U.flowT op++[]
  rw[this]
  simp[qGo]
 | cons g cl=>
  show qT (flagG true g++cl.flatMap (flagG true)++flagG false op)=U.flowT g++jRest (cl++[op])
  rw[List.append_assoc,qT_first true _ (.inl rfl) (h g (by simp)),qGo_groups ho cl (fun x hx=>h x (by simp[hx]))]
def GR (cl:List (List (List UInt8))) (op:List (List UInt8)) (R:List (List UInt8 × Bool)):Prop:=R=cl.flatMap (flagG true)++flagG false op∧∀ g∈cl,g≠[]
theorem GR.nil:GR [] [] []:=⟨rfl,fun g h=>by simp at h⟩
theorem GR.lf {cl:List (List (List UInt8))} {op:List (List UInt8)} {R:List (List UInt8 × Bool)} (h:GR cl op R) (x:List UInt8):GR cl (op++[x]) (R++[(x,false)]):=
 ⟨by rw[h.1,flagG_snoc,List.append_assoc],h.2⟩
theorem GR.goes {cl:List (List (List UInt8))} {op:List (List UInt8)} {R:List (List UInt8 × Bool)} (h:GR cl op R) (x:List UInt8):GR (cl++[op++[x]]) [] (R++[(x,true)]):=
 ⟨by rw[h.1,List.flatMap_append];simp[flagG_snoc,flagG],fun g hg=>by
  rcases List.mem_append.1 hg with e|e
  ·exact h.2 g e
  ·rw[List.mem_singleton.1 e];simp⟩
theorem GR.done {cl:List (List (List UInt8))} {op:List (List UInt8)} {R:List (List UInt8 × Bool)} (h:GR cl op R) (x:List UInt8):qT (R++[(x,false)])=jAll (cl++[op++[x]]):=by
 rw[(h.lf x).1,qT_groups (by simp) (h.lf x).2]
theorem GR.one {cl:List (List (List UInt8))} {op:List (List UInt8)} {R:List (List UInt8 × Bool)} (h:GR cl op R):R.isEmpty=(decide (cl.length=0)&&decide (op.length=0)):=by
 rw[h.1]
 cases cl with
 | nil=>cases op with
  | nil=>rfl
  | cons r t=>simp[flagG]
 | cons g cl=>
  have:=h.2 g (by simp)
  cases g with
  | nil=>exact absurd rfl this
  | cons r t=>simp[flagG]
def RowS (s:ByteArray) (k p:Nat) (out t w:List UInt8):Prop:=
 ∃ u,pieceL s k p=u++w∧t=out++u∧k≤p∧(∀ b∈w,U.white (b.toNat:Int)=true)∧(u=[]∨∃ v b,u=v++[b]∧U.white (b.toNat:Int)=false)
theorem piece_snoc {s:ByteArray} {k p:Nat} (hk:k≤p) (hp:p<s.size):pieceL s k (p+1)=pieceL s k p++[bq s p]:=by
 unfold pieceL
 have hl:p<s.data.toList.length:=by rw[←Lib.size_eq];exact hp
 rw[show p+1-k=(p-k)+1 by omega,List.take_add_one,List.getElem?_drop,show k+(p-k)=p by omega]
 congr 1
 unfold bq
 rw[List.getElem?_eq_getElem hl]
 simp[List.getD,List.getElem?_eq_getElem hl]
theorem piece_self (s:ByteArray) (k:Nat):pieceL s k k=[]:=by unfold pieceL;simp
theorem RowS.start (s:ByteArray) (k:Nat) (out:List UInt8):RowS s k k out out []:=⟨[],by rw[piece_self];rfl,by simp,Nat.le_refl _,fun b h=>by simp at h,.inl rfl⟩
theorem RowS.white {s:ByteArray} {k p:Nat} {out t w:List UInt8} (h:RowS s k p out t w) (hp:p<s.size) (hw:U.white (byt s p:Int)=true):RowS s k (p+1) out t (w++[bq s p]):=by
 obtain ⟨u,h1,h2,h3,h4,h5⟩:=h
 refine ⟨u,by rw[piece_snoc h3 hp,h1,List.append_assoc],h2,by omega,fun b hb=>?_,h5⟩
 rcases List.mem_append.1 hb with e|e
 ·exact h4 b e
 ·rw[List.mem_singleton.1 e,show (bq s p).toNat=byt s p from (byt_list s p).symm];exact hw
theorem RowS.lit {s:ByteArray} {k p:Nat} {out t w:List UInt8} (h:RowS s k p out t w) (hp:p<s.size) (hw:U.white (byt s p:Int)=false):RowS s k (p+1) out (t++w++[bq s p]) []:=by
 obtain ⟨u,h1,h2,h3,h4,h5⟩:=h
 refine ⟨u++w++[bq s p],by rw[piece_snoc h3 hp,h1,List.append_nil],by rw[h2];simp,by omega,fun b hb=>by simp at hb,.inr ⟨_,_,rfl,?_⟩⟩
 rw[show (bq s p).toNat=byt s p from (byt_list s p).symm];exact hw
theorem RowS.all {s:ByteArray} {k p:Nat} {out t w:List UInt8} (h:RowS s k p out t w):out++pieceL s k p=t++w:=by
 obtain ⟨u,h1,h2,_⟩:=h
 rw[h1,h2,List.append_assoc]
theorem RowS.trim {s:ByteArray} {k p:Nat} {out t w:List UInt8} (h:RowS s k p out t w):out++Lib.trimRightS (pieceL s k p) [32,9]=t:=by
 obtain ⟨u,h1,h2,_,h4,h5⟩:=h
 rw[h1,h2]
 congr 1
 unfold Lib.trimRightS
 rw[List.reverse_append,List.dropWhile_append_of_pos (fun b hb=>by rw[white_in];exact h4 b (List.mem_reverse.1 hb))]
 rcases h5 with rfl|⟨v,b,rfl,hb⟩
 ·rfl
 ·rw[List.reverse_append]
  show (List.dropWhile _ (b :: v.reverse)).reverse=_
  rw[List.dropWhile_cons_of_neg (by rw[white_in,hb];decide)]
  simp
end Go.Proofs.YtncngeamdechmaaGreatDoor
