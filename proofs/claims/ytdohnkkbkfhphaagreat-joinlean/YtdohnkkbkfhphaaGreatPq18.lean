import Derived.Shelf.SlIter.Nil
import Derived.Shelf.SortM.Plain
import Derived.Shelf.SortM.SortNone
import Derived.Test.YtdohnkkbkfhphaaGreatPq4
import Derived.Maps.Ext
set_option linter.all false
set_option maxHeartbeats 8000000
set_option maxRecDepth 100000
namespace Go.Proofs
open Go.RowKit Go.Maps Go.Sort Go.Shelf
def Tryz.keys178_ren:Go.Shelf.Ren:=⟨fun|7=>178|10=>211|n=>n,fun|23=>115|26=>9|3=>3|28=>222|0=>0|27=>221|33=>256|4=>4|n=>n,fun|n=>n⟩
theorem Tryz.keys178:Go.Proofs.SlLaysZ.n7 Tryz.prog Tryz.keys178_ren:={
 mixed:=by kernel_rfl
 f7:=⟨Tryz.f178.name,by decide,Tryz.func178.trans (congrArg some (by kernel_rfl))⟩
 f10:=⟨Tryz.f211.name,by decide,Tryz.func211.trans (congrArg some (by kernel_rfl))⟩
 t0:=Tryz.underlying0
 a0:=Tryz.isAgg0
 z0:=Tryz.sizeOf0
 v0:=Tryz.zeroValue0
 t4:=Tryz.underlying4
 a4:=Tryz.isAgg4
 z4:=Tryz.sizeOf4
 v4:=Tryz.zeroValue4
 t23:=Tryz.underlying115
 a23:=Tryz.isAgg115
 z23:=Tryz.sizeOf115
 v23:=Tryz.zeroValue115
 t26:=Tryz.underlying9
 a26:=Tryz.isAgg9
 z26:=Tryz.sizeOf9
 v26:=Tryz.zeroValue9
 t27:=Tryz.underlying221
 a27:=Tryz.isAgg221
 z27:=Tryz.sizeOf221
 v27:=Tryz.zeroValue221
 t28:=Tryz.underlying222
 a28:=Tryz.isAgg222
 z28:=Tryz.sizeOf222
 v28:=Tryz.zeroValue222
 t33:=Tryz.underlying256
 a33:=Tryz.isAgg256
 z33:=Tryz.sizeOf256
 v33:=Tryz.zeroValue256}
def Tryz.sorted177_ren:Go.Shelf.Ren:=⟨fun|6=>177|8=>209|9=>210|11=>219|13=>163|12=>220|23=>203|24=>204|14=>224|15=>225|16=>226|17=>227|18=>228|19=>229|20=>230|21=>231|22=>232|25=>233|26=>214|27=>215|28=>234|29=>235|30=>236|31=>237|n=>n,fun|26=>9|28=>222|24=>118|0=>0|3=>3|37=>211|48=>251|50=>253|4=>4|40=>244|39=>243|45=>248|5=>5|9=>9|51=>259|55=>193|57=>269|58=>270|33=>256|n=>n,fun|n=>n⟩
theorem Tryz.sorted177:Go.Proofs.SlLaysZ.n6 Tryz.prog Tryz.sorted177_ren:={
 mixed:=by kernel_rfl
 f6:=⟨Tryz.f177.name,by decide,Tryz.func177.trans (congrArg some (by kernel_rfl))⟩
 f8:=⟨Tryz.f209.name,by decide,Tryz.func209.trans (congrArg some (by kernel_rfl))⟩
 f11:=⟨Tryz.f219.name,by decide,Tryz.func219.trans (congrArg some (by kernel_rfl))⟩
 t0:=Tryz.underlying0
 a0:=Tryz.isAgg0
 z0:=Tryz.sizeOf0
 v0:=Tryz.zeroValue0
 t24:=Tryz.underlying118
 a24:=Tryz.isAgg118
 z24:=Tryz.sizeOf118
 v24:=Tryz.zeroValue118
 t26:=Tryz.underlying9
 a26:=Tryz.isAgg9
 z26:=Tryz.sizeOf9
 v26:=Tryz.zeroValue9
 t28:=Tryz.underlying222
 a28:=Tryz.isAgg222
 z28:=Tryz.sizeOf222
 v28:=Tryz.zeroValue222
 i26:=by kernel_rfl}
def Tryz.sort210_ren:Go.Shelf.Ren:=⟨fun|6=>210|8=>163|9=>220|19=>203|20=>204|21=>224|22=>225|23=>226|24=>227|25=>228|26=>229|27=>230|28=>231|29=>232|36=>233|31=>214|32=>215|37=>234|38=>235|39=>236|41=>237|n=>n,fun|27=>118|29=>9|3=>3|32=>211|26=>118|0=>0|44=>251|46=>253|4=>4|36=>244|35=>243|41=>248|5=>5|9=>9|53=>259|57=>193|63=>269|64=>270|n=>n,fun|n=>n⟩
theorem Tryz.sort210:Go.Proofs.SlLaysM.n6 Tryz.prog Tryz.sort210_ren:={
 mixed:=by kernel_rfl
 f6:=⟨Tryz.f210.name,by decide,Tryz.func210.trans (congrArg some (by kernel_rfl))⟩
 f8:=Tryz.func163.trans (congrArg some (by kernel_rfl))
 f9:=⟨Tryz.f220.name,by decide,Tryz.func220.trans (congrArg some (by kernel_rfl))⟩
 f19:=Tryz.func203.trans (congrArg some (by kernel_rfl))
 f20:=Tryz.func204.trans (congrArg some (by kernel_rfl))
 f21:=⟨Tryz.f224.name,by decide,Tryz.func224.trans (congrArg some (by kernel_rfl))⟩
 f22:=⟨Tryz.f225.name,by decide,Tryz.func225.trans (congrArg some (by kernel_rfl))⟩
 f23:=⟨Tryz.f226.name,by decide,Tryz.func226.trans (congrArg some (by kernel_rfl))⟩
 f24:=⟨Tryz.f227.name,by decide,Tryz.func227.trans (congrArg some (by kernel_rfl))⟩
 f25:=⟨Tryz.f228.name,by decide,Tryz.func228.trans (congrArg some (by kernel_rfl))⟩
 f26:=⟨Tryz.f229.name,by decide,Tryz.func229.trans (congrArg some (by kernel_rfl))⟩
 f27:=⟨Tryz.f230.name,by decide,Tryz.func230.trans (congrArg some (by kernel_rfl))⟩
 f28:=⟨Tryz.f231.name,by decide,Tryz.func231.trans (congrArg some (by kernel_rfl))⟩
 f29:=⟨Tryz.f232.name,by decide,Tryz.func232.trans (congrArg some (by kernel_rfl))⟩
 f31:=Tryz.func214.trans (congrArg some (by kernel_rfl))
 f32:=Tryz.func215.trans (congrArg some (by kernel_rfl))
 f36:=⟨Tryz.f233.name,by decide,Tryz.func233.trans (congrArg some (by kernel_rfl))⟩
 f37:=⟨Tryz.f234.name,by decide,Tryz.func234.trans (congrArg some (by kernel_rfl))⟩
 f38:=⟨Tryz.f235.name,by decide,Tryz.func235.trans (congrArg some (by kernel_rfl))⟩
 f39:=⟨Tryz.f236.name,by decide,Tryz.func236.trans (congrArg some (by kernel_rfl))⟩
 f41:=⟨Tryz.f237.name,by decide,Tryz.func237.trans (congrArg some (by kernel_rfl))⟩
 t0:=Tryz.underlying0
 a0:=Tryz.isAgg0
 z0:=Tryz.sizeOf0
 v0:=Tryz.zeroValue0
 t3:=Tryz.underlying3
 a3:=Tryz.isAgg3
 z3:=Tryz.sizeOf3
 v3:=Tryz.zeroValue3
 t4:=Tryz.underlying4
 a4:=Tryz.isAgg4
 z4:=Tryz.sizeOf4
 v4:=Tryz.zeroValue4
 t5:=Tryz.underlying5
 a5:=Tryz.isAgg5
 z5:=Tryz.sizeOf5
 v5:=Tryz.zeroValue5
 t9:=Tryz.underlying9
 a9:=Tryz.isAgg9
 z9:=Tryz.sizeOf9
 v9:=Tryz.zeroValue9
 t26:=Tryz.underlying118
 a26:=Tryz.isAgg118
 z26:=Tryz.sizeOf118
 v26:=Tryz.zeroValue118
 t27:=Tryz.underlying118
 a27:=Tryz.isAgg118
 z27:=Tryz.sizeOf118
 v27:=Tryz.zeroValue118
 t29:=Tryz.underlying9
 a29:=Tryz.isAgg9
 z29:=Tryz.sizeOf9
 v29:=Tryz.zeroValue9
 t32:=Tryz.underlying211
 a32:=Tryz.isAgg211
 z32:=Tryz.sizeOf211
 v32:=Tryz.zeroValue211
 t35:=Tryz.underlying243
 a35:=Tryz.isAgg243
 z35:=Tryz.sizeOf243
 v35:=Tryz.zeroValue243
 t36:=Tryz.underlying244
 a36:=Tryz.isAgg244
 z36:=Tryz.sizeOf244
 v36:=Tryz.zeroValue244
 t41:=Tryz.underlying248
 a41:=Tryz.isAgg248
 z41:=Tryz.sizeOf248
 v41:=Tryz.zeroValue248
 t44:=Tryz.underlying251
 a44:=Tryz.isAgg251
 z44:=Tryz.sizeOf251
 v44:=Tryz.zeroValue251
 t46:=Tryz.underlying253
 a46:=Tryz.isAgg253
 z46:=Tryz.sizeOf253
 v46:=Tryz.zeroValue253
 t53:=Tryz.underlying259
 a53:=Tryz.isAgg259
 z53:=Tryz.sizeOf259
 v53:=Tryz.zeroValue259
 t57:=Tryz.underlying193
 a57:=Tryz.isAgg193
 z57:=Tryz.sizeOf193
 v57:=Tryz.zeroValue193
 t63:=Tryz.underlying269
 a63:=Tryz.isAgg269
 z63:=Tryz.sizeOf269
 v63:=Tryz.zeroValue269
 t64:=Tryz.underlying270
 a64:=Tryz.isAgg270
 z64:=Tryz.sizeOf270
 v64:=Tryz.zeroValue270}
theorem Tryz.sorts177(m:Nat):AnyZ.SortsIn Tryz.prog Tryz.sorted177_ren Fence.wide m:=
 ⟨fun blk off cap ss W hH hblk hsz=>callsIn_wide.2 (AnyM.slices_Sort_string Tryz.sort210 blk off cap ss W hH hblk hsz),
  fun p cap W=>callsIn_wide.2 (AnyM.slices_Sort_string_none Tryz.sort210 p cap W)⟩
theorem Tryz.maps_Keys_178(mb:Option Nat)(W:World):CallsIn Fence.wide 5 Tryz.prog 178 #[.map mb] W fun e w'=>e= .returned (.func (.func 211) #[] #[.pointer (some ⟨W.heap.size,0,none⟩)])/\w'=W.alloc (.cells #[.map mb] 115):=
 AnyZ.keys_in Tryz.keys178 Fence.wide 5 trivial rfl mb W
theorem Tryz.slices_Sorted_keys_177_178{H:Type}(b nn:Nat)(D0:DataW H)(R:Value->Option (DataW H×List MemPlace))(w:World)(hown:w.ownsMap Tryz.prog 9 R b nn D0)(hmax:Maps.size D0<=maxLen)(hbytes:Maps.size D0 * 16<=140737488355328):
 CallsIn Fence.wide 5 Tryz.prog 177 #[.func (.func 211) #[] #[.pointer (some ⟨w.heap.size,0,none⟩)]] (w.alloc (.cells #[.map (some b)] 115)) fun e w'=> ∃(v:Value) (ss:List (List UInt8)),e= .returned v/\ss.Perm (strKeys D0)/\
  w'.ownsRow (w.alloc (.cells #[.map (some b)] 115)).heap.size 9 1 v ss.length ((ss.mergeSort (fun x y=>decide (x<=y))).map encStr)/\(v= .slice none 0 0↔ss=[])/\Below (w.alloc (.cells #[.map (some b)] 115)).heap.size (w.alloc (.cells #[.map (some b)] 115)) w':=by
 have hbl:=hown.lt
 have hseq:SeqGives Fence.wide 2 Tryz.prog 211 #[.pointer (some ⟨w.heap.size,0,none⟩)] encStr (fun ss=>ss.Perm (strKeys D0)) (Maps.size D0) (w.alloc (.cells #[.map (some b)] 115)):=
  AnyZ.keys_gives (ρ:=Tryz.keys178_ren) {Tryz.keys178 with} Fence.wide _ trivial rfl (by omega) w.heap.size b nn D0 _ (by simp) (by simp) (by
   obtain⟨es,clock,hb,Ft,hs,hD⟩:=hown
   exact⟨es,clock,(Below.heap_alloc _ _ b hbl).trans hb,Ft,hs,hD⟩)
 exact AnyZ.sorted_in Tryz.sorted177 Fence.wide 5 trivial trivial trivial trivial rfl (by omega) (Tryz.sorts177 _) (enters_of Tryz.func210 (by kernel_rfl) rfl) 211 #[.pointer (some ⟨w.heap.size,0,none⟩)] trivial (enters_of Tryz.func211 (by kernel_rfl) rfl) _ _ hmax hbytes _ hseq
end Go.Proofs
namespace Go.Proofs.YtdohnkkbkfhphaaGreat.ch
open Go.Proofs.Tryz
open Go.ChangeShapes Go.WideShapes Go.ChangeAt Go.RowKit Go.Maps
open Go.WideAt Go.WideElems Go.WideMaps
abbrev KV:=List (List UInt8×Int)
def insK(x:List UInt8×Int):KV->KV
 |[]=>[x]
 |y::r=>if bytesBefore x.1 y.1 then x::y::r else y::insK x r
def GB(kv:KV)(k:List UInt8):KV:=kv.filter fun p=> !(p.1==k)
def Ht(kv:KV)(k:List UInt8)(n:Int):KV:=insK (k,n) (GB kv k)
def Dl(kv:KV)(k:List UInt8):Int:=match kv.find? (fun p=>p.1==k)with|some p=>p.2|none=>0
def ent(p:List UInt8×Int):Lit×DataW Unit:=(.string p.1,.lit (.int .i64 p.2))
def toD(kv:KV):DataW Unit:=.map (kv.map ent)
theorem Vn(x:List UInt8×Int)(l:KV):(insK x l).map ent=DataW.insert (ent x) (l.map ent):=by
 induction l with
 |nil=>rfl
 |cons y r ih=>
  rw[insK,List.map_cons,DataW.insert]
  have e:(ent x).1.before (ent y).1=bytesBefore x.1 y.1:=rfl
  rw[e]
  split
  ·rfl
  ·rw[List.map_cons,ih]
theorem Qq(l:KV)(k:List UInt8):(GB l k).map ent=(l.map ent).filter fun p=> !p.1.sameKey (.string k):=by
 unfold GB
 rw[List.filter_map]
 rfl
theorem Mv(kv:KV)(k:List UInt8)(n:Int):(toD kv).put (.string k) (.lit (.int .i64 n))=toD (Ht kv k n):=by
 unfold toD Ht
 rw[Vn,Qq]
 rfl
theorem Vo(kv:KV)(k:List UInt8):(toD kv).del (.string k)=toD (GB kv k):=by
 unfold toD
 rw[Qq]
 rfl
theorem WD(kv:KV)(k:List UInt8):(toD kv).atKey (.string k) (.lit (.int .i64 0))= .lit (.int .i64 (Dl kv k)):=by
 unfold toD DataW.atKey Dl
 simp only[List.find?_map]
 have e:((fun p:Lit×DataW Unit=>p.1.sameKey (.string k))∘ent)=fun p=>p.1==k:=rfl
 rw[e]
 cases kv.find? (fun p=>p.1==k)<;>rfl
theorem Hu(kv:KV):Maps.size (toD kv)=kv.length:=by
 unfold toD;rw[Maps.size_eq,lMp]
theorem law:Keyed Tryz.prog 9:=string_keyed underlying9
theorem JY(w:World):(zeroValue 3).run Tryz.prog w= .ok (.int .i64 0) w:=by kernel_rfl
def CA(w:World)(B nn:Nat)(kv:KV):Prop:=w.ownsMap Tryz.prog 9 (plainElem (H:=Unit) Tryz.prog 3) B nn (toD kv)
theorem Ff{kv:KV}{k:List UInt8}{c:Int}(h:(toD kv).atKey (.string k) (.lit (.int .i64 0))= .lit (.int .i64 c)):c=Dl kv k:=by
 rw[WD]at h
 injection h with h
 injection h with _ h
 exact h.symm
def Vp(kv:KV)(k:List UInt8)(n:Int):Int:=
 if Dl kv k+n<0 then 9 else if 1073741824<Dl kv k+n then 2 else if Dl kv k+n=0 then 0 else if Dl kv k=0/\kv.length=4096 then 2 else 0
def Pt(kv:KV)(k:List UInt8)(n:Int):KV:=
 if Dl kv k+n<0 then kv else if 1073741824<Dl kv k+n then kv else if Dl kv k+n=0 then GB kv k else if Dl kv k=0/\kv.length=4096 then kv else Ht kv k (Dl kv k+n)
theorem Vq(B nn:Nat)(kv:KV)(k:ByteArray)(n:Int)(w:World)(hm:CA w B nn kv)(hk:k.size<=maxLen)(hnn:nn<maxLen)
 (h1: -1152921504606846976<=Dl kv k.data.toList) (h2:Dl kv k.data.toList<=1152921504606846976) (n1: -1152921504606846976<=n) (n2:n<=1152921504606846976) (hlen:kv.length<=1152921504606846976):
 Calls Tryz.prog 71 #[.map (some B),.string k,.int .i64 n] w fun e w'=>e= .returned (.int .i64 (Vp kv k.data.toList n))/\CA w' B (nn+1) (Pt kv k.data.toList n)/\w.grownBy w' (some B):=by
 have HM:Hid (CA w B nn kv):=hm
 obtain⟨h,hh⟩:∃h,Dl kv k.data.toList=h:=⟨_,rfl⟩
 have HH:Hid (Dl kv k.data.toList=h):=hh
 rw[hh]at h1 h2
 unfold Vp Pt
 rw[hh]
 clear hh hm
 by_cases c1:h+n<0
 ·rw[if_pos c1,if_pos c1]
  go_enter func71,ntmps71
  go_wp2_with (at_lookup;refine wpList_lookup_own_int _ rfl (.tmp 9) (.tmp 10) 115 rfl 9 3 .i64 law underlying115 underlying3 (JY _) B nn _ rfl HM.out _ (.string k.data.toList) rfl (keyOf_string_mk underlying9 hk) ?_;intro c hat hwc;have hc:c=h:=(Ff hat).trans HH.out;clear hat;subst hc)
  go_ret
  exact⟨rfl,HM.out.mono (by omega),World.grownBy.refl _ _⟩
 ·rw[if_neg c1,if_neg c1]
  by_cases c2:1073741824<h+n
  ·rw[if_pos c2,if_pos c2]
   go_enter func71,ntmps71
   go_wp2_with (at_lookup;refine wpList_lookup_own_int _ rfl (.tmp 9) (.tmp 10) 115 rfl 9 3 .i64 law underlying115 underlying3 (JY _) B nn _ rfl HM.out _ (.string k.data.toList) rfl (keyOf_string_mk underlying9 hk) ?_;intro c hat hwc;have hc:c=h:=(Ff hat).trans HH.out;clear hat;subst hc)
   go_ret
   exact⟨rfl,HM.out.mono (by omega),World.grownBy.refl _ _⟩
  ·rw[if_neg c2,if_neg c2]
   by_cases c3:h+n=0
   ·rw[if_pos c3,if_pos c3]
    have c3':(h+n==0)=true:=by rw[beq_iff_eq];exact c3
    have HC3:Hid (h+n=0):=c3
    clear c3
    go_enter func71,ntmps71
    go_wp2_with (first
     |(at_lookup;refine wpList_lookup_own_int _ rfl (.tmp 9) (.tmp 10) 115 rfl 9 3 .i64 law underlying115 underlying3 (JY _) B nn _ rfl HM.out _ (.string k.data.toList) rfl (keyOf_string_mk underlying9 hk) ?_;intro c hat hwc;have hc:c=h:=(Ff hat).trans HH.out;clear hat;subst hc)
     |(at_delete;refine wpList_delete_own _ rfl (.tmp 24) (.tmp 25) 115 9 rfl 3 law underlying115 _ B nn _ rfl HM.out _ (.string k.data.toList) rfl (keyOf_string_mk underlying9 hk) ?_;intro w1 hown1 hturn1))
    go_ret
    exact⟨rfl,by rw[Vo]at hown1;exact hown1.mono (by omega),hturn1.grown⟩
   ·rw[if_neg c3,if_neg c3]
    have c3':(h+n==0)=false:=by rw[beq_eq_false_iff_ne];exact c3
    by_cases c4:h=0
    ·have c4':(h==0)=true:=by rw[beq_iff_eq];exact c4
     have HC4:Hid (h=0):=c4
     clear c4
     have hlx:=fun ty=>HM.out.len underlying115 ty
     simp only[Hu]at hlx
     by_cases c5:kv.length=4096
     ·have c5':((kv.length:Int)==4096)=true:=by rw[beq_iff_eq];omega
      rw[if_pos ⟨HC4.out,c5⟩,if_pos ⟨HC4.out,c5⟩]
      clear c5
      go_enter func71,ntmps71
      go_wp2_with (first
       |(at_lookup;refine wpList_lookup_own_int _ rfl (.tmp 9) (.tmp 10) 115 rfl 9 3 .i64 law underlying115 underlying3 (JY _) B nn _ rfl HM.out _ (.string k.data.toList) rfl (keyOf_string_mk underlying9 hk) ?_;intro c hat hwc;have hc:c=h:=(Ff hat).trans HH.out;clear hat;subst hc))
      go_ret
      exact⟨rfl,HM.out.mono (by omega),World.grownBy.refl _ _⟩
     ·have c5':((kv.length:Int)==4096)=false:=by rw[beq_eq_false_iff_ne];omega
      rw[if_neg (fun h=>c5 h.2),if_neg (fun h=>c5 h.2)]
      go_enter func71,ntmps71
      go_wp2_with (first
       |(at_lookup;refine wpList_lookup_own_int _ rfl (.tmp 9) (.tmp 10) 115 rfl 9 3 .i64 law underlying115 underlying3 (JY _) B nn _ rfl HM.out _ (.string k.data.toList) rfl (keyOf_string_mk underlying9 hk) ?_;intro c hat hwc;have hc:c=h:=(Ff hat).trans HH.out;clear hat;subst hc)
       |(at_mapUpdate;refine wpList_mapUpdate_own _ rfl (.tmp 34) (.tmp 35) (.tmp 36) 115 rfl 9 3 law underlying115 _ B nn _ rfl HM.out hnn _ _ (.string k.data.toList) rfl rfl (keyOf_string_mk underlying9 hk) _ [] (plainElem_int underlying3 (WalkArith.wf_i64 (by omega))) ?_;intro w1 hown1 hgrow1))
      go_ret
      exact⟨rfl,by rw[Mv]at hown1;exact hown1,hgrow1⟩
    ·have c4':(h==0)=false:=by rw[beq_eq_false_iff_ne];exact c4
     rw[if_neg (fun h=>c4 h.1),if_neg (fun h=>c4 h.1)]
     go_enter func71,ntmps71
     go_wp2_with (first
      |(at_lookup;refine wpList_lookup_own_int _ rfl (.tmp 9) (.tmp 10) 115 rfl 9 3 .i64 law underlying115 underlying3 (JY _) B nn _ rfl HM.out _ (.string k.data.toList) rfl (keyOf_string_mk underlying9 hk) ?_;intro c hat hwc;have hc:c=h:=(Ff hat).trans HH.out;clear hat;subst hc)
      |(at_mapUpdate;refine wpList_mapUpdate_own _ rfl (.tmp 34) (.tmp 35) (.tmp 36) 115 rfl 9 3 law underlying115 _ B nn _ rfl HM.out hnn _ _ (.string k.data.toList) rfl rfl (keyOf_string_mk underlying9 hk) _ [] (plainElem_int underlying3 (WalkArith.wf_i64 (by omega))) ?_;intro w1 hown1 hgrow1))
     go_ret
     exact⟨rfl,by rw[Mv]at hown1;exact hown1,hgrow1⟩
end Go.Proofs.YtdohnkkbkfhphaaGreat.ch
namespace Go.Proofs.YtdohnkkbkfhphaaGreat.ch
open Go.ChangeShapes Go.WideShapes Go.ChangeAt Go.RowKit Go.Maps Go.Sort
def rising(kv:KV):Prop:=kv.Pairwise fun p q=>bytesBefore p.1 q.1=true
theorem CY:∀(a b:List UInt8),bytesBefore a b=decide (a<b)
 |[],[]=>by simp[bytesBefore]
 |[],_::_=>by simp[bytesBefore]
 |_::_,[]=>by simp[bytesBefore]
 |a::x,b::y=>by
  rw[bytesBefore,CY x y]
  simp only[List.cons_lt_cons_iff]
  by_cases h1:a<b<;>by_cases h2:a=b<;>by_cases h3:x<y<;>simp[h1,h2,h3]
theorem ID(kv:KV):strKeys (toD kv)=kv.map (·.1):=by
 show(kv.map ent).map (fun p=>strOf p.1)=kv.map (·.1)
 rw[List.map_map]
 rfl
theorem NL{kv:KV}(hr:rising kv){ss:List (List UInt8)}(h:ss.Perm (strKeys (toD kv))):ss.mergeSort (fun x y=>decide (x<=y))=kv.map (·.1):=by
 have e:=mergeSort_of_perm h
 rw[ID]at e
 refine e.trans ?_
 refine List.mergeSort_of_pairwise ?_
 rw[List.pairwise_map]
 refine hr.imp ?_
 intro p q hpq
 rw[CY]at hpq
 exact decide_eq_true (List.le_of_lt (of_decide_eq_true hpq))
theorem TO(B:Nat)(w:World):Calls Tryz.prog 178 #[.map (some B)] w fun e w'=>e= .returned (.func (.func 211) #[] #[.pointer (some ⟨w.heap.size,0,none⟩)])/\w'=w.alloc (.cells #[.map (some B)] 115):=
 callsIn_wide.1 (Tryz.maps_Keys_178 (some B) w)
theorem Pu(B nn:Nat)(kv:KV)(w:World)(hm:CA w B nn kv)(hr:rising kv)(hlen:kv.length<=1000000):
 Calls Tryz.prog 177 #[.func (.func 211) #[] #[.pointer (some ⟨w.heap.size,0,none⟩)]] (w.alloc (.cells #[.map (some B)] 115))
  fun e w'=>(∃v,e= .returned v/\w'.ownsRow (w.heap.size+1) 9 1 v kv.length ((kv.map (·.1)).map encStr))/\Below (w.heap.size+1) (w.alloc (.cells #[.map (some B)] 115)) w':=by
 have h:=Tryz.slices_Sorted_keys_177_178 B nn (toD kv) (plainElem (H:=Unit) Tryz.prog 3) w hm (by rw[Hu];unfold maxLen;omega) (by rw[Hu];omega)
 refine(callsIn_wide.1 h).mono ?_
 rintro e w' ⟨v,ss,he,hp,hrow,hnil,hb⟩
 have hlen2:ss.length=kv.length:=by rw[hp.length_eq,ID,lMp]
 rw[NL hr hp,hlen2]at hrow
 simp only[World.size_alloc]at hrow hb
 exact⟨⟨v,he,hrow⟩,hb⟩
end Go.Proofs.YtdohnkkbkfhphaaGreat.ch
namespace Go.Proofs.YtdohnkkbkfhphaaGreat.ch
open Go.ChangeShapes Go.WideShapes Go.ChangeAt Go.RowKit Go.Maps Go.Sort Go.WideMaps
variable {w : World} {B nn : Nat}
theorem BL{w':World}{kv:KV}(h:CA w B nn kv)(hb:Bwz w w'):CA w' B nn kv:=by
 obtain⟨es,clock,h1,h2,h3,h4⟩:=h
 have hlt:B<w.heap.size:=by
  rcases Nat.lt_or_ge B w.heap.size with hlt|hge
  ·exact hlt
  ·rw[Array.getElem?_eq_none hge]at h1;cases h1
 exact⟨es,clock,by rw[hb.block B hlt];exact h1,h2,h3,h4⟩
theorem CU{kv:KV}(h:CA w B nn kv)(o:Obj):CA (w.alloc o) B nn kv:=BL h (bR.alloc nR o)
theorem IV{kv:KV}(h:CA w B nn kv):B<w.heap.size:=by
 obtain⟨es,clock,h1,h2,h3,h4⟩:=h
 rcases Nat.lt_or_ge B w.heap.size with hlt|hge
 ·exact hlt
 ·rw[Array.getElem?_eq_none hge]at h1;cases h1
theorem Eo:∀(a b:List UInt8),Op.bytesLess a b=decide (a<b)
 |[],[]=>by simp[Op.bytesLess]
 |_::_,[]=>by simp[Op.bytesLess]
 |[],_::_=>by simp[Op.bytesLess]
 |a::x,b::y=>by
  rw[Op.bytesLess,Eo x y]
  simp only[List.cons_lt_cons_iff]
  by_cases h1:a<b<;>by_cases h2:a=b<;>by_cases h3:x<y<;>simp[h1,h2,h3]
end Go.Proofs.YtdohnkkbkfhphaaGreat.ch
namespace Go.Proofs.YtdohnkkbkfhphaaGreat.ch
open Go.Proofs.Tryz
open Go.ChangeShapes Go.WideShapes Go.ChangeAt Go.RowKit Go.Maps Go.WideMaps
open vl
variable {k : List UInt8} {n : Int}
structure Cnt where
 r:List Cel
 n:Int
instance:Inhabited Cnt:=⟨⟨[],0⟩⟩
def viewAt(w:World)(a:Option Addr)(v:List Cnt):Prop:=
 ∀i,i<v.length->∃b off ra rc,a=some ⟨b,off,none⟩/\w.cell? ⟨b,off+i * 2,none⟩=some (.slice ra (v.getD i default).r.length rc)/\vl.rowAt w ra (v.getD i default).r/\w.cell? ⟨b,off+i * 2+1,none⟩=some (.int .i64 (v.getD i default).n)
def Dy(v:List Cnt):Prop:=∀c∈v,Co c.r/\c.r.length<=9223372036854775807/\(-9223372036854775808<=c.n/\c.n<=9223372036854775807)
theorem Pv{v:List Cnt}(h:Dy v)(k:Nat)(hk:k<v.length):Co (v.getD k default).r/\(v.getD k default).r.length<=9223372036854775807/\(-9223372036854775808<=(v.getD k default).n/\(v.getD k default).n<=9223372036854775807):=
 h _ (by simp[gDe,hk])
def Fg(v:List Cnt)(i:Nat):Prop:=
 AE (v.getD i default).r=0/\1<=(v.getD i default).n/\(v.getD i default).n<=1073741824/\(0<i->AW (v.getD (i - 1) default).r (v.getD i default).r<0)
def Dz(v:List Cnt):Prop:=v.length<=4096/\∀i,i<v.length->Fg v i
instance(v:List Cnt)(i:Nat):Decidable (Fg v i):=by unfold Fg;infer_instance
instance(v:List Cnt):Decidable (Dz v):=by unfold Dz;infer_instance
def AZ(v:List Cnt):Int:=if 4096<v.length then 2 else if Dz v then 0 else 1
theorem Mw{v:List Cnt}(h:4096<v.length):AZ v=2:=by unfold AZ;rw[if_pos h]
theorem Pw{v:List Cnt}(h:Dz v):AZ v=0:=by
 have h1:=h.1
 unfold AZ;rw[if_neg (by omega),if_pos h]
theorem NM{v:List Cnt}(h1:¬4096<v.length)(i:Nat)(hi:i<v.length)(h:¬Fg v i):AZ v=1:=by
 unfold AZ;rw[if_neg h1,if_neg (fun hv=>h (hv.2 i hi))]
def AB(v:List Cnt):KV:=v.map fun c=>(encR c.r,c.n)
theorem RG{kv:KV}(h:∀p∈kv,bytesBefore p.1 k=true):Ht kv k n=kv++[(k,n)]:=by
 have hd:GB kv k=kv:=by
  unfold GB
  rw[List.filter_eq_self]
  intro p hp
  have h1:=h p hp
  by_cases e:p.1=k
  ·rw[e,CY]at h1
   exact absurd (of_decide_eq_true h1) (List.lt_irrefl k)
  ·simpa using e
 unfold Ht
 rw[hd]
 clear hd
 induction kv with
 |nil=>rfl
 |cons y r ih=>
  rw[insK]
  have h1:=h y (List.mem_cons_self ..)
  have h2:bytesBefore k y.1=false:=by
   rw[CY]at h1⊢
   exact decide_eq_false (List.lt_asymm (of_decide_eq_true h1))
  rw[h2,if_neg (by decide),ih (fun p hp=>h p (List.mem_cons_of_mem _ hp))]
  rfl
theorem RH(v:List Cnt)(c:Cnt):AB (v++[c])=AB v++[(encR c.r,c.n)]:=by simp[AB]
theorem VQ(v:List Cnt)(k:Nat)(h:k<v.length):v.take (k+1)=v.take k++[v.getD k default]:=by
 rw[List.take_succ_eq_append_getElem h];simp[gDe,h]
theorem K7{a b:List Cel}(ha:rowOk a)(hb:rowOk b)(h:AW a b<0):bytesBefore (encR a) (encR b)=true:=by
 have h1:=Li a b ha.2 hb.2
 have h2:=Hc (encR a) (encR b)
 rw[CY]
 rw[h1]at h2
 rw[h2]at h
 split at h
 ·rename_i hl
  rw[Eo]at hl
  exact hl
 ·split at h<;>omega
theorem Mx{v:List Cnt}{i:Nat}(hw:Dy v)(hi:i<v.length)(h:Fg v i):rowOk (v.getD i default).r:=by
 have h1:=h.1
 unfold AE at h1
 split at h1
 ·cases h1
 ·rename_i h8
  exact⟨by omega,fun c hc=>⟨Iw h1 c hc,(Pv hw i hi).1 c hc⟩⟩
theorem before_trans{a b c:List UInt8}(h1:bytesBefore a b=true)(h2:bytesBefore b c=true):bytesBefore a c=true:=by
 rw[CY]at *
 exact decide_eq_true (List.lt_trans (of_decide_eq_true h1) (of_decide_eq_true h2))
theorem L6{v:List Cnt}(hw:Dy v)(k:Nat)(hk:k<v.length)(h:∀i,i<=k->Fg v i):∀i,i<k->bytesBefore (encR (v.getD i default).r) (encR (v.getD k default).r)=true:=by
 induction k with
 |zero=>intro i hi;exact absurd hi (Nat.not_lt_zero i)
 |succ k ih=>
  intro i hi
  have hstep:bytesBefore (encR (v.getD k default).r) (encR (v.getD (k+1) default).r)=true:=by
   have h1:=h (k+1) nR
   exact K7 (Mx hw (by omega) (h k (by omega))) (Mx hw hk h1) (by have:=h1.2.2.2 (by omega);simpa using this)
  rcases Nat.lt_succ_iff_lt_or_eq.1 hi with h1|h1
  ·exact before_trans (ih (by omega) (fun j hj=>h j (by omega)) i h1) hstep
  ·rw[h1];exact hstep
theorem WE{v:List Cnt}(hw:Dy v)(k:Nat)(hk:k<v.length)(h:∀i,i<=k->Fg v i):∀p∈AB (v.take k),bytesBefore p.1 (encR (v.getD k default).r)=true:=by
 intro p hp
 unfold AB at hp
 obtain⟨c,hc,rfl⟩:=List.mem_map.1 hp
 obtain⟨i,hi,rfl⟩:=List.getElem_of_mem hc
 rw[List.length_take]at hi
 have e:(v.take k)[i]'(by rw[List.length_take];omega)=v.getD i default:=by
  rw[List.getElem_take]
  simp[gDe,show i<v.length by omega]
 rw[e]
 exact L6 hw k hk h i (by omega)
theorem Vr{v:List Cnt}(hw:Dy v)(k:Nat)(hk:k<v.length)(h:∀i,i<=k->Fg v i):Ht (AB (v.take k)) (encR (v.getD k default).r) (v.getD k default).n=AB (v.take (k+1)):=by
 rw[RG (WE hw k hk h),VQ v k hk,RH]
theorem RI{v:List Cnt}(hw:Dy v)(h:Dz v):rising (AB v):=by
 unfold rising AB
 rw[List.pairwise_map,List.pairwise_iff_getElem]
 intro i j hi hj hij
 have e1:v[i]=v.getD i default:=by simp[gDe,hi]
 have e2:v[j]=v.getD j default:=by simp[gDe,hj]
 rw[e1,e2]
 exact L6 hw j hj (fun m hm=>h.2 m (by omega)) i hij
theorem TP(n:Int)(w:World):(Instr.makeMap 115 (some (.int .i64 n))).run Tryz.prog w= .ok (.map (some w.heap.size)) (w.alloc (.map #[] 0)):=by
 unfold Instr.makeMap
 simp[run_underlying underlying115,go_sem,asInt,Result.andThen]
theorem RJ(w:World):CA (w.alloc (.map #[] 0)) w.heap.size 0 []:=World.ownsMap_made _ _ _ _
theorem NN{w':World}{B nn:Nat}{kv:KV}(h:w'.ownsMap Tryz.prog 9 (plainElem (H:=Unit) Tryz.prog 3) B (nn+1) ((toD kv).put (.string k) (.lit (.int .i64 n)))):CA w' B (nn+1) (Ht kv k n):=by
 rw[Mv]at h;exact h
theorem JZ{r:List Cel}(h:AE r=0)(hw:Co r):rowOk r:=by
 unfold AE at h
 split at h
 ·cases h
 ·rename_i h8
  exact⟨by omega,fun c hc=>⟨Iw h c hc,hw c hc⟩⟩
theorem RK{p:Nat->Prop}{j:Nat}(h:∀i,i<j->p i)(hj:p j):∀i,i<=j->p i:=fun i hi=>by
 rcases Nat.lt_or_ge i j with h1|h1
 ·exact h i h1
 ·rw[show i=j by omega];exact hj
theorem Bu(x:Int):IntKind.i64.wrap x=(x+9223372036854775808) % 18446744073709551616 - 9223372036854775808:=by
 simp only[IntKind.wrap,IntKind.signed,IntKind.bits]
 simp
 split<;>omega
def RL(v:List Cnt)(base:Nat)(e:Ending)(w':World):Prop:=
 (AZ v=0/\Dz v/\∃B,e= .returned (.tuple #[.map (some B),.int .i64 0])/\base<=B/\CA w' B v.length (AB v))\/
 (AZ v≠0/\e= .returned (.tuple #[.map none,.int .i64 (AZ v)]))
theorem Hv{a b:Int}(h:a=b):Ending.returned (.tuple #[.map none,.int .i64 a])= .returned (.tuple #[.map none,.int .i64 b]):=by rw[h]
attribute [local go_sem ↓] Go.wp_at_zero Go.wp_at_succ
theorem Px(a:Option Addr)(cap:Nat)(v:List Cnt)(w:World)(hv:viewAt w a v)(hw:Dy v)(hl:v.length<=9223372036854775807):
 Calls Tryz.prog 69 #[.slice a v.length cap] w fun e w'=>RL v w.heap.size e w'/\Bwz w w':=by
 obtain⟨n,hn⟩:∃n,v.length=n:=⟨_,rfl⟩
 have HN:Hid (v.length=n):=hn
 rw[hn]at hl⊢
 clear hn
 have hmm:=TP
 by_cases h4:4096<n
 ·have HE:Hid (AZ v=2):=Mw (by rw[HN.out];exact h4)
  go_enter func69,ntmps69
  go_wp2
  go_ret2
  exact⟨.inr ⟨by rw[HE.out];decide,Hv HE.out.symm⟩,bR⟩
 ·go_enter func69,ntmps69
  go_wp2
  go_loopw [17] (fun i wr=> ∃k:Nat,k<=n/\i= .int .i64 k/\CA wr w.heap.size k (AB (v.take k))/\Bwz w wr/\(∀i,i<k->Fg v i)) (fun i _=>n - (intOf i).toNat)
  case atStart=>exact⟨0,by omega,rfl,RJ w,bR.alloc nR _,fun i hi=>absurd hi (Nat.not_lt_zero i)⟩
  case round=>
   obtain⟨k,hk,rfl,hcm,hnx,hall⟩:=hrel
   have HC:Hid (CA wr w.heap.size k (AB (v.take k))):=hcm
   have HA:Hid (∀i,i<k->Fg v i):=hall
   have hsz:=hnx.size
   have hBlt:=IV hcm
   clear hcm hall
   by_cases hlt:k<n
   ·have hkv:k<v.length:=by rw[HN.out];exact hlt
    obtain⟨b,o,ra,rc,e,x1,x2,x3⟩:=hv k hkv
    subst e
    obtain⟨ww1,ww2,ww3,ww4⟩:=Pv hw k hkv
    have q1:=cLz hnx x1
    have q3:=cLz hnx x3
    have HR:Hid (vl.rowAt wr ra (v.getD k default).r):=Ac x2 hnx
    have i1:(0:Int)<=(k:Int):=by omega
    have i2:(k:Int)<(n:Int):=by omega
    have HB:Hid (¬Fg v k->AZ v=1):=NM (by rw[HN.out];exact h4) k hkv
    have HS:Hid ((∀i,i<=k->Fg v i)->Ht (AB (v.take k)) (encR (v.getD k default).r) (v.getD k default).n=AB (v.take (k+1))):=Vr hw k hkv
    have HOK:Hid (Fg v k->rowOk (v.getD k default).r):=fun h=>Mx hw hkv h
    have HDEF:Hid (Fg v k↔AE (v.getD k default).r=0/\1<=(v.getD k default).n/\(v.getD k default).n<=1073741824/\(0<k->AW (v.getD (k - 1) default).r (v.getD k default).r<0)):=Iff.rfl
    obtain⟨⟨r,m⟩,hcv⟩:∃c,v.getD k default=c:=⟨_,rfl⟩
    rw[hcv]at q1 q3 HR HS HOK HDEF ww1 ww2 ww3 ww4
    dsimp only at q1 q3 HR HS HOK HDEF ww1 ww2 ww3 ww4
    clear x1 x2 x3
    obtain⟨rl,hrl⟩:∃l,r.length=l:=⟨_,rfl⟩
    rw[hrl]at q1
    have KK:Hid (∀w,vl.rowAt w ra r->Calls Tryz.prog 109 #[.slice ra rl rc] w fun e w'=>e= .returned (.tuple #[.string (Eb r),.int .i64 (AE r)])/\Bwz w w'):=by
     subst hrl;exact fun w h=>IU ra rc r w h ww1 ww2
    by_cases e1:AE r=0
    ·by_cases e2:m<1
     ·have HE:Hid (AZ v=1):=HB.out (fun h=>by have:=(HDEF.out.1 h).2.1;omega)
      go_wp2_with (go_at_call 109;refine(KK.out _ (Ac HR.out (bR.alloc nR _))).mono ?_;rintro e wa ⟨rfl,hba⟩;have g0:=cLz hba (a:=⟨wr.heap.size,0,none⟩) (v:=.slice ra rl rc) (by go_simp);have g1:=cLz hba (a:=⟨wr.heap.size,1,none⟩) (v:=.int .i64 m) (by go_simp);have hla:=(hnx.alloc hsz _).trans (hba.mono (by simp;omega));have HCW:=BL (CU HC.out _) hba;have hbw:Bwz wr wa:=(bR.alloc nR _).trans (hba.mono (by simp)))
      go_ret2
      exact⟨.inr ⟨by rw[HE.out];decide,Hv HE.out.symm⟩,hla⟩
     ·have e2':decide (m<1)=false:=decide_eq_false e2
      by_cases e3:1073741824<m
      ·have HE:Hid (AZ v=1):=HB.out (fun h=>by have:=(HDEF.out.1 h).2.2.1;omega)
       go_wp2_with (go_at_call 109;refine(KK.out _ (Ac HR.out (bR.alloc nR _))).mono ?_;rintro e wa ⟨rfl,hba⟩;have g0:=cLz hba (a:=⟨wr.heap.size,0,none⟩) (v:=.slice ra rl rc) (by go_simp);have g1:=cLz hba (a:=⟨wr.heap.size,1,none⟩) (v:=.int .i64 m) (by go_simp);have hla:=(hnx.alloc hsz _).trans (hba.mono (by simp;omega));have HCW:=BL (CU HC.out _) hba;have hbw:Bwz wr wa:=(bR.alloc nR _).trans (hba.mono (by simp)))
       go_ret2
       exact⟨.inr ⟨by rw[HE.out];decide,Hv HE.out.symm⟩,hla⟩
      ·have e3':decide (1073741824<m)=false:=decide_eq_false e3
       have hok8:rowOk r:=JZ e1 ww1
       have HKS:Hid ((Eb r).data.toList=encR r):=Hi hok8
       have HKL:Hid ((Eb r).size<=maxLen):=Nat.le_trans (Nq hok8) (by unfold maxLen;omega)
       obtain⟨ks,hks⟩:∃s,Eb r=s:=⟨_,rfl⟩
       rw[hks]at KK HKS HKL
       have HKY:Hid (keyOf Tryz.prog 9 (.string ks)=some (.string (encR r))):=by
        have h:=keyOf_string_mk underlying9 HKL.out
        rw[HKS.out]at h
        exact h
       clear hks hok8
       by_cases e4:k=0
       ·subst e4
        simp only[Nat.zero_mul,Nat.add_zero]at q1 q3
        have HE:Hid (Fg v 0):=HDEF.out.2 ⟨e1,by omega,by omega,fun h=>absurd h (by omega)⟩
        go_wp2_with (go_at_call 109;refine(KK.out _ (Ac HR.out (bR.alloc nR _))).mono ?_;rintro e wa ⟨rfl,hba⟩;have g0:=cLz hba (a:=⟨wr.heap.size,0,none⟩) (v:=.slice ra rl rc) (by go_simp);have g1:=cLz hba (a:=⟨wr.heap.size,1,none⟩) (v:=.int .i64 m) (by go_simp);have hla:=(hnx.alloc hsz _).trans (hba.mono (by simp;omega));have HCW:=BL (CU HC.out _) hba;have hbw:Bwz wr wa:=(bR.alloc nR _).trans (hba.mono (by simp)))
        go_quiet (fail)
        have HCD:CA (wa.drewN nq) w.heap.size 0 (AB (v.take 0)):=HCW
        have hld:=below_drewN hla nq
        go_wp2_with (at_mapUpdate;refine wpList_mapUpdate_own _ rfl (.tmp 54) (.tmp 55) (.tmp 57) 115 rfl 9 3 law underlying115 _ w.heap.size 0 _ rfl HCD (by unfold maxLen;omega) _ _ (.string (encR r)) rfl rfl HKY.out _ [] (plainElem_int underlying3 (WalkArith.wf_i64 (by omega))) ?_;intro w1 hown1 hgrow1)
        go_roundw
        case rel=>exact⟨0+1,by omega,by go_num,by rw[<-HS.out (fun i hi=>by rw[show i=0 by omega];exact HE.out)];exact NN hown1,hld.grown hgrow1 hld.size (fun j hj=>by cases hj;exact Nat.le_refl _),fun i hi=>by rw[show i=0 by omega];exact HE.out⟩
        case measure=>simp[intOf];omega
       ·obtain⟨j,rfl⟩:∃j,k=j+1:=⟨k - 1,by omega⟩
        have hjv:j<v.length:=by rw[HN.out];omega
        obtain⟨b',o',pa,pc,e',y1,y2,y3⟩:=hv j hjv
        cases e'
        have p1:=cLz hnx y1
        have HPR:Hid (vl.rowAt wr pa (v.getD j default).r):=Ac y2 hnx
        obtain⟨vv1,vv2,_,_⟩:=Pv hw j hjv
        have HD2:Hid (Fg v (j+1)↔AE r=0/\1<=m/\m<=1073741824/\(AW (v.getD j default).r r<0)):=by
         show Fg v (j+1)↔_
         rw[HDEF.out]
         simp
        obtain⟨pr,hpr⟩:∃c,(v.getD j default).r=c:=⟨_,rfl⟩
        rw[hpr]at p1 HPR HD2 vv1 vv2
        clear y1 y2 y3 hpr HDEF e4
        obtain⟨pl,hpl⟩:∃l,pr.length=l:=⟨_,rfl⟩
        rw[hpl]at p1
        have KR:Hid (∀w,vl.rowAt w pa pr->vl.rowAt w ra r->Calls Tryz.prog 130 #[.slice pa pl pc,.slice ra rl rc] w fun e w'=>e= .returned (.int .i64 (AW pr r))/\Bwz w w'):=by
         subst hpl hrl;exact fun w h h'=>SL pa ra pc rc pr r w h h' vv2 ww2
        have hj1:(0:Int)<((j:Int)+1):=by omega
        have hj2:((j:Int))<(n:Int):=by omega
        have hj3:(0:Int)<=(j:Int):=by omega
        have hwj1:IntKind.i64.wrap ((j:Int)+1 - 1)=(j:Int):=by rw[Bu];omega
        have hwj2:IntKind.i64.wrap (j:Int)=(j:Int):=by rw[Bu];omega
        obtain⟨cc,hcc⟩:∃c,AW pr r=c:=⟨_,rfl⟩
        rw[hcc]at KR HD2
        clear hcc hpl hrl vv1 vv2
        by_cases e5:0<=cc
        ·have HE:Hid (AZ v=1):=HB.out (fun h=>by have:=(HD2.out.1 h).2.2.2;omega)
         go_wp2_with (go_at_call 109;refine(KK.out _ (Ac HR.out (bR.alloc nR _))).mono ?_;rintro e wa ⟨rfl,hba⟩;have g0:=cLz hba (a:=⟨wr.heap.size,0,none⟩) (v:=.slice ra rl rc) (by go_simp);have g1:=cLz hba (a:=⟨wr.heap.size,1,none⟩) (v:=.int .i64 m) (by go_simp);have hla:=(hnx.alloc hsz _).trans (hba.mono (by simp;omega));have HCW:=BL (CU HC.out _) hba;have hbw:Bwz wr wa:=(bR.alloc nR _).trans (hba.mono (by simp)))
         have p1a:=cLz hbw p1
         have HPA:Hid (vl.rowAt wa.drew pa pr):=Ac HPR.out hbw.drew
         have HRA:Hid (vl.rowAt wa.drew ra r):=Ac HR.out hbw.drew
         go_region_held3 (fun w'=>w'.cell? ⟨b,o+j * 2,none⟩=some (.slice pa pl pc)/\w'.cell? ⟨wr.heap.size,0,none⟩=some (.slice ra rl rc)) (first|go_keep|exact⟨cLz hbr p1a,cLz hbr g0⟩)
          (first|(go_at_call 130;refine(KR.out wa.drew HPA.out HRA.out).mono ?_;rintro e wq ⟨rfl,hbr⟩))
         all_goals
          go_wp2
          go_ret2
          exact⟨.inr ⟨by rw[HE.out];decide,Hv HE.out.symm⟩,by first|exact hla.trans (hbr.mono hla.size)|exact hla.drew.trans (hbr.mono hla.size)⟩
        ·have HE:Hid (Fg v (j+1)):=HD2.out.2 ⟨e1,by omega,by omega,by omega⟩
         have e5':¬0<=cc:=e5
         go_wp2_with (go_at_call 109;refine(KK.out _ (Ac HR.out (bR.alloc nR _))).mono ?_;rintro e wa ⟨rfl,hba⟩;have g0:=cLz hba (a:=⟨wr.heap.size,0,none⟩) (v:=.slice ra rl rc) (by go_simp);have g1:=cLz hba (a:=⟨wr.heap.size,1,none⟩) (v:=.int .i64 m) (by go_simp);have hla:=(hnx.alloc hsz _).trans (hba.mono (by simp;omega));have HCW:=BL (CU HC.out _) hba;have hbw:Bwz wr wa:=(bR.alloc nR _).trans (hba.mono (by simp)))
         have p1a:=cLz hbw p1
         have HPA:Hid (vl.rowAt wa.drew pa pr):=Ac HPR.out hbw.drew
         have HRA:Hid (vl.rowAt wa.drew ra r):=Ac HR.out hbw.drew
         go_region_held3 (fun w'=>w'.cell? ⟨b,o+j * 2,none⟩=some (.slice pa pl pc)/\w'.cell? ⟨wr.heap.size,0,none⟩=some (.slice ra rl rc)) (first|go_keep|exact⟨cLz hbr p1a,cLz hbr g0⟩)
          (first|(go_at_call 130;refine(KR.out wa.drew HPA.out HRA.out).mono ?_;rintro e wq ⟨rfl,hbr⟩))
         all_goals
          have hlq:Bwz w wq:=by first|exact hla.trans (hbr.mono hla.size)|exact hla.drew.trans (hbr.mono hla.size)
          have g1q:=cLz hbr g1
          have HCD:CA wa.drew w.heap.size (j+1) (AB (v.take (j+1))):=HCW
          have HCQ:=BL HCD hbr
          go_wp2_with (at_mapUpdate;refine wpList_mapUpdate_own _ rfl (.tmp 54) (.tmp 55) (.tmp 57) 115 rfl 9 3 law underlying115 _ w.heap.size (j+1) _ rfl HCQ (by unfold maxLen;omega) _ _ (.string (encR r)) rfl rfl HKY.out _ [] (plainElem_int underlying3 (WalkArith.wf_i64 (by omega))) ?_;intro w1 hown1 hgrow1)
          go_roundw
          case rel=>exact⟨j+1+1,by omega,by go_num,by rw[<-HS.out (RK HA.out HE.out)];exact NN hown1,hlq.grown hgrow1 hlq.size (fun x hx=>by cases hx;exact Nat.le_refl _),fun i hi=>by
           rcases Nat.lt_or_ge i (j+1)with h|h
           ·exact HA.out i h
           ·rw[show i=j+1 by omega];exact HE.out⟩
          case measure=>simp[intOf];omega
    ·have e1':(AE r==0)=false:=by simpa using e1
     have HE:Hid (AZ v=1):=HB.out (fun h=>e1 (HDEF.out.1 h).1)
     go_wp2_with (go_at_call 109;refine(KK.out _ (Ac HR.out (bR.alloc nR _))).mono ?_;rintro e wa ⟨rfl,hba⟩;have g0:=cLz hba (a:=⟨wr.heap.size,0,none⟩) (v:=.slice ra rl rc) (by go_simp);have g1:=cLz hba (a:=⟨wr.heap.size,1,none⟩) (v:=.int .i64 m) (by go_simp);have hla:=(hnx.alloc hsz _).trans (hba.mono (by simp;omega));have HCW:=BL (CU HC.out _) hba;have hbw:Bwz wr wa:=(bR.alloc nR _).trans (hba.mono (by simp)))
     go_ret2
     exact⟨.inr ⟨by rw[HE.out];decide,Hv HE.out.symm⟩,hla⟩
   ·have hkn:k=n:=by omega
    have HT:Hid (v.take k=v):=List.take_of_length_le (by rw[HN.out];omega)
    have HO:Hid (Dz v):=⟨by rw[HN.out];omega,fun i hi=>HA.out i (by rw[HN.out]at hi;omega)⟩
    go_wp2
    go_ret2
    exact⟨.inl ⟨Pw HO.out,HO.out,w.heap.size,rfl,Nat.le_refl _,by have h:=HC.out;rw[HT.out,hkn]at h;rw[HN.out];exact h⟩,hnx⟩
end Go.Proofs.YtdohnkkbkfhphaaGreat.ch
