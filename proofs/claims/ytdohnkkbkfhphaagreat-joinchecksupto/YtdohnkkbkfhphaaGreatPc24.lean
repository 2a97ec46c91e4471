import Derived.Test.YtdohnkkbkfhphaaGreatPc23
set_option linter.all false
set_option maxHeartbeats 8000000
set_option maxRecDepth 100000
namespace Go.Proofs.YtdohnkkbkfhphaaGreat
open Go.Proofs.Tryz
namespace ch
open Go.ChangeShapes Go.WideShapes Go.ChangeAt Go.RowKit Go.Maps Go.WideMaps Go.Sort
open vl
variable {w w' : World} {C base cap : Nat} {v : Value} {kv : KV} {out : List Cnt}
theorem Sp(l:List UInt8):encStr l= .string ⟨l.toArray⟩:=rfl
theorem Hp{e:TypeId}{size:Nat}{n:Nat}{xs:List Value}(h:w.ownsRow base e size v n xs):∃ad cap,v= .slice ad n cap/\(0<n->∃g,ad=some ⟨g,0,none⟩):=by
 rcases h.2 with⟨rfl,h0⟩|⟨g,cap,cur,rfl,_⟩
 ·exact⟨none,0,by rw[h0],fun h=>absurd h0 (by omega)⟩
 ·exact⟨_,_,rfl,fun _=>⟨g,rfl⟩⟩
theorem Us{g:Nat}(h:w.ownsRow base 9 1 (.slice (some ⟨g,0,none⟩) kv.length cap) kv.length ((kv.map (·.1)).map encStr))(i:Nat)(hi:i<kv.length):w.cell? ⟨g,i,none⟩=some (.string ⟨(kv.getD i ([],0)).1.toArray⟩):=by
 have h1:=World.ownsRow.cells h (g:=g) rfl i (.string ⟨(kv.getD i ([],0)).1.toArray⟩) (by
  simp only[List.map_map,List.getElem?_map,gEe hi,Option.map_some,Function.comp,gDe,Option.getD_some,Sp])
 have e:(⟨g,0,none⟩:Addr).add i=⟨g,i,none⟩:=by unfold Addr.add;split<;>simp_all
 rw[e]at h1
 exact h1
theorem Hq(v:List Cnt):(AK v).length=v.length:=by simp[AK]
theorem W7(v:List Cnt)(i:Nat)(hi:i<v.length):(AK v).getD i ([],0)=(encR (v.getD i default).r,(v.getD i default).n):=by
 simp[AK,gDe,hi]
theorem W8(hr:rising kv)(i:Nat)(hi:i<kv.length):D9 kv (kv.getD i ([],0)).1=(kv.getD i ([],0)).2:=by
 induction kv generalizing i with
 |nil=>exact absurd hi (Nat.not_lt_zero i)
 |cons p r ih=>
  cases i with
  |zero=>simp[D9]
  |succ i=>
   have h1:=List.pairwise_cons.1 hr
   have hi':i<r.length:=by simpa using hi
   have e:(p::r).getD (i+1) ([],0)=r.getD i ([],0):=rfl
   rw[e]
   have hmem:r.getD i ([],0)∈r:=by simp[gDe,hi']
   have hne:¬p.1=(r.getD i ([],0)).1:=fun e=>by
    have h2:=h1.1 _ hmem
    rw[e,Dr]at h2
    exact absurd (of_decide_eq_true h2) (List.lt_irrefl _)
   have h3:=ih h1.2 i hi'
   unfold D9 at h3⊢
   rw[List.find?_cons_of_neg (by simpa using hne)]
   exact h3
theorem W9{B nn:Nat}{o:Option Nat}(h:CS w B nn kv)(k:fr C o w w')(hC:B≠C)(ho:o≠some B):CS w' B nn kv:=by
 have hlt:=JF h
 obtain⟨es,clock,h1,h2,h3,h4⟩:=h
 exact⟨es,clock,by rw[k.block B hlt hC ho];exact h1,h2,h3,h4⟩
theorem Ut(h:VS w C base v out)(hb:Bwz w w'):VS w' C base v out:=by
 have hClt:C<w.heap.size:=bLt _ _ h.cell
 obtain⟨l,h1,h2,h3⟩:=h.rows
 refine⟨cLz hb h.cell,(hb.frozen (p:=⟨C,0,none⟩) hClt).trans h.frz,h.apart,Nat.le_trans h.low hb.size,l,h1,own_below h2 hb,fun i hi=>?_⟩
 obtain⟨e1,ad,cap,e2,e3,e4⟩:=h3 i hi
 exact⟨e1,ad,cap,e2,own_below e3 hb,e4⟩
theorem Uu(v:List Cnt)(k:Nat)(h:k<v.length)(r:List Cel)(n:Int)(e:v.getD k default=⟨r,n⟩):v.take (k+1)=v.take k++[⟨r,n⟩]:=by rw[Yh v k h,e]
theorem Sq(B nn:Nat)(out:List Cnt)(C base:Nat)(v0:Value)(w:World)(hm:CS w B nn (AK out))(hr:rising (AK out))(hok:∀c∈out,rowOk c.r)(hlen:out.length<=100000)
 (hv:VS w C base v0 []) (hBC:B≠C) (hBv:v0.ownBlock≠some B):
 Calls Tryz.prog 132 #[.map (some B),.func (.func 133) #[] #[.pointer (some ⟨C,0,none⟩)]] w fun e w'=>e= .returned (.tuple #[])/\∃v,VS w' C base v out/\fr C v0.ownBlock w w':=by
 have HM:Hid (CS w B nn (AK out)):=hm
 have HR:Hid (rising (AK out)):=hr
 have HV:Hid (VS w C base v0 []):=hv
 have HOK:Hid (∀c∈out,rowOk c.r):=hok
 have hBlt:=JF hm
 have hClt:C<w.heap.size:=bLt _ _ hv.cell
 clear hm hr hv hok
 have hkl:=Hq out
 obtain⟨n,hn⟩:∃n,out.length=n:=⟨_,rfl⟩
 have HN:Hid (out.length=n):=hn
 have HKN:Hid ((AK out).length=n):=by show(AK out).length=n;rw[hkl,hn]
 rw[hn]at hlen
 clear hkl hn
 go_enter func132,ntmps132
 go_wp2_with fail
 refine(Vp B _).mono ?_
 rintro e w' ⟨rfl,rfl⟩
 go_wp2_with fail
 refine(Qx B nn (AK out) w HM.out HR.out (by rw[HKN.out];omega)).mono ?_
 rintro e w1 ⟨⟨v,rfl,hrow⟩,hb1⟩
 obtain⟨ks,kc,hv,hks⟩:=Hp hrow
 rw[HKN.out]at hv hks
 subst hv
 have HRW:Hid (w1.ownsRow (w.heap.size+1) 9 1 (.slice ks n kc) (AK out).length (((AK out).map (·.1)).map encStr)):=hrow
 have hbw:Bwz w w1:=(bR.alloc nR _).trans (hb1.mono (by omega))
 have hs1:w.heap.size+1<=w1.heap.size:=by have:=hb1.size;simpa using this
 clear hrow
 have hnov:∀b,v0.ownBlock=some b->b<w.heap.size:=fun b hb=>by
  obtain⟨l,_,h2,_⟩:=HV.out.rows
  exact(AD h2 hb).2
 have HNV:Hid (∀b,v0.ownBlock=some b->b<w.heap.size):=hnov
 have HV1:Hid (VS w1 C base v0 []):=Ut HV.out hbw
 have HM1:Hid (CS w1 B nn (AK out)):=BV HM.out hbw
 clear hnov
 go_wp2
 go_loopw [10] (fun i wr=> ∃(k:Nat) (v:Value),k<=n/\i= .int .i64 k/\VS wr C base v (out.take k)/\fr C v0.ownBlock w1 wr/\(v.ownBlock=v0.ownBlock\/∃g,v.ownBlock=some g/\w1.heap.size<=g)) (fun i _=>n - (intOf i).toNat)
 case atStart=>exact⟨0,v0,by omega,rfl,HV1.out,⟨rfl,rfl,rfl,Nat.le_refl _,fun _ _ _ _=>rfl⟩,.inl rfl⟩
 case round=>
  obtain⟨k,v,hk,rfl,hvs,hfr,hvo⟩:=hrel
  have HVS:Hid (VS wr C base v (out.take k)):=hvs
  have HFR:Hid (fr C v0.ownBlock w1 wr):=hfr
  have HVO:Hid (v.ownBlock=v0.ownBlock\/∃g,v.ownBlock=some g/\w1.heap.size<=g):=hvo
  clear hvs hfr hvo
  by_cases hlt:k<n
  ·obtain⟨gk,hgk⟩:=hks (by omega)
   subst hgk
   have hko:k<out.length:=by rw[HN.out];exact hlt
   have hkk:k<(AK out).length:=by rw[HKN.out];exact hlt
   have hrow2:=HRW.out
   rw[<-HKN.out]at hrow2
   have hgb:=AD hrow2 (g:=gk) rfl
   have hcw:=Us hrow2 k hkk
   have hcr:wr.cell? ⟨gk,k,none⟩=some (.string ⟨((AK out).getD k ([],0)).1.toArray⟩):=(Xu HFR.out (p:=⟨gk,k,none⟩) hgb.2 (show gk≠C by omega) (fun e=>by have:=HNV.out gk e;omega)).trans hcw
   have HCM:Hid (CS wr B nn (AK out)):=W9 HM1.out HFR.out hBC hBv
   have HG:=W8 HR.out k hkk
   have hrk:rowOk (out.getD k default).r:=HOK.out _ (by simp[gDe,hko])
   rw[W7 out k hko]at hcr HG
   dsimp only at hcr HG
   obtain⟨⟨r,m⟩,hcv⟩:∃c,out.getD k default=c:=⟨_,rfl⟩
   have HT:Hid (out.take (k+1)=out.take k++[⟨r,m⟩]):=Uu out k hko r m hcv
   rw[hcv]at hcr HG hrk
   dsimp only at hcr HG hrk
   have HRK:Hid (rowOk r):=hrk
   have hel:=FQ r (fun c hc=>(hrk.2 c hc).1)
   have hr8:=hrk.1
   obtain⟨key,hkey⟩:∃x,(⟨(encR r).toArray⟩:ByteArray)=x:=⟨_,rfl⟩
   have HKE:Hid (encR r=key.data.toList):=by show encR r=key.data.toList;rw[<-hkey]
   have HKL:Hid (key.size<=maxLen):=by
    show key.size<=maxLen
    rw[<-A4,<-HKE.out];unfold maxLen;omega
   rw[hkey]at hcr
   have HGG:Hid (D9 (AK out) key.data.toList=m):=by show D9 (AK out) key.data.toList=m;rw[<-HKE.out];exact HG
   clear hcv hkey HG hrk hel hr8 hcw hrow2
   obtain⟨l,hll,hlo,hlr⟩:=HVS.out.rows
   have HLL:Hid (l.length=(out.take k).length):=hll
   have HLO:Hid (wr.ownsRow base 177 2 v l.length (flat l)):=hlo
   have HLR:Hid (∀i,i<(out.take k).length->(l.getD i (.bool false,0)).2=((out.take k).getD i default).n/\∃ad cap,(l.getD i (.bool false,0)).1= .slice ad ((out.take k).getD i default).r.length cap/\AA wr base (.slice ad ((out.take k).getD i default).r.length cap) ((out.take k).getD i default).r/\∀g,(Value.slice ad ((out.take k).getD i default).r.length cap).ownBlock=some g->g≠C/\v.ownBlock≠some g):=hlr
   have hl6:l.length<=1000000:=by rw[hll,List.length_take,HN.out];omega
   have HL6:Hid (l.length<=1000000):=hl6
   clear hll hlo hlr hl6
   have i1:(0:Int)<=(k:Int):=by omega
   have i2:(k:Int)<(n:Int):=by omega
   go_wp2_with (first
    |(at_lookup;refine wpList_lookup_own_int _ rfl (.tmp 16) (.tmp 17) 115 rfl 9 3 .i64 law underlying115 underlying3 (F8 _) B nn _ rfl HCM.out _ (.string key.data.toList) rfl (keyOf_string_mk underlying9 HKL.out) ?_;intro c hat hwc;have hc:c=m:=(F0 hat).trans HGG.out;clear hat;subst hc)
    |(go_at_call 133;refine(Vs C base key _ v l r wr HVS.out.cell HVS.out.frz HLO.out HVS.out.apart HL6.out HVS.out.low HRK.out HKE.out HKL.out).mono ?_;rintro e w9 ⟨rfl,w2,w3,ad,cap,g,cap2,hb2,hov2,hown3,hgrow3,hat3,rfl⟩))
   have HST:=Xv HVS.out HLL.out HLO.out HLR.out hb2 hov2 hown3 hgrow3 hat3
   have hsw:=HFR.out.size
   have hs2:wr.heap.size<=w2.heap.size:=hb2.size
   go_roundw
   case rel=>exact⟨k+1,_,by omega,by go_num,by rw[HT.out];exact HST.1,OQ HFR.out HST.2 HVO.out,by
    rcases hat3 with h1|h1
    ·rcases HVO.out with h2|⟨g',h2,h3⟩
     ·exact .inl (by rw[<-h2,h1];rfl)
     ·exact .inr ⟨g,rfl,by rw[h1]at h2;cases h2;exact h3⟩
    ·exact .inr ⟨g,rfl,by omega⟩⟩
   case measure=>simp[intOf];omega
  ·have HT:Hid (out.take k=out):=List.take_of_length_le (by rw[HN.out];omega)
   go_wp2
   go_end0
   exact⟨rfl,v,by have h:=HVS.out;rw[HT.out]at h;exact h,OQ (Vu hbw) HFR.out (.inl rfl)⟩
theorem WA(l:List (Value×Int))(i:Nat)(hli:i<l.length):(flat l)[i * 2]? =some (l.getD i (.bool false,0)).1/\(flat l)[i * 2+1]? =some (.int .i64 (l.getD i (.bool false,0)).2):=by
 induction l generalizing i with
 |nil=>exact absurd hli (Nat.not_lt_zero i)
 |cons p r ih=>
  have e:flat (p::r)=p.1:: .int .i64 p.2::flat r:=rfl
  rw[e]
  cases i with
  |zero=>exact⟨rfl,rfl⟩
  |succ i=>
   have:=ih i (by simpa using hli)
   rw[show(i+1) * 2=i * 2+1+1 by omega]
   simpa using this
theorem addr_add(g j:Nat):((⟨g,0,none⟩:Addr).add j)=⟨g,0+j,none⟩:=by unfold Addr.add;split<;>simp_all
theorem WB{ad:Option Addr}(h:VS w C base (.slice ad out.length cap) out):viewAt w ad out:=by
 intro i hi
 obtain⟨l,hll,hlo,hlr⟩:=h.rows
 obtain⟨e1,ra,rc,e2,e3,_⟩:=hlr i hi
 rcases hlo.2 with⟨hv,h0⟩|⟨g,cap',cur,hv,h1,hg,h2⟩
 ·rw[hll]at h0;omega
 ·injection hv with ha _ _
  subst ha
  have hc:=World.ownsRow.cells hlo (g:=g) rfl
  have hli:i<l.length:=by omega
  have f0:=WA l i hli
  have hadd:=addr_add g
  refine⟨g,0,ra,rc,rfl,?_,D7 e3,?_⟩
  ·have:=hc _ _ f0.1;rw[hadd,e2]at this;exact this
  ·have:=hc _ _ f0.2;rw[hadd,e1]at this;exact this
theorem Ys(h:VS w C base v out):∃ad cap,v= .slice ad out.length cap:=by
 obtain⟨l,hll,hlo,hlr⟩:=h.rows
 obtain⟨ad,cap,hv,_⟩:=Hp hlo
 exact⟨ad,cap,by rw[hv,hll]⟩
end ch
namespace ch
open Go.ChangeShapes Go.WideShapes Go.ChangeAt Go.RowKit Go.Maps Go.WideMaps
open vl
variable {i n : Nat}
theorem ob{b c x:Nat}(h:(Value.slice (some ⟨b,0,none⟩) n c).ownBlock=some x):x=b:=by cases h;rfl
theorem Uv(B nn:Nat)(out:List Cnt)(w:World)(hm:CS w B nn (AK out))(hr:rising (AK out))(hok:∀c∈out,rowOk c.r)(hlen:out.length<=100000):
 Calls Tryz.prog 73 #[.map (some B)] w fun e w'=>(∃ad cap,e= .returned (.slice ad out.length cap)/\viewAt w' ad out)/\Bwz w w':=by
 obtain⟨i0,hi,hz0,hz1,hz2⟩:=info_parts Ln
 obtain⟨wm,hmk,hown,hgr⟩:=run_make_own (P:=Tryz.prog) w w.heap.size 74 177 i0 (.agg #[.slice none 0 0,.int .i64 0]) 2 underlying74 hi hz0 hz1 .i64 .i64 out.length (by rw[hz2];omega) (by unfold maxLen;omega) nR
 have hbm:Bwz w wm:=bR.grown hgr nR (fun k hk=>by cases hk)
 have hvlt:w.heap.size<wm.heap.size:=(AD hown (g:=w.heap.size) rfl).2
 have hBlt:=JF hm
 have HVS:Hid (VS (wm.alloc (.cells #[.slice (some ⟨w.heap.size,0,none⟩) 0 out.length] 74)) wm.heap.size w.heap.size (.slice (some ⟨w.heap.size,0,none⟩) 0 out.length) []):=by
  refine⟨by go_simp,by go_simp,fun e=>by have:=ob e;omega,by simp;omega,[],rfl,own_below hown (bR.alloc nR _),fun i hi=>absurd hi (Nat.not_lt_zero i)⟩
 have HM2:Hid (CS (wm.alloc (.cells #[.slice (some ⟨w.heap.size,0,none⟩) 0 out.length] 74)) B nn (AK out)):=Dj (BV hm hbm) _
 have KE:Hid (CTz 132 #[.map (some B),.func (.func 133) #[] #[.pointer (some ⟨wm.heap.size,0,none⟩)]] (wm.alloc (.cells #[.slice (some ⟨w.heap.size,0,none⟩) 0 out.length] 74))
  fun e w'=>e= .returned (.tuple #[])/\∃v,VS w' wm.heap.size w.heap.size v out/\fr wm.heap.size (Value.slice (some ⟨w.heap.size,0,none⟩) 0 out.length).ownBlock (wm.alloc (.cells #[.slice (some ⟨w.heap.size,0,none⟩) 0 out.length] 74)) w'):=
  Sq B nn out wm.heap.size w.heap.size _ _ HM2.out hr hok hlen HVS.out (by omega) (fun e=>by have:=ob e;omega)
 have HM:Hid (CS w B nn (AK out)):=hm
 have hsz:Hid (Maps.size (toD (AK out))=out.length):=by show Maps.size (toD (AK out))=out.length;rw[Il,Hq]
 obtain⟨n,hn⟩:∃n,out.length=n:=⟨_,rfl⟩
 rw[hn]at hmk KE hsz hlen⊢
 have HN:Hid (out.length=n):=hn
 clear hi hz0 hz1 hz2 hown hgr hm hr hok HVS HM2 hn
 go_enter func73,ntmps73
 go_wp2_with (first
  |(at_len;refine wpList_len_own _ rfl (.tmp 4) 115 rfl 9 3 underlying115 _ B nn _ rfl HM.out ?_;rw[hsz.out])
  |(go_at_call 132;refine KE.out.mono ?_;rintro e w2 ⟨rfl,v,hvs,hfr⟩;have hcv:=hvs.cell))
 obtain⟨ad,cap,hv⟩:=Ys hvs
 rw[HN.out]at hv
 subst hv
 go_ret
 exact⟨⟨ad,cap,rfl,WB (cap:=cap) (by rw[HN.out];exact hvs)⟩,Vt (hbm.alloc hbm.size _) hfr (by omega) (fun b hb=>by have:=ob hb;omega) (by simp;omega)⟩
structure Chg where
 k:Int
 r:List Cel
instance:Inhabited Chg:=⟨⟨0,[]⟩⟩
def Dv(w:World)(a:Option Addr)(l:List Chg):Prop:=
 ∀i,i<l.length->∃b off ra rc,a=some ⟨b,off,none⟩/\w.cell? ⟨b,off+i * 2,none⟩=some (.int .i64 (l.getD i default).k)/\w.cell? ⟨b,off+i * 2+1,none⟩=some (.slice ra (l.getD i default).r.length rc)/\vl.rowAt w ra (l.getD i default).r
def GO(l:List Chg):Prop:=∀c∈l,BE c.r/\c.r.length<=9223372036854775807/\(-9223372036854775808<=c.k/\c.k<=9223372036854775807)
theorem Uw{l:List Chg}(h:GO l)(k:Nat)(hk:k<l.length):BE (l.getD k default).r/\(l.getD k default).r.length<=9223372036854775807/\(-9223372036854775808<=(l.getD k default).k/\(l.getD k default).k<=9223372036854775807):=
 h _ (by simp[gDe,hk])
theorem Fo{w w':World}{a:Option Addr}{l:List Chg}(h:Dv w a l)(hb:Bwz w w'):Dv w' a l:=by
 intro i hi
 obtain⟨b,o,ra,rc,e,x1,x2,x3⟩:=h i hi
 exact⟨b,o,ra,rc,e,cLz hb x1,cLz hb x2,Ac x3 hb⟩
def Bt(l:List Chg)(i:Nat):Bool:=
 if (l.getD i default).k=3 then decide (i+1<l.length)&&decide ((l.getD (i+1) default).k=4)else if (l.getD i default).k=4 then decide (0<i)&&decide ((l.getD (i - 1) default).k=3)else true
def EV(l:List Chg)(i:Nat):Int:=
 if (l.getD i default).k<1\/4<(l.getD i default).k then 4 else if Au (l.getD i default).r=0 then(if Bt l i then 0 else 6)else Au (l.getD i default).r
def first(f:Nat->Int):Nat->Int
 |0=>0
 |n+1=>if first f n=0 then f n else first f n
theorem JU{f:Nat->Int}(h:∀i,i<n->f i=0):first f n=0:=by
 induction n with
 |zero=>rfl
 |succ n ih=>rw[first,ih (fun i hi=>h i (by omega)),if_pos rfl,h n (by omega)]
theorem Ux{f:Nat->Int}{k:Nat}(n:Nat)(h:∀i,i<k->f i=0)(hk:f k≠0)(hkn:k<n):first f n=f k:=by
 induction n with
 |zero=>exact absurd hkn (Nat.not_lt_zero k)
 |succ n ih=>
  rw[first]
  by_cases e:k=n
  ·subst e;rw[JU h,if_pos rfl]
  ·rw[ih (by omega),if_neg hk]
def AS(l:List Chg):Int:=if 4096<l.length then 2 else first (EV l) l.length
def JW(l:List Chg)(i:Nat):Prop:=1<=(l.getD i default).k/\(l.getD i default).k<=4/\Au (l.getD i default).r=0/\Bt l i=true
theorem NY{l:List Chg}(h:EV l i=0):JW l i:=by
 unfold EV at h
 split at h
 ·cases h
 ·rename_i h1
  split at h
  ·rename_i h2
   split at h
   ·rename_i h3;exact⟨by omega,by omega,h2,h3⟩
   ·cases h
  ·contradiction
theorem Mn{l:List Chg}(h:JW l i):EV l i=0:=by
 obtain⟨h1,h2,h3,h4⟩:=h
 unfold EV
 rw[if_neg (by omega),if_pos h3,if_pos h4]
def AG(l:List Chg):Prop:=l.length<=4096/\∀i,i<l.length->JW l i
theorem WC{l:List Chg}(h:AG l):AS l=0:=by
 have:=h.1
 unfold AS
 rw[if_neg (by omega),JU (fun i hi=>Mn (h.2 i hi))]
def EW(w:World)(ad:Option Addr)(l:List Chg):Prop:=
 ∀i,i<l.length->∃g,ad=some ⟨g,0,none⟩/\w.cell? ⟨g,i,none⟩=some (.string ⟨(encR (l.getD i default).r).toArray⟩)
theorem Aa{a b:Bool}(h:a=b):Ending.returned (.bool a)= .returned (.bool b):=by rw[h]
def DK(k:Int):Int:=if k=1\/k=4 then 1 else -1
theorem NZ(k:Int)(w:World):Calls Tryz.prog 72 #[.int .i64 k] w fun e w'=>e= .returned (.int .i64 (DK k))/\w'=w:=by
 by_cases h1:k=1
 ·subst h1
  go_enter func72,ntmps72
  go_wp2
  go_ret
  exact⟨rfl,rfl⟩
 ·have h1':(k==1)=false:=by simpa using h1
  by_cases h2:k=4
  ·subst h2
   go_enter func72,ntmps72
   go_wp2
   go_ret
   exact⟨rfl,rfl⟩
  ·have h2':(k==4)=false:=by simpa using h2
   have e:DK k= -1:=by unfold DK;rw[if_neg (by omega)]
   rw[e]
   go_enter func72,ntmps72
   go_wp2
   go_ret
   exact⟨rfl,rfl⟩
theorem PF(a:Option Addr)(cap:Nat)(l:List Chg)(i:Nat)(w:World)(hv:Dv w a l)(hw:GO l)(hl:l.length<=1000000)(hi:i<l.length):
 Calls Tryz.prog 131 #[.slice a l.length cap,.int .i64 i] w fun e w'=>e= .returned (.bool (Bt l i))/\Bwz w w':=by
 obtain⟨b,o,ra,rc,e,x1,x2,x3⟩:=hv i hi
 subst e
 have HP:Hid (Bt l i=if (l.getD i default).k=3 then decide (i+1<l.length)&&decide ((l.getD (i+1) default).k=4)else if (l.getD i default).k=4 then decide (0<i)&&decide ((l.getD (i - 1) default).k=3)else true):=rfl
 have HV:Hid (∀j,j<l.length->w.cell? ⟨b,o+j * 2,none⟩=some (.int .i64 (l.getD j default).k)):=fun j hj=>by
  obtain⟨b',o',ra',rc',e',y1,y2,y3⟩:=hv j hj
  cases e'
  exact y1
 obtain⟨k,hk⟩:∃k,(l.getD i default).k=k:=⟨_,rfl⟩
 rw[hk]at x1 HP
 clear hk hv x2 x3
 obtain⟨n,hn⟩:∃n,l.length=n:=⟨_,rfl⟩
 rw[hn]at hl hi HP HV⊢
 clear hn
 have i1:(0:Int)<=(i:Int):=by omega
 have i2:(i:Int)<(n:Int):=by omega
 have hwi:IntKind.i64.wrap ((i:Int)+1)=(i:Int)+1:=by rw[B7];omega
 by_cases h3:k=3
 ·subst h3
  by_cases h4:i+1<n
  ·have y1:=HV.out (i+1) h4
   obtain⟨k2,hk2⟩:∃k,(l.getD (i+1) default).k=k:=⟨_,rfl⟩
   rw[hk2]at y1 HP
   have h4':(i:Int)+1<(n:Int):=by omega
   have hd:decide (k2=4)=(k2==4):=by rw[Bool.eq_iff_iff];simp
   have HE:Hid (Bt l i=(k2==4)):=by show Bt l i=_;rw[HP.out,if_pos rfl,decide_eq_true h4,hd];rfl
   clear HP hk2 hd
   go_enter func131,ntmps131
   go_wp2
   go_ret
   exact⟨Aa HE.out.symm,by first|exact bR|exact bR.drew⟩
  ·have h4':¬(i:Int)+1<(n:Int):=by omega
   have HE:Hid (Bt l i=false):=by show Bt l i=_;rw[HP.out,if_pos rfl,decide_eq_false h4];rfl
   clear HP
   go_enter func131,ntmps131
   go_wp2
   go_ret
   exact⟨Aa HE.out.symm,by first|exact bR|exact bR.drew⟩
 ·have h3':(k==3)=false:=by simpa using h3
  by_cases h4:k=4
  ·subst h4
   by_cases h5:0<i
   ·obtain⟨j,rfl⟩:∃j,i=j+1:=⟨i - 1,by omega⟩
    have y1:=HV.out j (by omega)
    have hj0:(j+1:Nat) - 1=j:=by omega
    rw[hj0]at HP
    obtain⟨k2,hk2⟩:∃k,(l.getD j default).k=k:=⟨_,rfl⟩
    rw[hk2]at y1 HP
    have hd:decide (k2=3)=(k2==3):=by rw[Bool.eq_iff_iff];simp
    have HE:Hid (Bt l (j+1)=(k2==3)):=by show Bt l (j+1)=_;rw[HP.out,if_neg (by decide),if_pos rfl,decide_eq_true h5,hd];rfl
    have hj1:(0:Int)<((j:Int)+1):=by omega
    have hj2:((j:Int))<(n:Int):=by omega
    have hj3:(0:Int)<=(j:Int):=by omega
    have hwj1:IntKind.i64.wrap ((j:Int)+1 - 1)=(j:Int):=by rw[B7];omega
    have hwj2:IntKind.i64.wrap (j:Int)=(j:Int):=by rw[B7];omega
    clear HP hk2 hd
    go_enter func131,ntmps131
    go_wp2
    go_ret
    exact⟨Aa HE.out.symm,by first|exact bR|exact bR.drew⟩
   ·have h5':i=0:=by omega
    subst h5'
    have HE:Hid (Bt l 0=false):=by show Bt l 0=_;rw[HP.out,if_neg (by decide),if_pos rfl,decide_eq_false h5];rfl
    clear HP
    simp only[Nat.zero_mul,Nat.add_zero]at x1
    go_enter func131,ntmps131
    go_wp2
    go_ret
    exact⟨Aa HE.out.symm,by first|exact bR|exact bR.drew⟩
  ·have h4':(k==4)=false:=by simpa using h4
   have HE:Hid (Bt l i=true):=by show Bt l i=_;rw[HP.out,if_neg h3,if_neg h4]
   clear HP
   go_enter func131,ntmps131
   go_wp2
   go_ret
   exact⟨Aa HE.out.symm,by first|exact bR|exact bR.drew⟩
end ch
namespace jn
open Go.RowKit
open vl bf
def leP(a b:Ent):Bool:= !decide (ltP b a)
def Ce(l:List Ent):List Ent:=l.mergeSort leP
theorem Bu(l:List Ent):(Ce l).Perm l:=List.mergeSort_perm l leP
theorem Sr(a b c:Ent)(h1:leP a b=true)(h2:leP b c=true):leP a c=true:=by
 unfold leP at *
 simp only[Bool.not_eq_true',decide_eq_false_iff_not]at *
 intro h
 rcases ltP_tri a b with k|k|k
 ·rcases ltP_tri b c with j|j|j
  ·exact Dm _ (Cd (Cd k j) h)
  ·exact Dm _ (Cd (LC k j) h)
  ·exact h2 j
 ·exact h2 (LC h k)
 ·exact h1 k
theorem Ss(a b:Ent):(leP a b||leP b a)=true:=by
 unfold leP
 by_cases h:ltP b a
 ·have:¬ltP a b:=fun k=>Dm _ (Cd k h)
  simp[h,this]
 ·simp[h]
theorem JY(l:List Ent):J5 (Ce l):=fun i j hij hj hlt=>by
 have hs:=List.pairwise_mergeSort (le:=leP) Sr Ss l
 have hi:i<(Ce l).length:=by omega
 have:=List.pairwise_iff_getElem.1 hs i j hi hj hij
 rw[getD_at hj,getD_at hi]at hlt
 unfold leP at this
 simp only[Bool.not_eq_true',decide_eq_false_iff_not]at this
 exact this hlt
theorem FE{l l':List Ent}(hp:l'.Perm l)(hb:J5 l')(hn:(l.map Ay).Nodup):l'=Ce l:=by
 have hn':(l'.map Ay).Nodup:=(Gu hp).2 hn
 have hs:((Ce l).map Ay).Nodup:=(Gu (Bu l)).2 hn
 exact Pm (hp.trans (Bu l).symm) (N7 hb hn') (N7 (JY l) hs)
def AW(side:Int)(own other:List Cel):List Cel:=if side=2 then other++own else own++other
def Co(mode side:Int):Bool:=if mode=2 then side==1 else if mode=3 then side==2 else mode==4
def AQ(p:pl.Pln)(side:Int)(row:List Cel):List Cel:=AW side row (bt.CD (pl.Aw p (3 - side)).length)
def CB(b:Buf)(key:ByteArray)(fr tO:Int):List Ent:=Ce ((Ab b).filter fun y=>decide (y.key=key)&&decide (fr<=y.time)&&decide (y.time<=tO))
def metE(qs:List Int)(y:Ent):Ent:=if y.seq∈qs then {y with met:=true}else y
def Cp(qs:List Int)(b:Buf):Buf:=⟨b.lim,b.mem.map (metE qs),b.runs.map (·.map (metE qs))⟩
def A3(s:Jn)(side:Int)(b:Buf):Jn:=if side=2 then⟨s.L,b,s.lm,s.rm,s.seq⟩else⟨b,s.R,s.lm,s.rm,s.seq⟩
def Dw(p:pl.Pln)(v:Ev):Int:=if p.kind=1 then(if v.side=1 then v.time+p.low else v.time - p.high)else v.time - v.time % p.size
def toJ(p:pl.Pln)(v:Ev):Int:=if p.kind=1 then(if v.side=1 then v.time+p.high else v.time - p.low)else v.time - v.time % p.size+p.size - 1
def partners(p:pl.Pln)(s:Jn)(v:Ev):List Ent:=if pl.hasB p v.side v.row=true then CB (Am s (3 - v.side)) (pl.Aq p v.side v.row) (Dw p v) (toJ p v)else []
def Cq(p:pl.Pln)(s:Jn)(v:Ev):List ch.Chg:=
 (partners p s v).flatMap (fun e=>if Co p.mode (3 - v.side)=true/\e.met=false then [⟨3,AQ p (3 - v.side) e.row⟩,⟨4,AW v.side v.row e.row⟩]else [⟨1,AW v.side v.row e.row⟩])
 ++if (partners p s v).isEmpty=true/\Co p.mode v.side=true then [⟨1,AQ p v.side v.row⟩]else []
def Cf(p:pl.Pln)(s:Jn)(v:Ev):Jn:=A3 s (3 - v.side) (Cp ((partners p s v).map (·.seq)) (Am s (3 - v.side)))
def Cg(p:pl.Pln)(s:Jn)(v:Ev):List Ent:=if pl.hasB p v.side v.row=true then CB s.R (pl.Aq p v.side v.row) (-1099511627776) v.time else []
def Gd(p:pl.Pln)(s:Jn)(v:Ev):List ch.Chg:=match (Cg p s v).getLast? with
 |some e=>[⟨1,AW v.side v.row e.row⟩]
 |none=>if Co p.mode 1=true then [⟨1,AQ p v.side v.row⟩]else []
def XZ(s:Jn)(key:ByteArray)(e:Ent):Option Ent:=((CB s.R key (-1099511627776) 1099511627776).filter fun y=>decide (y.time<=e.time)).getLast?
def Dx(p:pl.Pln)(s:Jn)(v:Ev):List Ent:=(if pl.hasB p v.side v.row=true then CB s.L (pl.Aq p v.side v.row) v.time 1099511627776 else []).filter fun e=>match XZ s (pl.Aq p v.side v.row) e with
 |some o=>decide (o.time<=v.time)
 |none=>true
def Ge(p:pl.Pln)(s:Jn)(v:Ev):List ch.Chg:=(Dx p s v).flatMap fun e=>match XZ s (pl.Aq p v.side v.row) e with
 |some o=>[⟨3,AW 1 e.row o.row⟩,⟨4,AW v.side v.row e.row⟩]
 |none=>if Co p.mode 1=true then [⟨3,AQ p 1 e.row⟩,⟨4,AW v.side v.row e.row⟩]else [⟨1,AW v.side v.row e.row⟩]
def CU(b:Buf)(y:Ent):Buf:=FF b (Ce (b.mem++[y]))
def Dy(p:pl.Pln)(s:Jn)(v:Ev)(met:Bool):Jn:=
 let t:=if pl.hasB p v.side v.row=true/\Cm p s v.side<v.time then A3 s v.side (CU (Am s v.side) ⟨pl.Aq p v.side v.row,v.time,s.seq,v.row,met⟩)else s
 ⟨t.L,t.R,t.lm,t.rm,t.seq+1⟩
def EF(p:pl.Pln)(s:Jn):Jn:=⟨C1 (D4 (Cm p s 1)) s.L,C1 (D4 (Cm p s 2)) s.R,s.lm,s.rm,s.seq⟩
def lastOf(s:Jn)(key:ByteArray)(low:Int):Int:=match ((Ce (Ab s.R)).filter fun y=>decide (y.key=key)&&decide (y.time<=low)).getLast? with
 |some y=>y.seq
 |none=>0
def PG(s:Jn):Int:=min s.lm s.rm
def St(s:Jn):Jn:=⟨s.L,C1 (fun y=>decide (PG s<y.time)||decide (lastOf s y.key (PG s)=y.seq)) s.R,s.lm,s.rm,s.seq⟩
def Cn(p:pl.Pln)(s:Jn):Jn:=if p.kind=3 then St (EF p s)else EF p s
def GA(p:pl.Pln)(s:Jn)(v:Ev):Jn×List ch.Chg:=
 if p.kind=3 then
  if v.side=1 then(Dy p s v (!(Cg p s v).isEmpty),Gd p s v)
  else(Dy p (A3 s 1 (Cp ((Dx p s v).map (·.seq)) s.L)) v false,Ge p s v)
 else(Dy p (Cf p s v) v (!(partners p s v).isEmpty),Cq p s v)
noncomputable def stepJ(p:pl.Pln)(s:Jn)(v:Ev):Int×Jn×List ch.Chg:=
 if BB p s≠0 then(BB p s,j0,[])else if A7 p s v≠0 then(A7 p s v,j0,[])
 else if v.kind=2 then(0,Cn p (DI s v.side v.time),[])else(0,GA p s v)
noncomputable def DW(p:pl.Pln):Jn->List Ev->Nat->Jn×List ch.Chg×List Int
 |s,[],_=>(s,[],[])
 |s,v::l,i=>if (stepJ p s v).1≠0 then let r:=DW p s l (i+1);(r.1,r.2.1,(i:Int)::r.2.2)
  else let r:=DW p (stepJ p s v).2.1 l (i+1);(r.1,(stepJ p s v).2.2++r.2.1,r.2.2)
end jn
namespace ch
open Go.ChangeShapes Go.WideShapes Go.ChangeAt Go.RowKit Go.Maps Go.WideMaps
open vl
variable {base cap : Nat} {w w' : World} {ad : Option Addr}
theorem Ya:(Tryz.prog.info? 9).map (fun i=>(i.zero,i.size,i.bytes))=some (some (.string ⟨#[]⟩),1,16):=by kernel_rfl
def PH(c:Chg):Value:=.string ⟨(encR c.r).toArray⟩
theorem WD{r:List Cel}(h:rowOk r):(.string (E9 r):Value)= .string ⟨(encR r).toArray⟩:=by
 rw[<-Ii h]
theorem PI{ops:Array Oper}{rest:List Oper}{o:Oper}{a:Act}{Q:Exit->Act->World->Prop}(hgd:o.guard=none)(s x:Operand)
 (ho:o.op= .call {callee:=.builtin .append,args:=#[s,x],argTypes:=#[118,118]}) (base:Nat) (v:Value) (n:Nat) (xs:List Value) (hs:a.eval s=v) (w0:World)
 (hown:w0.ownsRow base 9 1 v n xs) (X:ByteArray) (B:Nat) (hB:w0.heap.size=B) (hx:a.eval x= .slice (some ⟨B,0,none⟩) 1 1) (hl:n<=2000000) (hb:base<=w0.heap.size)
 (h:∀v' w',w'.ownsRow base 9 1 v' (n+1) (xs++[.string X])->(w0.alloc (.cells #[.string X] 9)).grownBy w' v.ownBlock->wpList Tryz.prog ops Q rest (a.put o.dst v') w'):
 wpList Tryz.prog ops Q (o::rest) a (w0.alloc (.cells #[.string X] 9)):=by
 subst hB
 obtain⟨i0,hi,hz0,hz1,hz2⟩:=info_parts Ya
 refine wpList_append_own _ hgd s x 118 ho base 9 i0 (.string ⟨#[]⟩) 1 16 underlying118 hi hz0 hz1 hz2 rfl (by decide) v n xs hs
  (World.ownsRow.alloc hown _) ⟨w0.heap.size,0,none⟩ 1 1 [.string X] hx rfl (cell_one_new _ _ _) (by intro u hu;simp at hu;subst hu;rfl) (by unfold maxLen;omega) (by omega) (by simp;omega) ?_
 intro v' w' h1 h2 _
 exact h v' w' h1 h2
theorem Su{w0:World}{e:TypeId}{size n:Nat}{xs:List Value}{v:Value}{o:Obj}(hb:Below base w w0)(h0:base<=w0.heap.size)(hown:w0.ownsRow base e size v n xs)(hg:(w0.alloc o).grownBy w' v.ownBlock):Below base w w':=
 (hb.alloc h0 o).grown hg (by simp;omega) (fun k hk=>(World.ownsRow.lt hown k hk).1)
theorem MU{l:List Chg}(h:4096<l.length):AS l=2:=by unfold AS;rw[if_pos h]
theorem PJ{l:List Chg}(h1:¬4096<l.length)(k:Nat)(hk:k<l.length)(h:∀i,i<k->JW l i)(he:EV l k≠0):AS l=EV l k:=by
 unfold AS;rw[if_neg h1,Ux _ (fun i hi=>Mn (h i hi)) he hk]
theorem takeC(l:List Chg)(k:Nat)(h:k<l.length):l.take (k+1)=l.take k++[l.getD k default]:=by
 rw[List.take_succ_eq_append_getElem h];simp[gDe,h]
theorem PL{l:List Chg}(h:w.ownsRow base 9 1 (.slice ad l.length cap) l.length (l.map PH)):EW w ad l:=by
 intro i hi
 obtain⟨ad',cap',hv,hg⟩:=Hp h
 cases hv
 obtain⟨g,rfl⟩:=hg (by omega)
 refine⟨g,rfl,?_⟩
 have h1:=World.ownsRow.cells h (g:=g) rfl i (.string ⟨(encR (l.getD i default).r).toArray⟩) (by
  simp[List.getElem?_map,gEe hi,gDe,PH])
 have e:(⟨g,0,none⟩:Addr).add i=⟨g,i,none⟩:=by unfold Addr.add;split<;>simp_all
 rw[e]at h1
 exact h1
theorem Hr{a b:Int}(h:a=b):Ending.returned (.tuple #[.slice none 0 0,.int .i64 a])= .returned (.tuple #[.slice none 0 0,.int .i64 b]):=by rw[h]
theorem Yt{a b:Nat}(h:a=b):Ending.returned (.tuple #[.slice ad a cap,.int .i64 0])= .returned (.tuple #[.slice ad b cap,.int .i64 0]):=by rw[h]
def Rv(l:List Chg)(e:Ending)(w':World):Prop:=
 (AS l=0/\AG l/\∃ad cap,e= .returned (.tuple #[.slice ad l.length cap,.int .i64 0])/\EW w' ad l)\/
 (AS l≠0/\e= .returned (.tuple #[.slice none 0 0,.int .i64 (AS l)]))
theorem Hs{l:List Chg}{x:Int}(h:AS l=x)(hx:x≠0):Rv l (.returned (.tuple #[.slice none 0 0,.int .i64 x])) w':=.inr ⟨by rw[h];exact hx,Hr h.symm⟩
theorem PM(a:Option Addr)(cap:Nat)(l:List Chg)(w:World)(hv:Dv w a l)(hw:GO l)(hl:l.length<=9223372036854775807):
 Calls Tryz.prog 70 #[.slice a l.length cap] w fun e w'=>Rv l e w'/\Bwz w w':=by
 have KP:Hid (∀w,Dv w a l->l.length<=1000000->∀i,i<l.length->CTz 131 #[.slice a l.length cap,.int .i64 i] w fun e w'=>e= .returned (.bool (Bt l i))/\Bwz w w'):=fun w h hl i hi=>PF a cap l i w h hw hl hi
 obtain⟨n,hn⟩:∃n,l.length=n:=⟨_,rfl⟩
 have HN:Hid (l.length=n):=hn
 rw[hn]at hl KP⊢
 clear hn
 by_cases h4:4096<n
 ·have HE:Hid (AS l=2):=MU (by rw[HN.out];exact h4)
  go_enter func70,ntmps70
  go_wp2
  go_ret2
  exact⟨Hs HE.out (by decide),bR⟩
 ·obtain⟨i0,hi,hz0,hz1,hz2⟩:=info_parts Ya
  obtain⟨wm,hmk,hown,hgr⟩:=run_make_own (P:=Tryz.prog) w w.heap.size 118 9 i0 (.string ⟨#[]⟩) 1 underlying118 hi hz0 hz1 .i64 .i64 n (by rw[hz2];omega) (by unfold maxLen;omega) nR
  have hbm:Bwz w wm:=bR.grown hgr nR (fun k hk=>by cases hk)
  have HOWN:Hid (wm.ownsRow w.heap.size 9 1 (.slice (some ⟨w.heap.size,0,none⟩) 0 n) 0 []):=hown
  have HV:Hid (Dv w a l):=hv
  clear hi hz0 hz1 hz2 hown hgr hv
  go_enter func70,ntmps70
  go_wp2
  go_loopw [4,17] (fun v i wr=> ∃k:Nat,k<=n/\i= .int .i64 k/\wr.ownsRow w.heap.size 9 1 v k ((l.take k).map PH)/\Bwz w wr/\(∀i,i<k->JW l i)) (fun _ i _=>n - (intOf i).toNat)
  case atStart=>exact⟨0,by omega,rfl,HOWN.out,hbm,fun i hi=>absurd hi (Nat.not_lt_zero i)⟩
  case round=>
   obtain⟨k,hk,rfl,hown,hnx,hall⟩:=hrel
   have HO:Hid (wr.ownsRow w.heap.size 9 1 u4 k ((l.take k).map PH)):=hown
   have HA:Hid (∀i,i<k->JW l i):=hall
   have hsz:=hnx.size
   clear hown hall
   by_cases hlt:k<n
   ·have hkl:k<l.length:=by rw[HN.out];exact hlt
    obtain⟨b,o,ra,rc,e,x1,x2,x3⟩:=HV.out k hkl
    subst e
    obtain⟨ww1,ww2,ww3,ww4⟩:=Uw hw k hkl
    have q1:=cLz hnx x1
    have q2:=cLz hnx x2
    have HR:Hid (vl.rowAt wr ra (l.getD k default).r):=Ac x3 hnx
    have i1:(0:Int)<=(k:Int):=by omega
    have i2:(k:Int)<(n:Int):=by omega
    have HB:Hid (EV l k≠0->AS l=EV l k):=fun he=>PJ (by rw[HN.out];exact h4) k hkl HA.out he
    have HS:Hid ((l.take (k+1)).map PH=(l.take k).map PH++[.string ⟨(encR (l.getD k default).r).toArray⟩]):=by
     show(l.take (k+1)).map PH=_
     rw[takeC l k hkl,List.map_append];rfl
    have HDEF:Hid (EV l k=if (l.getD k default).k<1\/4<(l.getD k default).k then 4 else if Au (l.getD k default).r=0 then(if Bt l k then 0 else 6)else Au (l.getD k default).r):=rfl
    have HPW:Hid (∀w',Bwz w w'->CTz 131 #[.slice (some ⟨b,o,none⟩) n cap,.int .i64 k] w' fun e w''=>e= .returned (.bool (Bt l k))/\Bwz w' w''):=fun w' hb=>KP.out w' (Fo HV.out hb) (by omega) k hlt
    obtain⟨⟨m,r⟩,hcv⟩:∃c,l.getD k default=c:=⟨_,rfl⟩
    rw[hcv]at q1 q2 HR HS HDEF ww1 ww2 ww3 ww4
    dsimp only at q1 q2 HR HS HDEF ww1 ww2 ww3 ww4
    clear x1 x2 x3 hcv
    obtain⟨rl,hrl⟩:∃l,r.length=l:=⟨_,rfl⟩
    rw[hrl]at q2
    have KK:Hid (∀w,vl.rowAt w ra r->CTz 109 #[.slice ra rl rc] w fun e w'=>e= .returned (.tuple #[.string (E9 r),.int .i64 (Au r)])/\Bwz w w'):=by
     subst hrl;exact fun w h=>JB ra rc r w h ww1 ww2
    by_cases e1:m<1
    ·have HE:Hid (AS l=4):=by
      have hd:=HDEF.out
      rw[if_pos (.inl e1)]at hd
      show AS l=4
      rw[HB.out (by rw[hd];decide),hd]
     go_wp2
     go_ret2
     exact⟨Hs HE.out (by decide),hnx.alloc hsz _⟩
    ·have e1':decide (m<1)=false:=decide_eq_false e1
     by_cases e2:4<m
     ·have HE:Hid (AS l=4):=by
       have hd:=HDEF.out
       rw[if_pos (.inr e2)]at hd
       show AS l=4
       rw[HB.out (by rw[hd];decide),hd]
      go_wp2
      go_ret2
      exact⟨Hs HE.out (by decide),hnx.alloc hsz _⟩
     ·have e2':decide (4<m)=false:=decide_eq_false e2
      by_cases e3:Au r=0
      ·have hok8:rowOk r:=Lm e3 ww1
       have HKS:Hid ((.string (E9 r):Value)= .string ⟨(encR r).toArray⟩):=WD hok8
       obtain⟨ks,hks⟩:∃s,E9 r=s:=⟨_,rfl⟩
       obtain⟨pb,hpb⟩:∃x,Bt l k=x:=⟨_,rfl⟩
       rw[hks]at KK HKS
       rw[hpb]at HPW HDEF
       have HPB:Hid (Bt l k=pb):=hpb
       clear hks hok8 hpb
       cases pb
       ·have HE:Hid (AS l=6):=by
         have hd:=HDEF.out
         rw[if_neg (by omega),if_pos e3,if_neg (by decide)]at hd
         show AS l=6
         rw[HB.out (by rw[hd];decide),hd]
        go_wp2_with (first
         |(go_at_call 109;refine(KK.out _ (Ac HR.out (bR.alloc nR _))).mono ?_;rintro e wa ⟨rfl,hba⟩;have hla:=(hnx.alloc hsz _).trans (hba.mono (by simp;omega)))
         |(go_at_call 131;refine(HPW.out _ hla).mono ?_;rintro e wb ⟨rfl,hbb⟩))
        go_ret2
        exact⟨Hs HE.out (by decide),hla.trans (hbb.mono hla.size)⟩
       ·have HE:Hid (JW l k):=NY (by
         have hd:=HDEF.out
         rw[if_neg (by omega),if_pos e3,if_pos rfl]at hd
         exact hd)
        go_wp2_with (first
         |(go_at_call 109;refine(KK.out _ (Ac HR.out (bR.alloc nR _))).mono ?_;rintro e wa ⟨rfl,hba⟩;have hla:=(hnx.alloc hsz _).trans (hba.mono (by simp;omega));have hbw:Bwz wr wa:=(bR.alloc nR _).trans (hba.mono (by simp)))
         |(go_at_call 131;refine(HPW.out _ hla).mono ?_;rintro e wb ⟨rfl,hbb⟩;have hlb:=hla.trans (hbb.mono hla.size);have HOB:=own_below HO.out (hbw.trans (hbb.mono hbw.size)))
         |(at_builtin;refine PI rfl (.tmp 43) (.tmp 45) rfl w.heap.size _ k _ rfl _ HOB _ _ rfl rfl (by omega) hlb.size ?_;intro v' w1 hown1 hgrow1))
        go_roundw
        case rel=>exact⟨k+1,by omega,by go_num,by rw[HS.out,<-HKS.out];exact hown1,Su hlb hlb.size HOB hgrow1,fun i hi=>by
         rcases Nat.lt_or_ge i k with h|h
         ·exact HA.out i h
         ·rw[show i=k by omega];exact HE.out⟩
        case measure=>simp[intOf];omega
      ·have e3':(Au r==0)=false:=by simpa using e3
       have HE:Hid (AS l=Au r):=by
        have hd:=HDEF.out
        rw[if_neg (by omega),if_neg e3]at hd
        show AS l=Au r
        rw[HB.out (by rw[hd];exact e3),hd]
       go_wp2_with (go_at_call 109;refine(KK.out _ (Ac HR.out (bR.alloc nR _))).mono ?_;rintro e wa ⟨rfl,hba⟩;have hla:=(hnx.alloc hsz _).trans (hba.mono (by simp;omega)))
       go_ret2
       exact⟨Hs HE.out e3,hla⟩
   ·have hkn:k=n:=by omega
    have HT:Hid (l.take k=l):=List.take_of_length_le (by rw[HN.out];omega)
    have HO2:Hid (AG l):=⟨by rw[HN.out];omega,fun i hi=>HA.out i (by rw[HN.out]at hi;omega)⟩
    obtain⟨ad,cap2,hv2,_⟩:=Hp HO.out
    subst hv2
    go_wp2
    go_ret2
    exact⟨.inl ⟨WC HO2.out,HO2.out,ad,cap2,Yt (hkn.trans HN.out.symm),PL (by have h:=HO.out;rw[HT.out,hkn]at h;rw[HN.out];exact h)⟩,hnx⟩
end ch
end Go.Proofs.YtdohnkkbkfhphaaGreat
