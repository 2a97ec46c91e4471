import Derived.Test.YtdohnkkbkfhphaaGreatPc26
set_option linter.all false
set_option maxHeartbeats 4000000
set_option maxRecDepth 100000
namespace Go.Proofs.YtdohnkkbkfhphaaGreat
open Go.Proofs.Tryz
namespace jn
open Go.ChangeShapes Go.WideShapes Go.ChangeAt Go.RowKit
open vl bf
attribute [local go_sem] Oper.semAt_some
variable {p : pl.Pln} {s : Jn} {v : Ev} {tO : Int}
def Bz(p:pl.Pln)(v:Ev)(ra:Option Addr)(rc:Nat):Value:=.agg #[.int .i64 v.side,.int .i64 v.time,.slice ra v.row.length rc,.string (pl.Aq p v.side v.row),.bool (pl.hasB p v.side v.row)]
theorem NW(p:pl.Pln)(x:pl.PA)(v:Ev)(ra:Option Addr)(rc:Nat)(w:World)(hw:pl.wfPlan p)(hp:pl.planAt w p x)(hv:evAt w v ra):
 Calls Tryz.prog 49 #[pl.Ap p x,evV v ra rc] w fun e w'=>e= .returned (Bz p v ra rc)/\Bwz w w':=by
 have KK:=hIz (fun(w1:World) (hb:Bwz w w1)=>pl.MG p x v.side ra rc v.row w1 hw (pl.Af hp hb) (vl.Ac hv.row hb) hv.wf hv.len)
 unfold Bz
 obtain⟨kb,h1⟩:=nM (pl.Aq p v.side v.row)
 obtain⟨hb,h2⟩:=nM (pl.hasB p v.side v.row)
 obtain⟨re,h3⟩:=nM (pl.AB p v.side v.row)
 rw[h1,h2,h3]at KK
 rw[h1,h2]
 clear h1 h2 h3 hw hp hv
 unfold pl.Ap at KK⊢
 unfold evV
 obtain⟨kd,sd,tm,row⟩:=v
 dsimp only at *
 obtain⟨n,hn⟩:=nM row.length
 rw[hn]at KK⊢
 clear hn
 go_enter func49,ntmps49
 go_wp2_with fail
 generalize hV:(World.alloc (World.alloc (World.alloc w _) _) _)=V
 have hb0:Bwz w V:=by rw[<-hV];exact((bR.alloc nR _).alloc (by simp) _).alloc (by simp;omega) _
 have q1:V.cell? ⟨w.heap.size+1,1,none⟩=some (.int .i64 sd):=by subst hV;go_simp
 have q2:V.cell? ⟨w.heap.size+1,2,none⟩=some (.int .i64 tm):=by subst hV;go_simp
 have q3:V.cell? ⟨w.heap.size+1,3,none⟩=some (.slice ra n rc):=by subst hV;go_simp
 have z0:V.cell? ⟨w.heap.size+1+1,0,none⟩=some (.int .i64 0):=by subst hV;go_simp
 have z1:V.cell? ⟨w.heap.size+1+1,1,none⟩=some (.int .i64 0):=by subst hV;go_simp
 have z2:V.cell? ⟨w.heap.size+1+1,2,none⟩=some (.slice none 0 0):=by subst hV;go_simp
 have z3:V.cell? ⟨w.heap.size+1+1,3,none⟩=some (.string ⟨#[]⟩):=by subst hV;go_simp
 have z4:V.cell? ⟨w.heap.size+1+1,4,none⟩=some (.bool false):=by subst hV;go_simp
 have o0:V.frozen? ⟨w.heap.size+1+1,0,none⟩=false:=by subst hV;go_simp
 have o1:V.frozen? ⟨w.heap.size+1+1,1,none⟩=false:=by subst hV;go_simp
 have o2:V.frozen? ⟨w.heap.size+1+1,2,none⟩=false:=by subst hV;go_simp
 have o3:V.frozen? ⟨w.heap.size+1+1,3,none⟩=false:=by subst hV;go_simp
 have o4:V.frozen? ⟨w.heap.size+1+1,4,none⟩=false:=by subst hV;go_simp
 clear hV
 refine(KK.out _ hb0).mono ?_
 rintro e w1 ⟨rfl,hb1⟩
 have hbw:Bwz w w1:=hb0.trans (hb1.mono hb0.size)
 have lz:=bLt _ _ z0
 replace q1:=cLz hb1 q1
 replace q2:=cLz hb1 q2
 replace q3:=cLz hb1 q3
 replace z0:=cLz hb1 z0
 replace z1:=cLz hb1 z1
 replace z2:=cLz hb1 z2
 replace z3:=cLz hb1 z3
 replace z4:=cLz hb1 z4
 replace o0:=(hb1.frozen (p:=⟨w.heap.size+1+1,0,none⟩) lz).trans o0
 replace o1:=(hb1.frozen (p:=⟨w.heap.size+1+1,1,none⟩) lz).trans o1
 replace o2:=(hb1.frozen (p:=⟨w.heap.size+1+1,2,none⟩) lz).trans o2
 replace o3:=(hb1.frozen (p:=⟨w.heap.size+1+1,3,none⟩) lz).trans o3
 replace o4:=(hb1.frozen (p:=⟨w.heap.size+1+1,4,none⟩) lz).trans o4
 clear hb1 hb0 KK lz
 go_wp2
 exact bodyPost_ret (v:=.agg #[.int .i64 sd,.int .i64 tm,.slice ra n rc,.string kb,.bool hb]) (by simp[results,results49,go_sem,z0,z1,z2,z3,z4]) rfl ⟨rfl,((((hbw.setCell (by dsimp only;omega) _).setCell (by dsimp only;omega) _).setCell (by dsimp only;omega) _).setCell (by dsimp only;omega) _).setCell (by dsimp only;omega) _⟩
theorem Uq(h:pl.Al p=0)(side:Int):1<=(pl.Aw p side).length/\(pl.Aw p side).length<=4:=by
 have:=pl.CX (pl.BW h).2.2.1
 unfold pl.Aw
 split<;>omega
theorem JQ(n:Nat):(bt.CD n).length=n:=by unfold bt.CD;rw[List.length_replicate]
theorem Gc(b:Nat)(p:pl.Pln)(x:pl.PA)(side:Int)(ra:Option Addr)(rc:Nat)(row:List Cel)(w:World)(hp:pl.Al p=0)(hs:pl.Be side=true)(hb:Br w b p x)(hr:vl.rowAt w ra row)(n1:0<row.length)(m1:row.length<=400):
 Calls Tryz.prog 270 #[.pointer (some ⟨b,0,none⟩),.int .i64 side,.slice ra row.length rc] w fun e w'=>(∃ad cap,e= .returned (.slice ad (AQ p side row).length cap)/\AA w' w.heap.size (.slice ad (AQ p side row).length cap) (AQ p side row))/\Bwz w w':=by
 have hc:=Uq hp (3 - side)
 have KO:=hIz (fun(w1:World)=>Gp side w1 hs)
 have KN:=hIz (fun(w1:World)=>bt.Th p x (3 - side) w1 hc.1 hc.2)
 have KJ:Hid (∀gb w1,Bwz w w1->vl.rowAt w1 (some ⟨gb,0,none⟩) (bt.CD (pl.Aw p (3 - side)).length)->CTz 267 #[.int .i64 side,.slice ra row.length rc,.slice (some ⟨gb,0,none⟩) (pl.Aw p (3 - side)).length (pl.Aw p (3 - side)).length] w1 fun e w'=>(∃ad cap,e= .returned (.slice ad (AQ p side row).length cap)/\AA w' w1.heap.size (.slice ad (AQ p side row).length cap) (AQ p side row))/\Bwz w1 w'):=fun gb w1 hb1 hn=>by
  have:=CL side ra (some ⟨gb,0,none⟩) rc (pl.Aw p (3 - side)).length row (bt.CD (pl.Aw p (3 - side)).length) w1 n1 (by rw[JQ];omega) m1 (by rw[JQ];omega) (vl.Ac hr hb1) hn
  rw[JQ]at this
  exact this
 obtain⟨v0,v1,v2,v3,v4,v5,v6,v7,v8,v9,v10,v11,v12⟩:=hb
 have SK:Hid (∀w',Bwz w w'->w'.cell? ⟨b,0,none⟩=some (.int .i64 p.kind)/\w'.cell? ⟨b,1,none⟩=some (.int .i64 p.mode)/\w'.cell? ⟨b,2,none⟩=some (.int .i64 p.low)/\w'.cell? ⟨b,3,none⟩=some (.int .i64 p.high)/\w'.cell? ⟨b,4,none⟩=some (.int .i64 p.size)/\w'.cell? ⟨b,5,none⟩=some (.int .i64 p.limit)/\w'.cell? ⟨b,6,none⟩=some (.slice x.l p.left.length x.lc)/\w'.cell? ⟨b,7,none⟩=some (.slice x.r p.right.length x.rc)/\w'.cell? ⟨b,8,none⟩=some (.slice x.lk p.lkeys.length x.lkc)/\w'.cell? ⟨b,9,none⟩=some (.slice x.rk p.rkeys.length x.rkc)/\w'.cell? ⟨b,10,none⟩=some (.bool p.grouped)/\w'.cell? ⟨b,11,none⟩=some (.slice x.g p.group.length x.gc)/\w'.cell? ⟨b,12,none⟩=some (.slice x.a p.aggs.length x.ac)):=fun w' hz=>⟨cLz hz v0,cLz hz v1,cLz hz v2,cLz hz v3,cLz hz v4,cLz hz v5,cLz hz v6,cLz hz v7,cLz hz v8,cLz hz v9,cLz hz v10,cLz hz v11,cLz hz v12⟩
 obtain⟨q,hq⟩:=nM ((AQ p side row).length)
 obtain⟨n,hn⟩:=nM ((pl.Aw p (3 - side)).length)
 obtain⟨od,hod⟩:=nM (3 - side)
 obtain⟨rl,hrl⟩:=nM row.length
 rw[hn,hq,hrl]at KJ
 rw[hn,hod]at KN
 rw[hod]at KO
 rw[hq,hrl]
 clear hn hq hod hrl hc hp hs hr n1 m1
 unfold pl.Ap at KN
 go_enter func270,ntmps270
 go_wp2
 go_region_held3 (fun w'=>w'.cell? ⟨b,0,none⟩=some (.int .i64 p.kind)/\w'.cell? ⟨b,1,none⟩=some (.int .i64 p.mode)/\w'.cell? ⟨b,2,none⟩=some (.int .i64 p.low)/\w'.cell? ⟨b,3,none⟩=some (.int .i64 p.high)/\w'.cell? ⟨b,4,none⟩=some (.int .i64 p.size)/\w'.cell? ⟨b,5,none⟩=some (.int .i64 p.limit)/\w'.cell? ⟨b,6,none⟩=some (.slice x.l p.left.length x.lc)/\w'.cell? ⟨b,7,none⟩=some (.slice x.r p.right.length x.rc)/\w'.cell? ⟨b,8,none⟩=some (.slice x.lk p.lkeys.length x.lkc)/\w'.cell? ⟨b,9,none⟩=some (.slice x.rk p.rkeys.length x.rkc)/\w'.cell? ⟨b,10,none⟩=some (.bool p.grouped)/\w'.cell? ⟨b,11,none⟩=some (.slice x.g p.group.length x.gc)/\w'.cell? ⟨b,12,none⟩=some (.slice x.a p.aggs.length x.ac)) (first|exact SK.out _ hy|exact SK.out _ (bR.drew)|go_keep)
  (first
   |(go_at_call 267;refine(KJ.out _ _ hy hnr).mono ?_;rintro e wj ⟨⟨ad,cap,rfl,ho⟩,hbj⟩;have hyj:Bwz w wj:=hy.trans (hbj.mono hy.size);have hso:w.heap.size<=wn.heap.size:=hy.size;have hy:=hyj)
   |(go_at_call 275;refine(KN.out _).mono ?_;rintro e wn ⟨⟨gb,rfl,hgb,hnr⟩,hbn⟩;have hy:Bwz w wn:=bR.drew.trans hbn)
   |(go_at_call 264;refine(KO.out _).mono ?_;rintro e w2 ⟨rfl,rfl⟩))
 all_goals
  go_wp2
  go_ret
  exact⟨⟨ad,cap,rfl,World.ownsRow.mono ho hso⟩,hyj⟩
def BC(p:pl.Pln)(s:Jn)(v:Ev)(fr tO:Int):List Ent:=if pl.hasB p v.side v.row=true then CB (Am s (3 - v.side)) (pl.Aq p v.side v.row) fr tO else []
theorem Sm(b:Buf)(k:ByteArray)(a z:Int):((Ab b).filter fun y=>decide (y.key=k)&&decide (a<=y.time)&&decide (y.time<=z))=(Ab b).filter (Hc k a z):=by
 congr 1
 funext y
 unfold Hc
 rw[Bool.and_assoc]
theorem Ru{b:Buf}(h:okB b){k:ByteArray}{a z:Int}{l:List Ent}(hp:l.Perm ((Ab b).filter (Hc k a z)))(hb:J5 l):l=CB b k a z:=by
 unfold CB
 rw[Sm]
 exact FE hp hb (h.once.sublist (List.filter_sublist.map _))
theorem Hn{fr:Int}(h:okB (Am s (3 - v.side))):(BC p s v fr tO).length<=4096:=by
 unfold BC
 split
 ·unfold CB
  rw[(Bu _).length_eq]
  exact Nat.le_trans (List.length_filter_le ..) h.all
 ·exact Nat.zero_le _
theorem Ho{fr:Int}{y:Ent}(h:y∈BC p s v fr tO):y∈Ab (Am s (3 - v.side)):=by
 unfold BC at h
 split at h
 ·unfold CB at h
  exact(List.mem_filter.1 ((Bu _).mem_iff.1 h)).1
 ·exact absurd h List.not_mem_nil
theorem FD(b:Nat)(p:pl.Pln)(x:pl.PA)(s:Jn)(y:JX)(t:Value)(v:Ev)(ra:Option Addr)(rc:Nat)(fr tO:Int)(w:World)(hs:pl.Be v.side=true)(h:boxC w b p x s y t)(hB:bufAt w (Am s (3 - v.side)) (Bv y (3 - v.side)))(ok:okB (Am s (3 - v.side)))(wf:∀z∈Ab (Am s (3 - v.side)),wfE z/\wfP (Ay z)):
 Calls Tryz.prog 266 #[.pointer (some ⟨b,0,none⟩),Bz p v ra rc,.int .i64 fr,.int .i64 tO] w fun e w'=>(∃hh es,e= .returned (hdV hh)/\OE w' w.heap.size (hdV hh) es (BC p s v fr tO))/\Bwz w w':=by
 unfold BC Bz
 cases hk:pl.hasB p v.side v.row with
 |false=>
  rw[if_neg (by decide)]
  obtain⟨kb,h1⟩:=nM (pl.Aq p v.side v.row)
  obtain⟨rl,hrl⟩:=nM v.row.length
  rw[h1,hrl]
  clear h1 hrl
  go_enter func266,ntmps266
  go_wp2
  go_ret
  exact⟨⟨(none,0,0),[],rfl,CA (by simp)⟩,bR.alloc nR _⟩
 |true=>
  rw[if_pos rfl]
  have KO:=hIz (fun(w1:World)=>Gp v.side w1 hs)
  have KB:Hid (∀w1,CTz 144 #[.pointer (some ⟨b,13,none⟩),.int .i64 (3 - v.side)] w1 fun e w'=>e= .returned (.pointer (some ⟨b,13+At (3 - v.side),none⟩))/\w'=w1):=fun w1=>EI b 13 (3 - v.side) w1
  obtain⟨HC0,HC1,HC2⟩:=Ek h.join (3 - v.side)
  have hbl:=h.lt
  obtain⟨B,hBf⟩:=nM (Am s (3 - v.side))
  obtain⟨X,hX⟩:=nM (Bv y (3 - v.side))
  rw[hBf]at HC0 hB ok wf⊢
  rw[hX]at HC1 HC2 hB
  have KS:Hid (∀w1,Bwz w w1->CTz 273 #[AN B X,.string (pl.Aq p v.side v.row),.int .i64 fr,.int .i64 tO] w1 fun e w'=>(∃(hh:Hdr) (es':List EM),e= .returned (.tuple #[hdV hh,.int .i64 0])/\OE w' w1.heap.size (hdV hh) es' (CB B (pl.Aq p v.side v.row) fr tO))/\Bwz w1 w'):=fun w1 hb=>(Sd B X _ fr tO w1 (Ai hB hb) wf (by have:=ok.all;omega) (Ds ok)).mono (by
   rintro e w' ⟨⟨hh,es',l',rfl,hp,hby,ho⟩,hb'⟩
   rw[Ru ok hp hby]at ho
   exact⟨⟨hh,es',rfl,ho⟩,hb'⟩)
  obtain⟨kb,h1⟩:=nM (pl.Aq p v.side v.row)
  obtain⟨rl,hrl⟩:=nM v.row.length
  obtain⟨k,hkk⟩:=nM (13+At (3 - v.side))
  rw[h1]at KS
  rw[hkk]at KB HC0 HC1 HC2
  rw[h1,hrl]
  obtain⟨LS,hLS⟩:=nM (CB B kb fr tO)
  rw[hLS]at KS⊢
  obtain⟨od,hod⟩:=nM (3 - v.side)
  rw[hod]at KO KB
  obtain⟨ra',rc',⟨⟨m1,m2,m3⟩,ml⟩,rs⟩:=X
  obtain⟨lim,mem,runs⟩:=B
  unfold AN hdV at KS
  dsimp only at KS HC0 HC1 HC2
  obtain⟨n,hn⟩:=nM rs.length
  rw[hn]at KS HC2
  clear h1 hrl hkk hLS hod hn h hB ok wf hBf hX hk hs
  have hne:b≠w.heap.size:=by omega
  go_enter func266,ntmps266
  go_wp2
  generalize hV:(World.alloc w _)=V
  have hb0:Bwz w V:=by rw[<-hV];exact bR.alloc nR _
  have c0:V.cell? ⟨w.heap.size,0,none⟩=some (.int .i64 v.side):=by subst hV;go_simp
  have c3:V.cell? ⟨w.heap.size,3,none⟩=some (.string kb):=by subst hV;go_simp
  replace HC0:=cLz hb0 HC0
  replace HC1:=cLz hb0 HC1
  replace HC2:=cLz hb0 HC2
  clear hV
  have SK:Hid (∀w',Bwz V w'->w'.cell? ⟨w.heap.size,0,none⟩=some (.int .i64 v.side)/\w'.cell? ⟨w.heap.size,3,none⟩=some (.string kb)/\w'.cell? ⟨b,k,none⟩=some (.int .i64 lim)/\w'.cell? ⟨b,k+1,none⟩=some (.slice m1 m2 m3)/\w'.cell? ⟨b,k+1+1,none⟩=some (.slice ra' n rc')):=fun w' hz=>⟨cLz hz c0,cLz hz c3,cLz hz HC0,cLz hz HC1,cLz hz HC2⟩
  go_region_held3 (fun w'=>w'.cell? ⟨w.heap.size,0,none⟩=some (.int .i64 v.side)/\w'.cell? ⟨w.heap.size,3,none⟩=some (.string kb)/\w'.cell? ⟨b,k,none⟩=some (.int .i64 lim)/\w'.cell? ⟨b,k+1,none⟩=some (.slice m1 m2 m3)/\w'.cell? ⟨b,k+1+1,none⟩=some (.slice ra' n rc')) (first|exact SK.out _ hy|exact SK.out _ (bR.drew)|go_keep)
   (first
    |(go_at_call 273;refine(KS.out _ hb0.drew).mono ?_;rintro e wn ⟨⟨hh,es',rfl,ho⟩,hbn⟩;have hy:Bwz V wn:=bR.drew.trans hbn;obtain⟨h1,h2,h3⟩:=hh;dsimp only at ho⊢)
    |(go_at_call 144;refine(KB.out _).mono ?_;rintro e w3 ⟨rfl,rfl⟩)
    |(go_at_call 264;refine(KO.out _).mono ?_;rintro e w2 ⟨rfl,rfl⟩))
  all_goals
   go_wp2
   go_ret
   exact⟨⟨(h1,h2,h3),es',rfl,ho.mono (by have:=hb0.size;simpa using this)⟩,hb0.trans (hy.mono hb0.size)⟩
end jn
end Go.Proofs.YtdohnkkbkfhphaaGreat
