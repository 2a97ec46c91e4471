import Derived.Test.YtdohnkkbkfhphaaGreatPc5
set_option linter.all false
set_option maxHeartbeats 4000000
set_option maxRecDepth 100000
namespace Go.Proofs.YtdohnkkbkfhphaaGreat
open Go.Proofs.Tryz
namespace vl
open Go.ChangeShapes Go.WideShapes Go.ChangeAt Go.RowKit
variable {r : List Cel}
theorem wrap_i64(x:Int):IntKind.i64.wrap x=wrap64 x:=by
 simp only[IntKind.wrap,IntKind.signed,IntKind.bits,wrap64]
 simp
 split<;>omega
theorem L9(x:Nat)(hx:x<18446744073709551616):(BitVec.ofInt 64 (wrap64 (x:Int))).toNat=x:=by
 rw[BitVec.toNat_ofInt]
 show((wrap64 (x:Int)) % 18446744073709551616).toNat=x
 unfold wrap64
 omega
theorem Wk(u b:Nat)(hu:u<72057594037927936)(hb:b<256):bits BinOp.or IntKind.i64 (wrap64 ((u:Int) * 256)) (b:Int)=wrap64 ((u * 256+b:Nat):Int):=by
 unfold bits
 simp only[wrap_i64]
 rw[BitVec.toNat_or]
 have e1:(BitVec.ofInt IntKind.i64.bits (wrap64 ((u:Int) * 256))).toNat=u * 256:=by
  have:=L9 (u * 256) (by omega)
  rw[show((u * 256:Nat):Int)=(u:Int) * 256 by omega]at this
  exact this
 have e2:(BitVec.ofInt IntKind.i64.bits (b:Int)).toNat=b:=EH b (by omega)
 rw[e1,e2,UK u b hb]
theorem TW(u:Nat)(hu:u<18446744073709551616):bits BinOp.xor IntKind.i64 (wrap64 (u:Int)) (-9223372036854775808)=(u:Int) - 9223372036854775808:=by
 unfold bits
 simp only[wrap_i64]
 rw[BitVec.toNat_xor]
 have e1:(BitVec.ofInt IntKind.i64.bits (wrap64 (u:Int))).toNat=u:=L9 u hu
 have e2:(BitVec.ofInt IntKind.i64.bits (-9223372036854775808)).toNat=9223372036854775808:=by rw[BitVec.toNat_ofInt];rfl
 rw[e1,e2]
 by_cases h:u<9223372036854775808
 ·have:=JJ u (by omega)
  rw[show(2:Nat) ^ 63=9223372036854775808 by decide]at this
  rw[this]
  unfold wrap64
  omega
 ·have:=L6 u (by omega) (by omega)
  rw[show(2:Nat) ^ 63=9223372036854775808 by decide]at this
  rw[this]
  unfold wrap64
  omega
theorem P0(s:ByteArray)(w:World)(hs:s.size=0):
 Calls Tryz.prog 187 #[.string s] w fun e w'=>D3 s e/\Bwz w w':=by
 have HL:Hid (s.data.toList=[]):=List.eq_nil_of_length_eq_zero (by rw[A4];exact hs)
 go_enter func187,ntmps187
 go_wp2
 exact bodyPost_ret (v:=.tuple #[.agg #[.int .i64 0,.int .i64 0,.string ⟨#[]⟩],.int .i64 0]) (by simp[results,results187,go_sem]) rfl
  ⟨⟨⟨0,0,⟨#[]⟩⟩,0,rfl,Nat.zero_le _,wf0 _ _ (by decide) (by decide),by rw[HL.out];exact reads_nil _ _⟩,
  by repeat (first|exact bR|(refine below_drewN ?_ _)|apply Below.drew|(refine Below.setCell ?_ (by simp) _)|(refine Below.alloc ?_ (by simp<;>omega) _))
  ⟩
theorem Rd(s:ByteArray)(w:World)(hs:0<s.size)(hm:s.size<=maxLen)(h0:s[0]=0):
 Calls Tryz.prog 187 #[.string s] w fun e w'=>D3 s e/\Bwz w w':=by
 have HR:Hid (reads s.data.toList ⟨0,0,⟨#[]⟩⟩ 1):=by
  show reads s.data.toList ⟨0,0,⟨#[]⟩⟩ 1
  rw[DL s hs,h0];exact PP _
 have hk:(s[0].toNat:Int)=0:=by rw[h0];rfl
 clear h0
 have hm':=hm
 unfold maxLen at hm'
 have i0:(0:Int)<(s.size:Int):=by omega
 have iz:((s.size:Int)==0)=false:=by rw[beq_eq_false_iff_ne];omega
 have b0:(s[0].toNat:Int)<=255:=by have:=s[0].toNat_lt;omega
 go_enter func187,ntmps187
 go_wp2
 exact bodyPost_ret (v:=.tuple #[.agg #[.int .i64 0,.int .i64 0,.string ⟨#[]⟩],.int .i64 1]) (by simp[results,results187,go_sem]) rfl
  ⟨⟨⟨0,0,⟨#[]⟩⟩,1,rfl,hs,wf0 _ _ (by decide) (by decide),HR.out⟩,
  by repeat (first|exact bR|(refine below_drewN ?_ _)|apply Below.drew|(refine Below.setCell ?_ (by simp) _)|(refine Below.alloc ?_ (by simp<;>omega) _))
  ⟩
theorem P4(s:ByteArray)(w:World)(hs:0<s.size)(hm:s.size<=maxLen)(h0:s[0]≠0)(h1:s[0]≠1)(h2:s[0]≠2)(h3:s[0]≠3):
 Calls Tryz.prog 187 #[.string s] w fun e w'=>D3 s e/\Bwz w w':=by
 have HN:Hid (noCell s.data.toList):=by
  show noCell s.data.toList
  rw[DL s hs];exact RI h0 h1 h2 h3
 have k0:((s[0].toNat:Int)==0)=false:=(CC s[0] 0).trans (decide_eq_false h0)
 have k1:((s[0].toNat:Int)==1)=false:=(CC s[0] 1).trans (decide_eq_false h1)
 have k2:((s[0].toNat:Int)==2)=false:=(CC s[0] 2).trans (decide_eq_false h2)
 have k3:((s[0].toNat:Int)==3)=false:=(CC s[0] 3).trans (decide_eq_false h3)
 clear h0 h1 h2 h3
 have hm':=hm
 unfold maxLen at hm'
 have i0:(0:Int)<(s.size:Int):=by omega
 have iz:((s.size:Int)==0)=false:=by rw[beq_eq_false_iff_ne];omega
 have b0:(s[0].toNat:Int)<=255:=by have:=s[0].toNat_lt;omega
 go_enter func187,ntmps187
 go_wp2
 exact bodyPost_ret (v:=.tuple #[.agg #[.int .i64 (s[0].toNat:Int),.int .i64 0,.string ⟨#[]⟩],.int .i64 0]) (by simp[results,results187,go_sem]) rfl
  ⟨⟨⟨_,0,⟨#[]⟩⟩,0,rfl,Nat.zero_le _,wf0 _ _ (by decide) (by decide),FH HN.out _ _⟩,
  by repeat (first|exact bR|(refine below_drewN ?_ _)|apply Below.drew|(refine Below.setCell ?_ (by simp) _)|(refine Below.alloc ?_ (by simp<;>omega) _))
  ⟩
theorem P5(s:ByteArray)(w:World)(hs:0<s.size)(hm:s.size<=maxLen)(h0:s[0]=1)(hz:¬1<s.size):
 Calls Tryz.prog 187 #[.string s] w fun e w'=>D3 s e/\Bwz w w':=by
 have HN:Hid (noCell s.data.toList):=by
  show noCell s.data.toList
  rw[DL s hs,h0,List.drop_of_length_le (by rw[A4];omega)];exact O4
 have hk:(s[0].toNat:Int)=1:=by rw[h0];rfl
 clear h0
 have hm':=hm
 unfold maxLen at hm'
 have i0:(0:Int)<(s.size:Int):=by omega
 have iz:((s.size:Int)==0)=false:=by rw[beq_eq_false_iff_ne];omega
 have b0:(s[0].toNat:Int)<=255:=by have:=s[0].toNat_lt;omega
 go_enter func187,ntmps187
 go_wp2
 exact bodyPost_ret (v:=.tuple #[.agg #[.int .i64 1,.int .i64 0,.string ⟨#[]⟩],.int .i64 0]) (by simp[results,results187,go_sem]) rfl
  ⟨⟨⟨1,0,⟨#[]⟩⟩,0,rfl,Nat.zero_le _,wf0 _ _ (by decide) (by decide),FH HN.out _ _⟩,
  by repeat (first|exact bR|(refine below_drewN ?_ _)|apply Below.drew|(refine Below.setCell ?_ (by simp) _)|(refine Below.alloc ?_ (by simp<;>omega) _))
  ⟩
theorem Re(s:ByteArray)(w:World)(hs:0<s.size)(hm:s.size<=maxLen)(h0:s[0]=1)(hz:1<s.size):
 Calls Tryz.prog 187 #[.string s] w fun e w'=>D3 s e/\Bwz w w':=by
 have HR:Hid (reads s.data.toList ⟨1,(s[1].toNat:Int),⟨#[]⟩⟩ 2):=by
  show reads s.data.toList ⟨1,(s[1].toNat:Int),⟨#[]⟩⟩ 2
  rw[DL s hs,h0,Bl s 1 hz];exact PQ _ _
 have HW:Hid ((⟨1,(s[1].toNat:Int),⟨#[]⟩⟩:Cel).wf):=by
  have:=s[1].toNat_lt
  exact wf0 _ _ (by omega) (by omega)
 have hk:(s[0].toNat:Int)=1:=by rw[h0];rfl
 have b1:(s[1].toNat:Int)<=255:=by have:=s[1].toNat_lt;omega
 clear h0
 have hm':=hm
 unfold maxLen at hm'
 have i0:(0:Int)<(s.size:Int):=by omega
 have iz:((s.size:Int)==0)=false:=by rw[beq_eq_false_iff_ne];omega
 have b0:(s[0].toNat:Int)<=255:=by have:=s[0].toNat_lt;omega
 go_enter func187,ntmps187
 go_wp2
 exact bodyPost_ret (v:=.tuple #[.agg #[.int .i64 1,.int .i64 (s[1].toNat:Int),.string ⟨#[]⟩],.int .i64 2]) (by simp[results,results187,go_sem]) rfl
  ⟨⟨⟨1,_,⟨#[]⟩⟩,2,rfl,hz,HW.out,HR.out⟩,
  by repeat (first|exact bR|(refine below_drewN ?_ _)|apply Below.drew|(refine Below.setCell ?_ (by simp) _)|(refine Below.alloc ?_ (by simp<;>omega) _))
  ⟩
theorem Rf(s:ByteArray)(w:World)(hs:0<s.size)(hm:s.size<=maxLen)(h0:s[0]=2)(hz:¬8<s.size):
 Calls Tryz.prog 187 #[.string s] w fun e w'=>D3 s e/\Bwz w w':=by
 have HN:Hid (noCell s.data.toList):=by
  show noCell s.data.toList
  rw[DL s hs,h0];exact UZ (by rw[List.length_drop,A4];omega)
 have hk:(s[0].toNat:Int)=2:=by rw[h0];rfl
 clear h0
 have hm':=hm
 unfold maxLen at hm'
 have i0:(0:Int)<(s.size:Int):=by omega
 have iz:((s.size:Int)==0)=false:=by rw[beq_eq_false_iff_ne];omega
 have b0:(s[0].toNat:Int)<=255:=by have:=s[0].toNat_lt;omega
 go_enter func187,ntmps187
 go_wp2
 exact bodyPost_ret (v:=.tuple #[.agg #[.int .i64 2,.int .i64 0,.string ⟨#[]⟩],.int .i64 0]) (by simp[results,results187,go_sem]) rfl
  ⟨⟨⟨2,0,⟨#[]⟩⟩,0,rfl,Nat.zero_le _,wf0 _ _ (by decide) (by decide),FH HN.out _ _⟩,
  by repeat (first|exact bR|(refine below_drewN ?_ _)|apply Below.drew|(refine Below.setCell ?_ (by simp) _)|(refine Below.alloc ?_ (by simp<;>omega) _))
  ⟩
theorem Rg(s:ByteArray)(j:Nat)(h:j+1<s.size):(s.data.toList.drop 1).take (j+1)=(s.data.toList.drop 1).take j++[s[j+1]]:=by
 rw[List.take_succ_eq_append_getElem (by rw[List.length_drop,A4];omega)]
 congr 2
 simp only[List.getElem_drop]
 have:1+j=j+1:=by omega
 simp only[this]
 rfl
theorem TX:wrap64 (((AX ([]:List UInt8):Nat)):Int)=0:=by
 have:AX ([]:List UInt8)=0:=rfl
 rw[this]
 unfold wrap64
 omega
theorem TY(s:ByteArray)(w:World)(hs:0<s.size)(hm:s.size<=maxLen)(h0:s[0]=2)(hz:8<s.size):
 Calls Tryz.prog 187 #[.string s] w fun e w'=>D3 s e/\Bwz w w':=by
 have HR:Hid (reads s.data.toList ⟨2,(AX ((s.data.toList.drop 1).take 8):Int) - 9223372036854775808,⟨#[]⟩⟩ 9):=by
  show reads s.data.toList _ 9
  rw[DL s hs,h0]
  exact Sz _ (by rw[List.length_drop,A4];omega)
 have hk:(s[0].toNat:Int)=2:=by rw[h0];rfl
 clear h0
 have hm':=hm
 unfold maxLen at hm'
 have i0:(0:Int)<(s.size:Int):=by omega
 have iz:((s.size:Int)==0)=false:=by rw[beq_eq_false_iff_ne];omega
 have b0:(s[0].toNat:Int)<=255:=by have:=s[0].toNat_lt;omega
 go_enter func187,ntmps187
 go_wp2
 go_loop [5,6] (fun n i=> ∃j:Nat,j<=8/\i= .int .i64 ((j:Int)+1)/\n= .int .i64 (wrap64 (AX ((s.data.toList.drop 1).take j):Int))) (fun _ i=>(9 - intOf i).toNat)
 case atStart=>exact⟨0,by omega,rfl,by rw[List.take_zero,TX]⟩
 case round=>
  obtain⟨j,hj,rfl,rfl⟩:=hrel
  obtain⟨u,hu⟩:∃u,AX ((s.data.toList.drop 1).take j)=u:=⟨_,rfl⟩
  have HU:Hid (AX ((s.data.toList.drop 1).take j)=u):=hu
  rw[hu]
  clear hu
  by_cases hlt:j<8
  ·have hlt2:j+1<s.size:=by omega
   have hub:u<72057594037927936:=by
    have h1:=EG ((s.data.toList.drop 1).take j)
    rw[HU.out,List.length_take,List.length_drop,A4]at h1
    have h2:256 ^ (min j (s.size - 1))<=256 ^ 7:=Nat.pow_le_pow_right (by omega) (by omega)
    omega
   have HUB:Hid (u<72057594037927936):=hub
   have hwu:wrap64 (u:Int)=(u:Int):=by unfold wrap64;omega
   have HT:Hid (AX ((s.data.toList.drop 1).take (j+1))=u * 256+s[j+1].toNat):=by
    show AX ((s.data.toList.drop 1).take (j+1))=_
    rw[Rg s j hlt2,Ky,HU.out]
   have b1:(s[j+1].toNat:Int)<=255:=by have:=s[j+1].toNat_lt;omega
   have hj1:(0:Int)<=(j:Int)+1:=by omega
   have hj2:(j:Int)+1<(s.size:Int):=by omega
   go_wp2
   go_round
   case rel=>exact⟨j+1,by omega,by go_num,by rw[HT.out,Wk u _ HUB.out s[j+1].toNat_lt]⟩
   case measure=>simp[intOf];omega
  ·have h8:j=8:=by omega
   subst h8
   have HB:Hid (u<18446744073709551616):=by
    show u<18446744073709551616
    rw[<-HU.out]
    exact Hz _ (by rw[List.length_take,List.length_drop,A4];omega)
   have hxb:=TW u HB.out
   go_wp2
   exact bodyPost_ret (v:=.tuple #[.agg #[.int .i64 2,.int .i64 ((u:Int) - 9223372036854775808),.string ⟨#[]⟩],.int .i64 9]) (by simp[results,results187,go_sem]) rfl
    ⟨⟨⟨2,_,⟨#[]⟩⟩,9,rfl,hz,wf0 _ _ (by have:=HB.out;omega) (by have:=HB.out;omega),by have h:=HR.out;rw[HU.out]at h;exact h⟩,by repeat (first|exact bR|(refine below_drewN ?_ _)|apply Below.drew|(refine Below.setCell ?_ (by simp) _)|(refine Below.alloc ?_ (by simp<;>omega) _))⟩
theorem I5{ops:Array Oper}{rest:List Oper}{o:Oper}{a:Act}{Q:Exit->Act->World->Prop}(hgd:o.guard=none)(s x:Operand)
 (ho:o.op= .call {callee:=.builtin .append,args:=#[s,x],argTypes:=#[204,204]}) (base:Nat) (v:Value) (l:List UInt8) (hs:a.eval s=v) (w0:World)
 (hown:ownB w0 base v l) (X:Value) (b:UInt8) (hX:X=Fl b) (B:Nat) (hB:w0.heap.size=B) (hx:a.eval x= .slice (some ⟨B,0,none⟩) 1 1) (hl:l.length+1<=140737488355328) (hb:base<=w0.heap.size)
 (h:∀v' w',ownB w' base v' (l++[b])->(w0.alloc (.cells #[X] 5)).grownBy w' v.ownBlock->wpList Tryz.prog ops Q rest (a.put o.dst v') w'):
 wpList Tryz.prog ops Q (o::rest) a (w0.alloc (.cells #[X] 5)):=by
 subst hX
 subst hB
 obtain⟨i0,hi,hz0,hz1,hz2⟩:=info_parts Tryz.info5
 refine wpList_append_own _ hgd s x 204 ho base 5 i0 (.int .u8 0) 1 1 underlying204 hi hz0 hz1 hz2 rfl (by decide) v l.length (l.map Fl) hs
  (World.ownsRow.alloc hown _) ⟨w0.heap.size,0,none⟩ 1 1 [Fl b] hx rfl (cell_one_new _ _ _) (by intro u hu;simp at hu;subst hu;rfl) (by unfold maxLen;omega) (by omega) (by simp;omega) ?_
 intro v' w' h1 h2 _
 refine h v' w' ?_ h2
 unfold ownB
 rw[lAp,List.map_append]
 exact h1
theorem Rh(s:ByteArray)(w:World)(hs:0<s.size)(hm:s.size<=140737488355328)(h0:s[0]=3):
 Calls Tryz.prog 187 #[.string s] w fun e w'=>D3 s e/\Bwz w w':=by
 have HH:Hid (s[0]=3):=h0
 have hk:(s[0].toNat:Int)=3:=by rw[h0];rfl
 clear h0
 have i0:(0:Int)<(s.size:Int):=by omega
 have iz:((s.size:Int)==0)=false:=by rw[beq_eq_false_iff_ne];omega
 have b0:(s[0].toNat:Int)<=255:=by have:=s[0].toNat_lt;omega
 go_enter func187,ntmps187
 go_wp2
 go_loopw [7,8] (fun v i wr=> ∃(k:Nat) (t:List UInt8),1<=k/\k<=s.size/\t.length<k/\i= .int .i64 k/\ownB wr (w.heap.size+2) v t/\Below (w.heap.size+2) ((w.alloc (.cells #[.int .i64 0,.int .i64 0,.string ⟨#[]⟩] 103)).alloc (.cells #[.int .i64 3,.int .i64 0,.string ⟨#[]⟩] 103)) wr/\Er s t k) (fun _ i _=>s.size - (intOf i).toNat)
 case atStart=>exact⟨1,[],Nat.le_refl _,hs,by simp,rfl,World.ownsRow_nil _ _ _ _,bR,good_start s⟩
 case round=>
  obtain⟨k,t,hk1,hk,htk,rfl,hown,hnx,hg⟩:=hrel
  have HO:Hid (ownB wr (w.heap.size+2) u7 t):=hown
  have HG:Hid (Er s t k):=hg
  have hsz:=hnx.size
  simp only[World.size_alloc]at hsz
  have hbr:w.heap.size+2<=wr.heap.size:=by omega
  have hbl0:Bwz w ((w.alloc (.cells #[.int .i64 0,.int .i64 0,.string ⟨#[]⟩] 103)).alloc (.cells #[.int .i64 3,.int .i64 0,.string ⟨#[]⟩] 103)):=(bR.alloc nR _).alloc (by simp) _
  have hbl:Bwz w wr:=hbl0.trans (hnx.mono (by omega))
  have c10:wr.cell? ⟨w.heap.size+1,0,none⟩=some (.int .i64 3):=(hnx.cell (by simp)).trans (by go_simp)
  have c11:wr.cell? ⟨w.heap.size+1,1,none⟩=some (.int .i64 0):=(hnx.cell (by simp)).trans (by go_simp)
  have c12:wr.cell? ⟨w.heap.size+1,2,none⟩=some (.string ⟨#[]⟩):=(hnx.cell (by simp)).trans (by go_simp)
  have c00:wr.cell? ⟨w.heap.size,0,none⟩=some (.int .i64 0):=(hnx.cell (by simp)).trans (by go_simp)
  have c01:wr.cell? ⟨w.heap.size,1,none⟩=some (.int .i64 0):=(hnx.cell (by simp)).trans (by go_simp)
  have c02:wr.cell? ⟨w.heap.size,2,none⟩=some (.string ⟨#[]⟩):=(hnx.cell (by simp)).trans (by go_simp)
  have f10:wr.frozen? ⟨w.heap.size+1,0,none⟩=false:=(hnx.frozen (by simp)).trans (by go_simp)
  have f12:wr.frozen? ⟨w.heap.size+1,2,none⟩=false:=(hnx.frozen (by simp)).trans (by go_simp)
  have f00:wr.frozen? ⟨w.heap.size,0,none⟩=false:=(hnx.frozen (by simp)).trans (by go_simp)
  have f01:wr.frozen? ⟨w.heap.size,1,none⟩=false:=(hnx.frozen (by simp)).trans (by go_simp)
  have f02:wr.frozen? ⟨w.heap.size,2,none⟩=false:=(hnx.frozen (by simp)).trans (by go_simp)
  clear hown hg
  by_cases hlt:k+1<s.size
  ·have hkk:(k:Int)+1<(s.size:Int):=by omega
   have hlk:k<s.size:=by omega
   by_cases hz:((s[k].toNat:Int)==0)=true
   ·have hz1:s[k]=0:=of_decide_eq_true ((byte_zero s[k]).symm.trans hz)
    have HZ:Hid (s[k]=0):=hz1
    clear hz1
    by_cases h1:((s[k+1].toNat:Int)==1)=true
    ·have h11:s[k+1]=1:=of_decide_eq_true ((CC s[k+1] 1).symm.trans h1)
     have H1:Hid (s[k+1]=1):=h11
     clear h11
     have hcv:=Ku HO.out
     go_wp2
     exact bodyPost_ret (v:=.tuple #[.agg #[.int .i64 3,.int .i64 0,.string ⟨t.toArray⟩],.int .i64 ((k:Int)+2)]) (by simp[results,results187,go_sem,c10,c11,c12,c00,c01,c02]) rfl
      ⟨⟨⟨3,0,⟨t.toArray⟩⟩,k+2,rfl,by omega,⟨⟨by show(-9223372036854775808:Int)<=0;decide,by show(0:Int)<=9223372036854775807;decide⟩,by show t.toArray.size<=maxLen;unfold maxLen;simp;omega⟩,PU s hs HH.out t k hlt HG.out HZ.out H1.out⟩,by repeat (first|exact hbl|(refine Below.setCell ?_ (by simp) _))⟩
    ·have h1':((s[k+1].toNat:Int)==1)=false:=by simpa using h1
     have H1:Hid (¬s[k+1]=1):=of_decide_eq_false ((CC s[k+1] 1).symm.trans h1')
     go_wp2_with (at_builtin;refine I5 rfl (.tmp 82) (.tmp 83) rfl (w.heap.size+2) _ t rfl _ HO.out _ 0 rfl _ rfl rfl (by omega) hbr ?_;intro v' w1 hown1 hgrow1)
     go_roundw
     case rel=>exact⟨k+1+1,t++[0],by omega,by omega,by simp;omega,by go_num,hown1,A5 hnx hbr HO.out hgrow1,S1 HG.out hlt HZ.out H1.out⟩
     case measure=>simp[intOf];omega
   ·have hz':((s[k].toNat:Int)==0)=false:=by simpa using hz
    have HZ:Hid (¬s[k]=0):=of_decide_eq_false ((byte_zero s[k]).symm.trans hz')
    go_wp2_with (at_builtin;refine I5 rfl (.tmp 65) (.tmp 69) rfl (w.heap.size+2) _ t rfl _ HO.out _ s[k] rfl _ rfl rfl (by omega) hbr ?_;intro v' w1 hown1 hgrow1)
    go_roundw
    case rel=>exact⟨k+1,t++[s[k]],by omega,by omega,by simp;omega,by go_num,hown1,A5 hnx hbr HO.out hgrow1,S0 HG.out hlk HZ.out⟩
    case measure=>simp[intOf];omega
  ·have HN:Hid (noCell s.data.toList):=by
    show noCell s.data.toList
    rw[DL s hs,HH.out]
    exact Nl (S2 HG.out (by omega))
   have hkk:decide ((k:Int)+1<(s.size:Int))=false:=decide_eq_false (by omega)
   go_wp2
   exact bodyPost_ret (v:=.tuple #[.agg #[.int .i64 3,.int .i64 0,.string ⟨#[]⟩],.int .i64 0]) (by simp[results,results187,go_sem,c10,c11,c12,c00,c01,c02]) rfl
    ⟨⟨⟨3,0,⟨#[]⟩⟩,0,rfl,Nat.zero_le _,wf0 _ _ (by decide) (by decide),FH HN.out _ _⟩,by repeat (first|exact hbl|(refine Below.setCell ?_ (by simp) _))⟩
theorem MN(s:ByteArray)(w:World)(hm:s.size<=140737488355328):
 Calls Tryz.prog 187 #[.string s] w fun e w'=>D3 s e/\Bwz w w':=by
 have hm':s.size<=maxLen:=by unfold maxLen;omega
 by_cases hs:s.size=0
 ·exact P0 s w hs
 ·have hs':0<s.size:=by omega
  by_cases h0:s[0]=0
  ·exact Rd s w hs' hm' h0
  ·by_cases h1:s[0]=1
   ·by_cases hz:1<s.size
    ·exact Re s w hs' hm' h1 hz
    ·exact P5 s w hs' hm' h1 hz
   ·by_cases h2:s[0]=2
    ·by_cases hz:8<s.size
     ·exact TY s w hs' hm' h2 hz
     ·exact Rf s w hs' hm' h2 hz
    ·by_cases h3:s[0]=3
     ·exact Rh s w hs' hm h3
     ·exact P4 s w hs' hm' h0 h1 h2 h3
theorem NL(q:ByteArray)(m:Nat):(q.extract m q.size).data.toList=q.data.toList.drop m:=Lib.extract_to_end q m
theorem Eg(q:ByteArray)(m:Nat):(q.extract m q.size).size=q.size - m:=by rw[ByteArray.size_extract];omega
theorem TZ(s:ByteArray)(r:List Cel)(w:World)(hm:s.size<=140737488355328)(hr:rowOk r)(hk:encR r=s.data.toList):
 Calls Tryz.prog 140 #[.string s] w fun e w'=>(∃ad cap,e= .returned (.tuple #[.slice ad r.length cap,.bool true])/\rowAt w' ad r)/\Bwz w w':=by
 obtain⟨n,hn⟩:∃n,r.length=n:=⟨_,rfl⟩
 have HN:Hid (r.length=n):=hn
 have h8:=hr.1
 have HOKR:Hid (rowOk r):=hr
 have HKS:Hid (encR r=s.data.toList):=hk
 have KE:Hid (∀w ad cap,rowAt w ad r->CTz 83 #[.slice ad n cap] w fun e w'=>e= .returned (.int .i64 0)/\Bwz w w'):=by
  subst hn
  intro w ad cap h
  exact(Cy ad cap r w h (O9 hr) (by omega)).mono fun e w' ⟨he,hb⟩=>⟨he.trans (Ad (Gr hr)),hb⟩
 have KK:Hid (∀w ad cap,rowAt w ad r->CTz 85 #[.slice ad n cap] w fun e w'=>e= .returned (.string s)/\Bwz w w'):=by
  subst hn
  intro w ad cap h
  have e:(⟨(encR r).toArray⟩:ByteArray)=s:=str_eq hk
  rw[<-e]
  exact FG ad cap r w h hr
 rw[hn]at h8⊢
 clear hn hr hk
 go_enter func140,ntmps140
 go_wp2
 go_loopw [4,5] (fun v t wr=> ∃(j:Nat) (q:ByteArray),j<=n/\t= .string q/\q.size<=s.size/\AA wr w.heap.size v (r.take j)/\Bwz w wr/\q.data.toList=encR (r.drop j)) (fun _ t _=>Qs t)
 case atStart=>exact⟨0,s,Nat.zero_le _,rfl,Nat.le_refl _,World.ownsRow_nil _ _ _ _,bR,HKS.out.symm⟩
 case round=>
  obtain⟨j,q,hj,rfl,hq,hown,hnx,hql⟩:=hrel
  have hlj:(r.take j).length=j:=by rw[List.length_take,HN.out];omega
  obtain⟨ad,cap,hv⟩:=Gq hown
  rw[hlj]at hv
  subst hv
  have HO:Hid (AA wr w.heap.size (.slice ad j cap) (r.take j)):=hown
  have HQ:Hid (q.data.toList=encR (r.drop j)):=hql
  have hsz:=hnx.size
  clear hown hql hlj
  by_cases hlt:j<n
  ·have hj8:((j:Nat):Int)<=8:=by omega
   have hc0:=HOKR.out.2 (r.getD j default) (by simp[gDe,show j<r.length by rw[HN.out];exact hlt])
   have HL:Hid (q.data.toList=Cb (r.getD j default)++encR (r.drop (j+1))):=by
    show q.data.toList=_
    rw[HQ.out,Em r j (by rw[HN.out];exact hlt)];rfl
   have HT:Hid (r.take (j+1)=r.take j++[r.getD j default]):=IL r j (by rw[HN.out];exact hlt)
   have hpos:0<(Cb (r.getD j default)).length:=List.length_pos_iff.2 (Fu hc0.1)
   have hz:0<q.size:=by
    have h1:=congrArg List.length HL.out
    rw[lAp,A4]at h1
    omega
   go_wp2_with fail
   refine(MN q _ (by omega)).mono ?_
   rintro e w1 ⟨⟨c,m,rfl,hmq,hwf,hrd⟩,hb1⟩
   obtain⟨ec,em⟩:=hrd _ _ hc0.1 hc0.2 HL.out
   have HEC:Hid (c=r.getD j default):=ec
   have HEM:Hid (m=(Cb (r.getD j default)).length):=em
   have hm0:0<m:=by omega
   have hmz:((m:Int)==0)=false:=by rw[beq_eq_false_iff_ne];omega
   have hmi:(m:Int)<=(q.size:Int):=by omega
   clear ec em hrd hwf hc0 hpos
   obtain⟨k,nn,t⟩:=c
   have hl1:=hnx.trans (hb1.mono hsz)
   have ho1:=Fz HO.out hb1
   go_wp2_with (at_builtin;refine Dq rfl (.tmp 24) (.tmp 26) rfl w.heap.size _ (r.take j) rfl _ (Ey ho1 _) ⟨k,nn,t⟩ (w1.heap.size+1) (by simp) rfl (by rw[List.length_take];omega) (by have:=hl1.size;simp;omega) ?_;intro v' w2 hown2 hgrow2)
   go_roundw
   case rel=>exact⟨j+1,_,by omega,rfl,by rw[Eg];omega,by rw[HT.out,<-HEC.out];exact hown2,C6 (hl1.alloc hl1.size _) (by have:=hl1.size;simp;omega) (Ey ho1 _) hgrow2,by rw[NL,HL.out,HEM.out,List.drop_left]⟩
   case measure=>show(q.extract m q.size).size<q.size;rw[Eg];omega
  ·have hjn:j=n:=by omega
   subst hjn
   have hre:r.take j=r:=List.take_of_length_le (by rw[HN.out];omega)
   have HO2:Hid (AA wr w.heap.size (.slice ad j cap) r):=by have h:=HO.out;rw[hre]at h;exact h
   have hqz:¬0<q.size:=by
    have h1:=congrArg List.length HQ.out
    rw[A4,List.drop_of_length_le (by rw[HN.out];omega)]at h1
    have h2:(encR ([]:List Cel)).length=0:=rfl
    rw[h2]at h1
    omega
   have hqd:decide ((0:Int)<(q.size:Int))=false:=decide_eq_false (by omega)
   have HRA:Hid (rowAt wr ad r):=D7 (r:=r) (cap:=cap) (by rw[HN.out];exact HO2.out)
   clear hre HO
   go_wp2_with fail
   refine(KE.out _ ad cap HRA.out).mono ?_
   rintro e wk ⟨rfl,hbk⟩
   have HRB:Hid (rowAt wk ad r):=Ac HRA.out hbk
   have hl1:=hnx.trans (hbk.mono hsz)
   go_wp2_with fail
   refine(KK.out _ ad cap HRB.out).mono ?_
   rintro e wl ⟨rfl,hbl⟩
   have HRC:Hid (rowAt wl ad r):=Ac HRB.out hbl
   have hl2:=hl1.trans (hbl.mono hl1.size)
   go_wp2
   go_ret2
   exact⟨⟨ad,cap,rfl,HRC.out⟩,hl2⟩
theorem Wl{s:ByteArray}(h:encR r≠s.data.toList):((⟨(encR r).toArray⟩:ByteArray).toList==s.toList)=false:=by
 rw[Lib.toList_data,Lib.toList_data,beq_eq_false_iff_ne]
 exact h
theorem LA(h:Au r=0)(hw:BE r):rowOk r:=by
 unfold Au at h
 split at h
 ·cases h
 ·rename_i h8
  exact⟨by omega,fun c hc=>⟨IM h c hc,hw c hc⟩⟩
theorem Wm(s:ByteArray)(w:World)(hm:s.size<=140737488355328)(hn:Lf s.data.toList):
 Calls Tryz.prog 140 #[.string s] w fun e w'=>e= .returned (.tuple #[.slice none 0 0,.bool false])/\Bwz w w':=by
 have NK:Hid (Lf s.data.toList):=hn
 clear hn
 go_enter func140,ntmps140
 go_wp2
 go_loopw [4,5] (fun v t wr=> ∃(r:List Cel) (q:ByteArray),t= .string q/\q.size<=s.size/\AA wr w.heap.size v r/\Bwz w wr/\r.length<=9/\BE r) (fun _ t _=>Qs t)
 case atStart=>exact⟨[],s,rfl,Nat.le_refl _,World.ownsRow_nil _ _ _ _,bR,by simp,fun c hc=>by cases hc⟩
 case round=>
  obtain⟨r,q,rfl,hq,hown,hnx,h9,hwf⟩:=hrel
  obtain⟨ad,cap,hv⟩:=Gq hown
  subst hv
  have HO:Hid (AA wr w.heap.size (.slice ad r.length cap) r):=hown
  have HW:Hid (BE r):=hwf
  have HRA:Hid (rowAt wr ad r):=D7 hown
  have hsz:=hnx.size
  clear hown hwf
  by_cases hz:0<q.size
  ·by_cases h8:r.length<=8
   ·have h8':((r.length:Nat):Int)<=8:=by omega
    go_wp2_with fail
    refine(MN q _ (by omega)).mono ?_
    rintro e w1 ⟨⟨c,m,rfl,hmq,hcw,_⟩,hb1⟩
    have HCW:Hid (c.wf):=hcw
    have hl1:=hnx.trans (hb1.mono hsz)
    have ho1:=Fz HO.out hb1
    have hmi:(m:Int)<=(q.size:Int):=by omega
    clear hcw
    obtain⟨k,nn,t⟩:=c
    by_cases hm0:m=0
    ·subst hm0
     go_wp2
     go_ret2
     exact⟨rfl,hl1.alloc hl1.size _⟩
    ·have hmz:((m:Int)==0)=false:=by rw[beq_eq_false_iff_ne];omega
     go_wp2_with (at_builtin;refine Dq rfl (.tmp 24) (.tmp 26) rfl w.heap.size _ r rfl _ (Ey ho1 _) ⟨k,nn,t⟩ (w1.heap.size+1) (by simp) rfl (by omega) (by have:=hl1.size;simp;omega) ?_;intro v' w2 hown2 hgrow2)
     go_roundw
     case rel=>exact⟨r++[⟨k,nn,t⟩],_,rfl,by rw[Eg];omega,hown2,C6 (hl1.alloc hl1.size _) (by have:=hl1.size;simp;omega) (Ey ho1 _) hgrow2,by rw[lAp];simp;omega,fun c hc=>by
      rcases List.mem_append.1 hc with h|h
      ·exact HW.out c h
      ·rw[List.mem_singleton.1 h];exact HCW.out⟩
     case measure=>show(q.extract m q.size).size<q.size;rw[Eg];omega
   ·have h8':decide (((r.length:Nat):Int)<=8)=false:=decide_eq_false (by omega)
    by_cases he:Au r=0
    ·have hok2:=LA he HW.out
     have hne:=Wl (NK.out r hok2)
     have KK:=hIz (fun(w:World) (h:rowAt w ad r)=>FG ad cap r w h hok2)
     have KE:Hid (∀w,rowAt w ad r->CTz 83 #[.slice ad r.length cap] w fun e w'=>e= .returned (.int .i64 0)/\Bwz w w'):=fun w h=>
      (Cy ad cap r w h HW.out (by omega)).mono fun e w' ⟨he',hb⟩=>⟨he'.trans (Ad he),hb⟩
     obtain⟨x,hx⟩:∃x,(⟨(encR r).toArray⟩:ByteArray)=x:=⟨_,rfl⟩
     rw[hx]at hne KK
     clear hok2 hx he
     go_wp2_with fail
     refine(KE.out _ HRA.out).mono ?_
     rintro e wk ⟨rfl,hbk⟩
     have HRB:Hid (rowAt wk ad r):=Ac HRA.out hbk
     have hl1:=hnx.trans (hbk.mono hsz)
     go_wp2_with fail
     refine(KK.out _ HRB.out).mono ?_
     rintro e wl ⟨rfl,hbl⟩
     have hl2:=hl1.trans (hbl.mono hl1.size)
     go_wp2
     go_ret2
     exact⟨rfl,hl2⟩
    ·have he':(Au r==0)=false:=by simpa using he
     have KE:=hIz (fun(w:World) (h:rowAt w ad r)=>Cy ad cap r w h HW.out (by omega))
     go_wp2_with fail
     refine(KE.out _ HRA.out).mono ?_
     rintro e wk ⟨rfl,hbk⟩
     have hl1:=hnx.trans (hbk.mono hsz)
     go_wp2
     go_ret2
     exact⟨rfl,hl1⟩
  ·have hqd:decide ((0:Int)<(q.size:Int))=false:=decide_eq_false (by omega)
   by_cases he:Au r=0
   ·have hok2:=LA he HW.out
    have hne:=Wl (NK.out r hok2)
    have KK:=hIz (fun(w:World) (h:rowAt w ad r)=>FG ad cap r w h hok2)
    have KE:Hid (∀w,rowAt w ad r->CTz 83 #[.slice ad r.length cap] w fun e w'=>e= .returned (.int .i64 0)/\Bwz w w'):=fun w h=>
     (Cy ad cap r w h HW.out (by omega)).mono fun e w' ⟨he',hb⟩=>⟨he'.trans (Ad he),hb⟩
    obtain⟨x,hx⟩:∃x,(⟨(encR r).toArray⟩:ByteArray)=x:=⟨_,rfl⟩
    rw[hx]at hne KK
    clear hok2 hx he
    go_wp2_with fail
    refine(KE.out _ HRA.out).mono ?_
    rintro e wk ⟨rfl,hbk⟩
    have HRB:Hid (rowAt wk ad r):=Ac HRA.out hbk
    have hl1:=hnx.trans (hbk.mono hsz)
    go_wp2_with fail
    refine(KK.out _ HRB.out).mono ?_
    rintro e wl ⟨rfl,hbl⟩
    have hl2:=hl1.trans (hbl.mono hl1.size)
    go_wp2
    go_ret2
    exact⟨rfl,hl2⟩
   ·have he':(Au r==0)=false:=by simpa using he
    have KE:=hIz (fun(w:World) (h:rowAt w ad r)=>Cy ad cap r w h HW.out (by omega))
    go_wp2_with fail
    refine(KE.out _ HRA.out).mono ?_
    rintro e wk ⟨rfl,hbk⟩
    have hl1:=hnx.trans (hbk.mono hsz)
    go_wp2
    go_ret2
    exact⟨rfl,hl1⟩
end vl
namespace bf
open Go.ChangeShapes Go.WideShapes Go.ChangeAt Go.RowKit
open vl
variable {w w' : World} {es : List EM} {i : Nat}
structure Ent where
 key:ByteArray
 time:Int
 seq:Int
 row:List Cel
 met:Bool
deriving DecidableEq
instance:Inhabited Ent:=⟨⟨⟨#[]⟩,0,0,[],false⟩⟩
structure ER(w:World)(e:EM)(x:Ent):Prop where
 key:e.key=x.key
 time:e.time=x.time
 seq:e.seq=x.seq
 met:e.met=x.met
 len:e.row.2.1=x.row.length
 row:vl.rowAt w e.row.1 x.row
theorem ER.below{e:EM}{x:Ent}(h:ER w e x)(hb:Bwz w w'):ER w' e x:=⟨h.key,h.time,h.seq,h.met,h.len,vl.Ac h.row hb⟩
def ERs(w:World)(es:List EM)(l:List Ent):Prop:=es.length=l.length/\∀i,i<l.length->ER w (es.getD i default) (l.getD i default)
theorem ERs.below{l:List Ent}(h:ERs w es l)(hb:Bwz w w'):ERs w' es l:=⟨h.1,fun i hi=>(h.2 i hi).below hb⟩
theorem XK(w:World):ERs w [] []:=⟨rfl,fun i hi=>absurd hi (Nat.not_lt_zero i)⟩
theorem AE{α:Type}{l m:List α}{d:α}(h:i<l.length):(l++m).getD i d=l.getD i d:=by
 simp[gDe,List.getElem?_append_left h]
theorem AL{α:Type}{l m:List α}{d:α}(h:l.length<=i):(l++m).getD i d=m.getD (i - l.length) d:=by
 simp[gDe,List.getElem?_append_right h]
theorem XL{es':List EM}{l l':List Ent}(h:ERs w es l)(h':ERs w es' l'):ERs w (es++es') (l++l'):=by
 refine⟨by rw[lAp,lAp,h.1,h'.1],fun i hi=>?_⟩
 rw[lAp]at hi
 by_cases hl:i<l.length
 ·rw[AE (by rw[h.1];exact hl),AE hl];exact h.2 i hl
 ·rw[AL (by rw[h.1];omega),AL (by omega),h.1];exact h'.2 _ (by omega)
def bl(b:ByteArray):List UInt8:=b.data.toList
theorem NM{a b:ByteArray}(h:bl a=bl b):a=b:=ByteArray.ext (Array.ext' h)
def ltP(a b:Ent):Prop:=bl a.key<bl b.key\/(a.key=b.key/\(a.time<b.time\/(a.time=b.time/\a.seq<b.seq)))
instance(a b:Ent):Decidable (ltP a b):=by unfold ltP;exact inferInstance
def CZ(a b:Ent):Prop:=a.key=b.key/\a.time=b.time/\a.seq=b.seq
instance(a b:Ent):Decidable (CZ a b):=by unfold CZ;exact inferInstance
def DG(a b:Ent):Int:=if ltP a b then -1 else if CZ a b then 0 else 1
theorem EL:∀(a b:List UInt8),Op.bytesLess a b=decide (a<b)
 |[],[]=>by simp[Op.bytesLess]
 |_::_,[]=>by simp[Op.bytesLess]
 |[],_::_=>by simp[Op.bytesLess]
 |a::x,b::y=>by
  rw[Op.bytesLess,EL x y]
  simp only[List.cons_lt_cons_iff]
  by_cases h1:a<b<;>by_cases h2:a=b<;>by_cases h3:x<y<;>simp[h1,h2,h3]
theorem JK(a b:List UInt8):Lib.compareBytes a b=if a<b then -1 else if a=b then 0 else 1:=by
 rw[I3,EL]
 by_cases h1:a<b<;>by_cases h2:a=b<;>simp[h1,h2]
theorem F4(a:List UInt8):¬a<a:=List.lt_irrefl a
theorem MO{a b c:List UInt8}(h1:a<b)(h2:b<c):a<c:=List.lt_trans h1 h2
theorem lt_tri(a b:List UInt8):a<b\/a=b\/b<a:=by
 by_cases h1:a<b
 ·exact .inl h1
 ·by_cases h2:b<a
  ·exact .inr (.inr h2)
  ·exact .inr (.inl (List.le_antisymm (List.not_lt.1 h2) (List.not_lt.1 h1)))
theorem Dm(a:Ent):¬ltP a a:=by
 unfold ltP
 rintro (h|⟨_,h|⟨_,h⟩⟩)
 ·exact F4 _ h
 ·omega
 ·omega
theorem Cd{a b c:Ent}(h1:ltP a b)(h2:ltP b c):ltP a c:=by
 unfold ltP at *
 rcases h1 with h1|⟨e1,h1⟩
 ·rcases h2 with h2|⟨e2,h2⟩
  ·exact .inl (MO h1 h2)
  ·rw[<-e2];exact .inl h1
 ·rcases h2 with h2|⟨e2,h2⟩
  ·rw[e1];exact .inl h2
  ·exact .inr ⟨e1.trans e2,by omega⟩
theorem ltP_tri(a b:Ent):ltP a b\/CZ a b\/ltP b a:=by
 unfold ltP CZ
 rcases lt_tri (bl a.key) (bl b.key)with h|h|h
 ·exact .inl (.inl h)
 ·have e:=NM h
  by_cases h1:a.time<b.time
  ·exact .inl (.inr ⟨e,.inl h1⟩)
  ·by_cases h2:b.time<a.time
   ·exact .inr (.inr (.inr ⟨e.symm,.inl h2⟩))
   ·have e2:a.time=b.time:=by omega
    by_cases h3:a.seq<b.seq
    ·exact .inl (.inr ⟨e,.inr ⟨e2,h3⟩⟩)
    ·by_cases h4:b.seq<a.seq
     ·exact .inr (.inr (.inr ⟨e.symm,.inr ⟨e2.symm,h4⟩⟩))
     ·exact .inr (.inl ⟨e,e2,by omega⟩)
 ·exact .inr (.inr (.inl h))
theorem Ri(a:Ent):CZ a a:=⟨rfl,rfl,rfl⟩
theorem Hg{a b:Ent}(h:CZ a b):CZ b a:=⟨h.1.symm,h.2.1.symm,h.2.2.symm⟩
theorem LC{a b c:Ent}(h:ltP a b)(k:CZ b c):ltP a c:=by
 unfold ltP at *;rw[<-k.1,<-k.2.1,<-k.2.2];exact h
theorem Wn{a b c:Ent}(h:CZ a b)(k:ltP b c):ltP a c:=by
 unfold ltP at *;rw[h.1,h.2.1,h.2.2];exact k
theorem LD{a b:Ent}(h:ltP a b):¬CZ a b:=fun k=>Dm _ (LC h (Hg k))
theorem Fm{a b:Ent}:DG a b<0↔ltP a b:=by
 unfold DG
 by_cases h:ltP a b
 ·simp[h]
 ·by_cases h2:CZ a b<;>simp[h,h2]
theorem Jf{a b:Ent}:DG a b=0↔CZ a b:=by
 unfold DG
 by_cases h:ltP a b
 ·simp[h,LD h]
 ·by_cases h2:CZ a b<;>simp[h,h2]
theorem Hh(a b:Ent):AF [Lib.compareBytes (bl a.key) (bl b.key),Cs a.time b.time,Cs a.seq b.seq]=DG a b:=by
 have e1:=JK (bl a.key) (bl b.key)
 rw[e1]
 unfold AF AF AF AF Cs DG
 unfold ltP CZ
 rcases lt_tri (bl a.key) (bl b.key)with h|h|h
 ·simp[h]
 ·have e:=NM h
  simp only[h,F4,if_false,if_true,e,false_or,true_and]
  by_cases h1:a.time<b.time
  ·simp[h1]
  ·by_cases h2:b.time<a.time
   ·have h3:¬a.time=b.time:=by omega
    simp[h1,h2,h3]
   ·have e2:a.time=b.time:=by omega
    simp only[e2,Int.lt_irrefl,if_false,false_or,true_and]
    by_cases h3:a.seq<b.seq
    ·simp[h3]
    ·by_cases h4:b.seq<a.seq
     ·have h5:¬a.seq=b.seq:=by omega
      simp[h3,h4,h5]
     ·have e3:a.seq=b.seq:=by omega
      simp[e3]
 ·have h1:¬bl a.key<bl b.key:=fun k=>F4 _ (MO k h)
  have h2:¬bl a.key=bl b.key:=fun k=>by rw[k]at h;exact F4 _ h
  have h3:¬a.key=b.key:=fun k=>h2 (by rw[k])
  simp[h1,h2,h3]
end bf
end Go.Proofs.YtdohnkkbkfhphaaGreat
