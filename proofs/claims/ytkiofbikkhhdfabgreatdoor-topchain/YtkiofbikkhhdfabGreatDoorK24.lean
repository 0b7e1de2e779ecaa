import Derived.Test.YtkiofbikkhhdfabGreatDoorShelf
import Derived.Test.YtkiofbikkhhdfabGreatDoorK04
import Derived.Test.YtkiofbikkhhdfabGreatDoorMath
import Derived.WalkKit
import Derived.WalkSpells
import Derived.WalkLawsBesides
import Derived.BigCall
import Derived.Laws.IdiomStrings
import Derived.Lib.SlBytesConst
import Derived.Test.YtkiofbikkhhdfabGreatDoorN2
set_option maxRecDepth 100000
set_option maxHeartbeats 8000000
namespace Go.Proofs.YtkiofbikkhhdfabGreatDoor.Uf
open Go.RowKit
open Utf1
theorem next_some (P:Program) (w:World) (k:Nat) (s:ByteArray) (pos:Nat)(hk:w.heap[k]?=some (.stringIter s pos))(h:pos < s.size) :
  ∃ r wd:Nat,1<=wd/\wd<=4/\pos+wd<=s.size/\r<=1114111/\dl ((bl s).drop pos)=(r,wd)/\(∀ ty,(Instr.next (.pointer (some ⟨k,0,none⟩)) true ty).run P w =
   .ok (.tuple #[.bool true,.int .i64 pos,.int .i32 r]) (w.iterAt k s (pos+wd))):=by
 have hne:(bl s).drop pos≠[]:=by
  intro e
  have:=congrArg List.length e
  rw[List.length_drop,bl_len] at this
  simp at this
  omega
 have hw:=dl_width _ hne
 have hsc:=dl_scalar _ hne
 rw[List.length_drop,bl_len] at hw
 refine⟨(dl ((bl s).drop pos)).1,(dl ((bl s).drop pos)).2,hw.1,hw.2.1,by omega,by unfold Scalar at hsc;omega,rfl,fun ty=>?_⟩
 rw[Lib.run_next_any_at w k s pos ty hk h,decode_dl s pos h]
theorem drop_ne (s:ByteArray) (pos:Nat)(h:pos < s.size):(bl s).drop pos≠[]:=by
 intro e
 have:=congrArg List.length e
 rw[List.length_drop,bl_len] at this
 simp at this
 omega
theorem drop_all (s:ByteArray) (pos:Nat)(h:¬ pos < s.size):(bl s).drop pos=[]:=by
 rw[List.drop_eq_nil_iff,bl_len]
 omega
theorem runes_drop (s:ByteArray) (pos r wd:Nat)(h:pos < s.size)(hd:dl ((bl s).drop pos)=(r,wd)):runes ((bl s).drop pos)=r :: runes ((bl s).drop (pos+wd)):=by
 rw[runes_step _ (drop_ne s pos h),hd,List.drop_drop]
end Go.Proofs.YtkiofbikkhhdfabGreatDoor.Uf
namespace Go.Proofs.YtkiofbikkhhdfabGreatDoor.Uf
open Go.RowKit
open Utf1
end Go.Proofs.YtkiofbikkhhdfabGreatDoor.Uf
namespace Go.Proofs.YtkiofbikkhhdfabGreatDoor.Uf
open Go.RowKit
open Utf1
end Go.Proofs.YtkiofbikkhhdfabGreatDoor.Uf
namespace Go.Proofs.YtkiofbikkhhdfabGreatDoor.Uf
open Go.RowKit
open Utf1
def IsBytes (w:World) (v:Value) (l:List UInt8):Prop :=
 (v=.slice none 0 0/\l=[])\/∃ x cap,v=.slice (some x) l.length cap/\∀ j (hj:j < l.length),w.cell? (x.add j)=some (.int .u8 (l[j].toNat:Int))
theorem cell_lt {w:World}{x:Addr}{v:Value}(h:w.cell? x=some v):x.block < w.heap.size:=by
 unfold World.cell? at h
 cases hb:w.heap[x.block]? with
 | none=>rw[hb] at h;simp at h
 | some o=>exact (Array.getElem?_eq_some_iff.1 hb).1
theorem IsBytes.below {w w':World}{v:Value}{l:List UInt8}(h:IsBytes w v l)(hb:Below w.heap.size w w'):IsBytes w' v l:=by
 rcases h with h | ⟨x,cap,hv,hc⟩
 ·exact .inl h
 ·refine .inr ⟨x,cap,hv,fun j hj=>?_⟩
  rw[<-hc j hj]
  exact hb.cell (p:=x.add j) (cell_lt (hc j hj))
theorem IsBytes.conv {w:World}{v:Value}{l:List UInt8}(h:IsBytes w v l):(convert 25 9 v).run Tryz.prog w=.ok (.string ⟨l.toArray⟩) w:=by
 rcases h with⟨rfl,rfl⟩ | ⟨x,cap,rfl,hc⟩
 ·rw[run_convert_bytes_string w 25 9 5 none 0 0 Tryz.underlying25 Tryz.underlying5 Tryz.underlying9]
  rfl
 ·exact run_convert_bytes_back w 25 9 5 x cap l Tryz.underlying25 Tryz.underlying5 Tryz.underlying9 hc
theorem add_zero_at (B j:Nat):(⟨B,0,none⟩:Addr).add j=⟨B,j,none⟩:=by cases j <;> simp[Addr.add]
theorem isBytes_arg (w:World) (x:Addr) (n cap:Nat) (zs:List Int)(hl:n<=cap)(hz:zs.length=cap)
  (hc:∀ i,i < zs.length->w.cell? (x.add i)=some (.int .u8 (zs.getD i 0)))(hw:∀ z∈zs,0<=z/\z<=255):∃ l,IsBytes w (.slice (some x) n cap) l:=by
 refine⟨(zs.take n).map fun z=>UInt8.ofNat z.toNat,.inr ⟨x,cap,?_,fun j hj=>?_⟩⟩
 ·rw[List.length_map,List.length_take,Nat.min_eq_left (by omega)]
 ·have hj2:j < zs.length:=by rw[List.length_map,List.length_take] at hj;omega
  rw[hc j hj2]
  have hb:=hw _ (List.getElem_mem hj2)
  rw[List.getElem_map,List.getElem_take,toNat_ofNat (by omega),List.getD_eq_getElem?_getD,List.getElem?_eq_getElem hj2]
  simp
  omega
def rest (s:ByteArray) (last pos:Nat):List UInt8:=enc (fixR last (runes ((bl s).drop pos)))
theorem rest_step (s:ByteArray) (last pos r wd:Nat)(h:pos < s.size)(hd:dl ((bl s).drop pos)=(r,wd)):rest s last pos=enc (one last r)++rest s r (pos+wd):=by
 unfold rest
 rw[runes_drop s pos r wd h hd,fixR,enc_append]
theorem rest_end (s:ByteArray) (last pos:Nat)(h:¬ pos < s.size):rest s last pos=[]:=by
 unfold rest
 rw[drop_all s pos h,runes_nil]
 rfl
theorem er_cells (r:Nat):Lib.byteCells (er r)=Lib.runeCells (r:Int):=Lib.byteCells_encodeRune _
theorem enc_one (r:Nat):enc [r]=er r:=by rw[enc_cons,enc_nil,List.append_nil]
theorem fix_str (v:Value) (s:ByteArray) (w:World)(hv:∀ o,(convert 25 9 v).run Tryz.prog (w.alloc o)=.ok (.string s) (w.alloc o))(hs:s.size<=1099511627776) :
  Calls Tryz.prog 19 #[v] w fun e w'=>e=.returned (.string ⟨(fix (bl s)).toArray⟩)/\Below w.heap.size w w':=by
 go_enter Tryz.func19,Tryz.ntmps19
 go_wp2
 clear hv
 go_loopw [4] (fun la wr=>∃ (pos last:Nat) (acc:List UInt8),la=.int .i32 last/\Lib.IsBuilderF 71 5 w.heap.size w.heap.size (Lib.byteCells acc) wr/\wr.heap[w.heap.size+1]?=some (.stringIter s pos)/\Below w.heap.size w wr/\Hid (acc++rest s last pos=fix (bl s))/\acc.length<=4*pos/\pos<=s.size/\last<=1114111) (fun _ wr=>s.size - wr.iterPos (w.heap.size+1))
 case atStart =>
  refine⟨0,0,[],rfl,(Lib.IsBuilderF.of (Lib.fresh_isBuilder 71 5 w)).alloc _,?_,((Below.refl _ w).alloc (Nat.le_refl _) _).alloc (by simp) _,hide rfl,by simp,Nat.zero_le _,by omega⟩
  have:=World.iter_heap (w.alloc (.cells #[.pointer none,.slice none 0 0] 71)) s 0
  simpa using this
 case round =>
  obtain⟨pos,last,acc,rfl,hI,hit,hbw,HA,hal,hp,hla⟩:=hrel
  have hsz:w.heap.size+1 < wr.heap.size:=(Array.getElem?_eq_some_iff.1 hit).1
  by_cases hlt:pos < s.size
  ·obtain⟨r,wd,hw1,hw4,hwl,hr,hdl,hnx⟩:=next_some Tryz.prog wr (w.heap.size+1) s pos hit hlt
   have hstep:=rest_step s last pos r wd hlt hdl
   have hI2:=hI.iterAt hit (pos+wd)
   have hit2:=Lib.iterAt_heap wr (w.heap.size+1) s pos (pos+wd) hit
   have hbw2:=Lib.below_iterAt hbw (k:=w.heap.size+1) (by omega) s (pos+wd)
   have hsz2:w.heap.size<=(wr.iterAt (w.heap.size+1) s (pos+wd)).heap.size:=by rw[Lib.iterAt_size];omega
   have HS:=hide hstep
   clear hstep hdl
   by_cases h0:r=0
   ·subst h0
    have HO:Hid (one last 0=[65533]):=hide rfl
    go_wp2_with (go_at_call 63;refine (Tryz.Builder_WriteRune_k w.heap.size w.heap.size _ _ (by omega) (by omega) _ hI2 (by rw[Lib.byteCells_length];omega) hsz2).mono ?_)
    rintro e W1 ⟨rfl,h1,b1,k1⟩
    go_wp2
    go_roundw
    case rel =>
     have hl4:=er_len 65533
     refine⟨pos+wd,0,acc++er 65533,rfl,?_,k1.iter hit2 (by omega),hbw2.trans b1,hide ?_,by simp;omega,hwl,by omega⟩
     ·rw[Lib.byteCells_append,er_cells];exact Or.inr h1
     ·rw[<-HA.out,HS.out,HO.out,enc_one,List.append_assoc]
    case measure =>
     simp only[World.iterPos,k1.iter hit2 (by omega),hit]
     omega
   ·by_cases h13:r=13
    ·subst h13
     have HO:Hid (one last 13=[10]):=hide rfl
     go_wp2_with (go_at_call 62;refine (Tryz.Builder_WriteByte_k w.heap.size w.heap.size _ 10 _ hI2 (by rw[Lib.byteCells_length];omega) hsz2).mono ?_)
     rintro e W1 ⟨rfl,h1,b1,k1⟩
     go_wp2
     go_roundw
     case rel =>
      refine⟨pos+wd,13,acc++[10],rfl,?_,k1.iter hit2 (by omega),hbw2.trans b1,hide ?_,by simp;omega,hwl,by omega⟩
      ·rw[Lib.byteCells_append];exact Or.inr h1
      ·rw[<-HA.out,HS.out,HO.out,enc_one,List.append_assoc]
       rfl
     case measure =>
      simp only[World.iterPos,k1.iter hit2 (by omega),hit]
      omega
    ·by_cases h10:r=10
     ·by_cases hl13:last=13
      ·subst h10
       subst hl13
       have HO:Hid (one 13 10=[]):=hide rfl
       go_wp2
       go_roundw
       case rel =>
        refine⟨pos+wd,10,acc,rfl,hI2,hit2,hbw2,hide ?_,by omega,hwl,by omega⟩
        rw[<-HA.out,HS.out,HO.out,enc_nil,List.nil_append]
       case measure =>
        simp only[World.iterPos,hit2,hit]
        omega
      ·subst h10
       have hB:((last:Int)==13)=false:=beq_eq_false_iff_ne.2 (by omega)
       have HO:Hid (one last 10=[10]):=hide (by unfold one;rw[if_neg h0,if_neg h13,if_neg (fun e=>hl13 e.2)])
       go_wp2_with (go_at_call 63;refine (Tryz.Builder_WriteRune_k w.heap.size w.heap.size _ _ (by omega) (by omega) _ hI2 (by rw[Lib.byteCells_length];omega) hsz2).mono ?_)
       rintro e W1 ⟨rfl,h1,b1,k1⟩
       go_wp2
       go_roundw
       case rel =>
        have hl4:=er_len 10
        refine⟨pos+wd,10,acc++er 10,rfl,?_,k1.iter hit2 (by omega),hbw2.trans b1,hide ?_,by simp;omega,hwl,by omega⟩
        ·rw[Lib.byteCells_append,er_cells];exact Or.inr h1
        ·rw[<-HA.out,HS.out,HO.out,enc_one,List.append_assoc]
       case measure =>
        simp only[World.iterPos,k1.iter hit2 (by omega),hit]
        omega
     ·have hA0:((r:Int)==0)=false:=beq_eq_false_iff_ne.2 (by omega)
      have hA1:((r:Int)==13)=false:=beq_eq_false_iff_ne.2 (by omega)
      have hA2:((r:Int)==10)=false:=beq_eq_false_iff_ne.2 (by omega)
      have HO:Hid (one last r=[r]):=hide (by unfold one;rw[if_neg h0,if_neg h13,if_neg (fun e=>h10 e.1)])
      go_wp2_with (go_at_call 63;refine (Tryz.Builder_WriteRune_k w.heap.size w.heap.size _ _ (by omega) (by omega) _ hI2 (by rw[Lib.byteCells_length];omega) hsz2).mono ?_)
      rintro e W1 ⟨rfl,h1,b1,k1⟩
      go_wp2
      go_roundw
      case rel =>
       have hl4:=er_len r
       refine⟨pos+wd,r,acc++er r,rfl,?_,k1.iter hit2 (by omega),hbw2.trans b1,hide ?_,by simp;omega,hwl,hr⟩
       ·rw[Lib.byteCells_append,er_cells];exact Or.inr h1
       ·rw[<-HA.out,HS.out,HO.out,enc_one,List.append_assoc]
      case measure =>
       simp only[World.iterPos,k1.iter hit2 (by omega),hit]
       omega
  ·-- the text is through
   have hnx:∀ ty,(Instr.next (.pointer (some ⟨w.heap.size+1,0,none⟩)) true ty).run Tryz.prog wr=_:=fun ty=>Lib.run_next_end_at wr (w.heap.size+1) s pos ty hit hlt
   go_wp2_with (go_at_call 60;refine (Tryz.Builder_String_any_k w.heap.size w.heap.size acc _ hI (by omega)).mono ?_)
   rintro e W1 ⟨rfl,_,b1,_⟩
   go_wp2
   go_ret
   have hacc:=HA.out
   rw[rest_end s last pos hlt,List.append_nil] at hacc
   rw[hacc]
   exact⟨rfl,hbw.trans b1⟩
theorem fix_any (v:Value) (l:List UInt8) (w:World)(h:IsBytes w v l)(hl:l.length<=1099511627776) :
  Calls Tryz.prog 19 #[v] w fun e w'=>e=.returned (.string ⟨(fix l).toArray⟩)/\Below w.heap.size w w' :=
 fix_str v ⟨l.toArray⟩ w (fun o=>(h.below ((Below.refl _ w).alloc (Nat.le_refl _) o)).conv) hl
end Go.Proofs.YtkiofbikkhhdfabGreatDoor.Uf
namespace Go.Proofs.YtkiofbikkhhdfabGreatDoor.Uf
open Go.RowKit
open Utf1
theorem isBytes_new (w:World) (C:Array Value) (fz:Nat × Nat) (l:List UInt8) (cap:Nat) (n:Nat)(hn:n=l.length)(h:∀ j (hj:j < l.length),C[j]?=some (.int .u8 (l[j].toNat:Int))) :
  IsBytes (w.alloc (.cells C 5 fz)) (.slice (some ⟨w.heap.size,0,none⟩) n cap) l:=by
 subst hn
 refine .inr ⟨⟨w.heap.size,0,none⟩,cap,rfl,fun j hj=>?_⟩
 rw[add_zero_at,World.cell?_alloc_mark]
 exact h j hj
theorem cells_of (l:List UInt8) (j:Nat)(hj:j < l.length):((l.map fun b=>Value.int .u8 (b.toNat:Int)).toArray)[j]?=some (.int .u8 (l[j].toNat:Int)):=by
 simp[hj]
end Go.Proofs.YtkiofbikkhhdfabGreatDoor.Uf
namespace Go.Proofs.YtkiofbikkhhdfabGreatDoor.Dm
open Go.RowKit
open Utf1
theorem meth_text (w:World) (a b c d:Value):(method 334 161 (.agg #[a,b,c,d]) "verso/ser.write").run Tryz.prog w=.ok (207,.agg #[a,b,c,d]) w:=by kernel_rfl
theorem meth_elem (w:World) (a b c d:Value):(method 334 162 (.agg #[a,b,c,d]) "verso/ser.write").run Tryz.prog w=.ok (209,.agg #[a,b,c,d]) w:=by kernel_rfl
theorem writeAll_nst (w0:World):∀ (D:Nat) (w:World) (v:Value) (ns:List Nd) (acc:List UInt8),NAtD w0 D v ns->Below w0.heap.size w0 w->PB w0 w acc->acc.length+(htL ns).length<=1000000000 ->
  Calls Tryz.prog 66 #[.pointer (some ⟨w0.heap.size,0,none⟩),v] w (WPost w0 w acc (htL ns)):=by
 intro D
 induction D with
 | zero=>intro w v ns acc h;exact h.elim
 | succ D0 ih =>
 intro w v ns acc hk hb hu hlen
 obtain⟨p,c,rfl,hNm,hnode⟩:=hk
 have HNODE:=hide hnode
 have HBW:=hide hb
 have HBU:=hide hu
 have HIH:=hide ih
 have HLEN:=hide hlen
 obtain⟨N,hN⟩:∃ N,N=ns.length:=⟨_,rfl⟩
 rw[<-hN] at hNm ⊢
 have HN:=hide hN
 clear hnode hb ih hN hu hlen
 go_enter Tryz.func66,Tryz.ntmps66
 go_wp2_with fail
 go_loopg [8] N (fun k v8 wr=>∃ (j:Nat) (d rest:List Nd),rest.length=k/\d.length=j/\j+k=N/\v8=.int .i64 (j:Int)/\Hid (ns=d++rest)/\Hid (PB w0 wr (acc++htL d)/\Below w0.heap.size w wr/\Lib.OthersKept 5 (some w0.heap.size) w wr))
 case atStart=>exact⟨0,[],ns,HN.out.symm,rfl,by omega,rfl,hide rfl,hide ⟨by rw[show htL []=[] from rfl,List.append_nil];exact HBU.out,Below.refl _ _,Lib.OthersKept.refl _ _ _⟩⟩
 case round =>
  obtain⟨j,d,rest,rfl,hdj,hjk,rfl,HD,HS⟩:=hrel
  clear HBU
  match rest,hjk,HD with
  | [],hjk,HD =>
   have e1:d=ns:=by
    have:=HD.out
    rw[List.append_nil] at this
    exact this.symm
   simp only[List.length_nil,Nat.add_zero] at hjk
   subst hjk
   subst e1
   clear HD hdj
   go_wp2_with fail
   go_end0
   exact⟨rfl,HS.out⟩
  | nd :: rest,hjk,HD =>
   have hjN:j < N:=by simp only[List.length_cons] at hjk;omega
   have hge:ns[j]?=some nd:=by
    rw[HD.out,List.getElem?_append_right (by omega),hdj,Nat.sub_self]
    rfl
   obtain⟨g,off,ap,am,ac,kp,km,kc,hp,x0,x1,x2,x3,hsz,har,hkk⟩:=HNODE.out j nd hge
   subst hp
   have hbr:=HBW.out.trans HS.out.2.1
   have x0:=cell_keep x0 hbr
   have x1:=cell_keep x1 hbr
   have x2:=cell_keep x2 hbr
   have x3:=cell_keep x3 hbr
   have hct:(htL ns).length=(htL d).length+((htN nd).length+(htL rest).length):=by
    rw[HD.out,htL_app,List.length_append,htL,List.length_append]
   have hlen:=HLEN.out
   obtain⟨XN,hXN⟩:∃ X:ByteArray,X=⟨nd.name.toArray⟩:=⟨_,rfl⟩
   obtain⟨XT,hXT⟩:∃ X:ByteArray,X=⟨nd.text.toArray⟩:=⟨_,rfl⟩
   rw[<-hXN] at x0
   rw[<-hXT] at x2
   have q0:XN.toList.isEmpty=decide (nd.name=[]):=by rw[hXN];exact nm_empty _
   have hT1:bl XT=nd.text:=by rw[hXT]
   obtain⟨w2,hw2⟩:∃ w2,w2=wr.alloc (.cells #[.string XN,.slice ap am ac,.string XT,.slice kp km kc] 80):=⟨_,rfl⟩
   have hb2:Below wr.heap.size wr w2:=by rw[hw2];exact (Below.refl _ _).alloc (Nat.le_refl _) _
   have y0:w2.cell? ⟨wr.heap.size,0,none⟩=some (.string XN):=by rw[hw2,new_cell];rfl
   have y1:w2.cell? ⟨wr.heap.size,1,none⟩=some (.slice ap am ac):=by rw[hw2,new_cell];rfl
   have y2:w2.cell? ⟨wr.heap.size,2,none⟩=some (.string XT):=by rw[hw2,new_cell];rfl
   have y3:w2.cell? ⟨wr.heap.size,3,none⟩=some (.slice kp km kc):=by rw[hw2,new_cell];rfl
   have HD2:Hid (ns=(d++[nd])++rest):=hide (by rw[HD.out];simp)
   have HT2:Hid (acc++htL (d++[nd])=acc++htL d++htN nd):=hide (by rw[htL_app];show acc++(_++(htN nd++[]))=_;rw[List.append_nil,List.append_assoc])
   have hjk2:j+(rest.length+1)=N:=hjk
   have hdj2:(d++[nd]).length=j+1:=by simp[hdj]
   have HWC:Hid (∀ wx,Below w2.heap.size w2 wx->Calls Tryz.prog (if nd.name=[] then 207 else 209) #[.agg #[.string XN,.slice ap am ac,.string XT,.slice kp km kc],.pointer (some ⟨w0.heap.size,0,none⟩)] wx fun e w'=>e=.returned (.tuple #[])/\Hid (PB w0 w' (acc++htL (d++[nd]))/\Below w0.heap.size w w'/\Lib.OthersKept 5 (some w0.heap.size) w w')):=hide (by
    intro wx hx
    have hbx:=bel2 hb2 hx
    have hend:∀ x,x=htN nd->∀ e w',WPost w0 wx (acc++htL d) x e w'->e=.returned (.tuple #[])/\Hid (PB w0 w' (acc++htL (d++[nd]))/\Below w0.heap.size w w'/\Lib.OthersKept 5 (some w0.heap.size) w w'):=by
     intro x hx e w' ⟨h1,h2,h3,h4⟩
     subst hx
     exact⟨h1,by rw[HT2.out];exact h2,HS.out.2.1.trans ((hbx.mono hbr.size).trans h3),HS.out.2.2.trans ((kept_bel hbx).trans h4)⟩
    by_cases hn:nd.name=[]
    ·rw[if_pos hn]
     have hh:=htN_kids nd
     rw[if_pos hn,<-hT1] at hh
     refine (text_write w0 wx ap am ac XN XT kp km kc (acc++htL d) (hbr.trans (hbx.mono hbr.size)) (HS.out.1.keep hbx) ?_).mono (hend _ hh.symm)
     rw[List.length_append,<-hh]
     omega
    ·rw[if_neg hn]
     refine (elem_write w0 wx nd ap am ac XN XT kp km kc (acc++htL d) hXN hn (hbr.trans (hbx.mono hbr.size)) (HS.out.1.keep hbx) har ?_ ?_).mono (hend _ rfl)
     ·intro wy ac2 h1 h2 h3
      exact HIH.out wy _ _ ac2 hkk h1 h2 h3
     ·rw[List.length_append]
      omega)
   clear hge hkk har hbr HD hXT hXN hjk hct hlen hT1 HS hdj HIH HNODE HT2 hsz
   have HB2:=hide hb2
   clear hb2
   go_upto_region 3 with fail
   rw[<-hw2]
   clear hw2 x0 x1 x2 x3
   by_cases hnm:nd.name=[]
   ·rw[decide_eq_true hnm] at q0
    rw[if_pos hnm] at HWC
    have hm:=fun w=>meth_text w (.string XN) (.slice ap am ac) (.string XT) (.slice kp km kc)
    go_wp2_with fail
    refine (partOf_text _ ap am ac XN XT kp km kc q0).mono ?_
    rintro e w3 ⟨rfl,hb3⟩
    have HW3:=hide (HWC.out w3 hb3)
    clear hb3 HWC
    go_wp2_with fail
    refine HW3.out.mono ?_
    rintro e w4 ⟨rfl,HS4⟩
    clear HW3 hm
    go_wp2_with fail
    go_roundg rest.length
    case measure=>simp only[List.length_cons];omega
    case rel=>exact⟨j+1,d++[nd],rest,rfl,hdj2,by omega,by first | rfl | simp,HD2,HS4⟩
   ·rw[decide_eq_false hnm] at q0
    rw[if_neg hnm] at HWC
    have hm:=fun w=>meth_elem w (.string XN) (.slice ap am ac) (.string XT) (.slice kp km kc)
    go_wp2_with fail
    refine (partOf_elem _ ap am ac XN XT kp km kc q0).mono ?_
    rintro e w3 ⟨rfl,hb3⟩
    have HW3:=hide (HWC.out w3 hb3)
    clear hb3 HWC
    go_wp2_with fail
    refine HW3.out.mono ?_
    rintro e w4 ⟨rfl,HS4⟩
    clear HW3 hm
    go_wp2_with fail
    go_roundg rest.length
    case measure=>simp only[List.length_cons];omega
    case rel=>exact⟨j+1,d++[nd],rest,rfl,hdj2,by omega,by first | rfl | simp,HD2,HS4⟩
theorem html_nst (w:World) (v:Value) (ns:List Nd)(hk:NAt w v ns)(hl:(htL ns).length<=1000000000) :
  Calls Tryz.prog 22 #[v] w fun e w'=>(∃ O,e=.returned (.string O)/\bl O=htL ns)/\Below w.heap.size w w':=by
 obtain⟨D,hk⟩:=hk
 have hb1:Below w.heap.size w (w.alloc (.cells #[.pointer none,.slice none 0 0] 71)):=(Below.refl _ _).alloc (Nat.le_refl _) _
 have hu1:PB w (w.alloc (.cells #[.pointer none,.slice none 0 0] 71)) []:=Lib.IsBuilderF.of (Lib.fresh_isBuilder 71 5 w)
 have HW:=hide (writeAll_nst w D _ v ns [] hk hb1 hu1 (by simpa using hl))
 have HB1:=hide hb1
 clear hk hb1 hu1
 go_enter Tryz.func22,Tryz.ntmps22
 go_wp2_with fail
 refine HW.out.mono ?_
 rintro e w2 ⟨rfl,m1,m2,-⟩
 have HS:=hide (Tryz.Builder_String_any_k w.heap.size w.heap.size _ w2 m1 (HB1.out.trans m2).size)
 have HB2:=hide (HB1.out.trans m2)
 clear m1 m2 HW HB1
 go_wp2_with fail
 refine HS.out.mono ?_
 rintro e w3 ⟨rfl,_,m2,_⟩
 have HB3:=hide (HB2.out.trans m2)
 clear m2 HS HB2
 go_wp2_with fail
 go_ret
 exact⟨⟨_,rfl,rfl⟩,HB3.out⟩
end Go.Proofs.YtkiofbikkhhdfabGreatDoor.Dm
