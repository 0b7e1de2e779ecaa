import Derived.Test.YtkiofbikkhhdfabGreatDoorK02
import Derived.Deep.RegionHeld
import Derived.Test.YtkiofbikkhhdfabGreatDoorShelf
import Derived.Test.YtkiofbikkhhdfabGreatDoorK04
import Derived.Test.YtkiofbikkhhdfabGreatDoorMath
import Derived.WalkKit
import Derived.WalkSpells
import Derived.WalkLawsBesides
import Derived.BigCall
import Derived.Laws.IdiomStrings
import Derived.Lib.SlBytesConst
import Derived.Test.YtkiofbikkhhdfabGreatDoorK13
import Derived.Deep.WholeRow
import Derived.Laws.Tables
import Derived.KernelRfl
namespace Go.Proofs.YtkiofbikkhhdfabGreatDoor
open Go.RowKit
section
variable {P:Program}{ops:Array Oper}{Q:Exit->Act->World->Prop}{md:Region.Mode}{S:World->Prop}{m:Nat}
def wpU (P:Program) (md:Region.Mode) (ops:Array Oper) (Q:Exit->Act->World->Prop) (m:Nat) (S:World->Prop):Nat->Array Bool->Act->World->Prop
 | 0,listed,a,w=>Region.ready md ops listed=[]/\Q .normal a w
 | fuel+1,listed,a,w=>(Region.ready md ops listed=[]->Q .normal a w)/\∀ i∈Region.ready md ops listed,wpOp P ops Q i (fun a' w'=>if i=m then wpAny P md ops Q fuel (listed.setIfInBounds i true) a' w' else S w'/\wpU P md ops Q m S fuel (listed.setIfInBounds i true) a' w') a w
theorem wpU_any:∀ (fuel:Nat) (listed:Array Bool) (a:Act) (w:World),wpU P md ops Q m S fuel listed a w->wpAny P md ops Q fuel listed a w
 | 0,_,_,_,h=>h
 | fuel+1,_,_,_,h=>⟨h.1,fun i hi=>wpOp_mono (fun a' w' h'=>by
   by_cases e:i=m
   ·rw[if_pos e] at h'
    exact h'
   ·rw[if_neg e] at h'
    exact wpU_any fuel _ a' w' h'.2) (h.2 i hi)⟩
def waitsFor (md:Region.Mode) (ops:Array Oper) (m i:Nat):Bool:=match ops[m]? with
 | some o=>o.after.any fun e=>Region.binds md e && decide (e.on=i)
 | none=>false
theorem not_up {i:Nat}(hw:waitsFor md ops m i=true) {listed:Array Bool}(hi:i∈Region.ready md ops listed):m ∉ Region.ready md ops listed:=by
 intro hm
 obtain⟨_,o,ho,hall⟩:=mem_ready.1 hm
 have h0:=(mem_ready.1 hi).1
 unfold waitsFor at hw
 rw[ho] at hw
 obtain⟨e,he,hb⟩:=Array.any_eq_true'.1 hw
 rw[Bool.and_eq_true,decide_eq_true_eq] at hb
 have h1:=hall e he hb.1
 rw[hb.2] at h1
 rcases Nat.lt_or_ge i listed.size with h | h
 ·simp[h] at h0 h1
  rw[h0] at h1
  cases h1
 ·simp[Array.getElem?_eq_none h] at h1
theorem wpU_first {i:Nat}{oi:Oper}{v:Value}(hi:ops[i]?=some oi)(hsel:∀ (j:Nat) (o:Oper) cs b,ops[j]?=some o->o.op≠.select cs b)(hQ:∀ c a w,Q (.panic c) (a.put oi.dst v) w->Q (.panic c) a w)(hw:waitsFor md ops m i=true) :
  ∀ (fuel:Nat) (listed:Array Bool) (a:Act) (w:World),(∀ j oj,ops[j]?=some oj->j≠i->listed.getD j true=false->(∀ e∈oj.after,Region.binds md e=true->e.on≠i)->oi.apart ops oj=true) ->
   i∈Region.ready md ops listed->YieldsIf P ops S oi v a->S w->wpU P md ops Q m S fuel (listed.setIfInBounds i true) (a.put oi.dst v) w->wpU P md ops Q m S (fuel+1) listed a w
 | 0,listed,a,w,_,hr,hy,hS,H=>by
  have him:i≠m:=fun e=>not_up hw hr (e ▸ hr)
  refine⟨fun h=>(by rw[h] at hr;cases hr),fun j hj=>?_⟩
  by_cases hji:j=i
  ·subst hji
   exact hy.wpOp hi hS (by rw[if_neg him];exact⟨hS,H⟩)
  ·have h:=ready_mono hj hji
   rw[H.1] at h
   cases h
 | fuel+1,listed,a,w,hfree,hr,hy,hS,H=>by
  have him:i≠m:=fun e=>not_up hw hr (e ▸ hr)
  refine⟨fun h=>(by rw[h] at hr;cases hr),fun j hj=>?_⟩
  by_cases hji:j=i
  ·subst hji
   exact hy.wpOp hi hS (by rw[if_neg him];exact⟨hS,H⟩)
  have hjm:j≠m:=fun e=>not_up hw hr (e ▸ hj)
  obtain⟨hjun,oj,hoj,hall⟩:=mem_ready.1 hj
  have hnot:∀ e∈oj.after,Region.binds md e=true->e.on≠i:=fun e he hb heq=>by
   have h1:=hall e he hb
   have h0:=(mem_ready.1 hr).1
   rw[heq] at h1
   rcases Nat.lt_or_ge i listed.size with h' | h'
   ·simp[h'] at h0 h1
    rw[h0] at h1
    cases h1
   ·simp[Array.getElem?_eq_none h'] at h1
  have h2:=wpOp_putIf hoj (hfree j oj hoj hji hjun hnot) (fun cs b=>hsel i oi cs b hi) (fun cs b=>hsel j oj cs b hoj) hQ hy (H.2 j (ready_mono hj hji))
  refine wpOp_mono (fun a' w' h3=>?_) h2
  obtain⟨h4,h5⟩:=h3
  rw[if_neg hjm] at h5 ⊢
  refine⟨h5.1,wpU_first hi hsel hQ hw fuel _ a' w' (fun k ok hk hki hun hno=>hfree k ok hk hki ?_ hno) (ready_mono hr (Ne.symm hji)) h4 h5.1 ?_⟩
  ·by_cases hjk:j=k
   ·subst hjk
    exact hjun
   ·rw[getD_set_ne true hjk] at hun
    exact hun
  ·rw[Array.setIfInBounds_comm _ _ hji]
   exact h5.2
theorem wpU_at {i:Nat}{oi:Oper}{v:Value}{fuel:Nat}{listed:Array Bool}{a a1:Act}{w:World}(hi:ops[i]?=some oi)(hs:Region.noSelect ops=true)(hf:Region.free md ops listed i=true)(hr:(Region.ready md ops listed).contains i=true)
  (hw:waitsFor md ops m i=true)(hQ:∀ c a w,Q (.panic c) (a.put oi.dst v) w->Q (.panic c) a w)(hy:YieldsIf P ops S oi v a)(hS:S w)(ha:a.put oi.dst v=a1)(h:wpU P md ops Q m S fuel (listed.setIfInBounds i true) a1 w):wpU P md ops Q m S (fuel+1) listed a w :=
 wpU_first hi (Region.noSelect_spec hs) hQ hw fuel listed a w (Region.free_spec hi hf) (by simpa using hr) hy hS (ha ▸ h)
def AllU (P:Program) (md:Region.Mode) (ops:Array Oper) (Q:Exit->Act->World->Prop) (m:Nat) (S:World->Prop) (fuel:Nat) (listed:Array Bool) (a:Act) (w:World) (rs:List Nat):Prop :=
 ∀ i∈rs,wpOp P ops Q i (fun a' w'=>if i=m then wpAny P md ops Q fuel (listed.setIfInBounds i true) a' w' else S w'/\wpU P md ops Q m S fuel (listed.setIfInBounds i true) a' w') a w
theorem AllU.nil {fuel:Nat}{listed:Array Bool}{a:Act}{w:World}:AllU P md ops Q m S fuel listed a w []:=fun _ h=>by cases h
theorem AllU.cons {fuel:Nat}{listed:Array Bool}{a:Act}{w:World}{i:Nat}{o:Oper}{rs:List Nat}(hm:i≠m)(ho:ops[i]?=some o)
  (h:∀ K':Act->World->Prop,Shut (∀ a w,S w->(S w->wpU P md ops Q m S fuel (listed.setIfInBounds i true) a w)->K' a w)->if Region.wanted o (yielded ops a.tmps)=true then Oper.wp P o a w K' Q else K' (a.put o.dst undef) w)
  (hs:AllU P md ops Q m S fuel listed a w rs):AllU P md ops Q m S fuel listed a w (i :: rs):=fun j hj=>by
 rcases List.mem_cons.1 hj with rfl | hj
 ·exact wpOp_step ho (fun K' hK=>h K' (fun a w hS hW=>hK a w (by rw[if_neg hm];exact⟨hS,hW hS⟩)))
 ·exact hs j hj
theorem AllU.last {fuel:Nat}{listed:Array Bool}{a:Act}{w:World}{o:Oper}(ho:ops[m]?=some o)
  (h:∀ K':Act->World->Prop,Shut (∀ a w,wpAny P md ops Q fuel (listed.setIfInBounds m true) a w->K' a w)->if Region.wanted o (yielded ops a.tmps)=true then Oper.wp P o a w K' Q else K' (a.put o.dst undef) w):AllU P md ops Q m S fuel listed a w [m]:=fun j hj=>by
 rw[List.mem_singleton.1 hj]
 exact wpOp_step ho (fun K' hK=>h K' (fun a w hW=>hK a w (by rw[if_pos rfl];exact hW)))
theorem wpU_ready {rs:List Nat}{fuel:Nat}{listed:Array Bool}{a:Act}{w:World}(hr:Region.ready md ops listed=rs)(hne:rs≠[])(h:AllU P md ops Q m S fuel listed a w rs):wpU P md ops Q m S (fuel+1) listed a w :=
 ⟨fun h0=>absurd (hr ▸ h0) hne,hr ▸ h⟩
theorem wp_region_until {id:Nat}{a:Act}{w:World}(hm:P.follows .mixedOrders=true)(hS:S w.drew)(h:S w.drew->wpU P .any ops Q m S ops.size (Array.replicate ops.size false) a w.drew):(Code.region id ops true).wp P Q a w :=
 wp_region_any hm (wpU_any _ _ _ _ (h hS))
end
end Go.Proofs.YtkiofbikkhhdfabGreatDoor
namespace Go.Proofs.YtkiofbikkhhdfabGreatDoor.Uf
open Go.RowKit
open Utf1
theorem next_some (P:Program) (w:World) (k:Nat) (s:ByteArray) (pos:Nat)(hk:w.heap[k]?=some (.stringIter s pos))(h:pos < s.size) :
  ∃ r wd:Nat,1<=wd/\wd<=4/\pos+wd<=s.size/\r<=1114111/\dl ((bl s).drop pos)=(r,wd)/\(∀ ty,(Instr.next (.pointer (some ⟨k,0,none⟩)) true ty).run P w =
   .ok (.tuple #[.bool true,.int .i64 pos,.int .i32 r]) (w.iterAt k s (pos+wd))):=by
 have hne:(bl s).drop pos≠[]:=by
  intro e
  have:=congrArg List.length e
  rw[List.length_drop,bl_len] at this
  simp at this
  omega
 have hw:=dl_width _ hne
 have hsc:=dl_scalar _ hne
 rw[List.length_drop,bl_len] at hw
 refine⟨(dl ((bl s).drop pos)).1,(dl ((bl s).drop pos)).2,hw.1,hw.2.1,by omega,by unfold Scalar at hsc;omega,rfl,fun ty=>?_⟩
 rw[Lib.run_next_any_at w k s pos ty hk h,decode_dl s pos h]
theorem drop_ne (s:ByteArray) (pos:Nat)(h:pos < s.size):(bl s).drop pos≠[]:=by
 intro e
 have:=congrArg List.length e
 rw[List.length_drop,bl_len] at this
 simp at this
 omega
theorem drop_all (s:ByteArray) (pos:Nat)(h:¬ pos < s.size):(bl s).drop pos=[]:=by
 rw[List.drop_eq_nil_iff,bl_len]
 omega
theorem runes_drop (s:ByteArray) (pos r wd:Nat)(h:pos < s.size)(hd:dl ((bl s).drop pos)=(r,wd)):runes ((bl s).drop pos)=r :: runes ((bl s).drop (pos+wd)):=by
 rw[runes_step _ (drop_ne s pos h),hd,List.drop_drop]
end Go.Proofs.YtkiofbikkhhdfabGreatDoor.Uf
namespace Go.Proofs.YtkiofbikkhhdfabGreatDoor.Uf
open Go.RowKit
open Utf1
theorem rt_hasPrefix (l:List UInt8)(hl:l≠[]) (wd:Nat)(hd:dl l=(65533,wd)):Lib.hasPrefix l [239,191,189]=decide (rt l≠0):=by
 rw[Bool.eq_iff_iff,decide_eq_true_eq,right_iff l hl,hd]
 unfold Lib.hasPrefix
 rw[List.isPrefixOf_iff_prefix]
 simp
theorem valid_nil:valid []=true:=by
 unfold valid
 rw[runes_nil]
 rfl
theorem valid_drop (s:ByteArray) (pos r wd:Nat)(h:pos < s.size)(hd:dl ((bl s).drop pos)=(r,wd)):valid ((bl s).drop pos)=(decide (rt ((bl s).drop pos)≠0) && valid ((bl s).drop (pos+wd))):=by
 rw[valid_step _ (drop_ne s pos h),hd,List.drop_drop]
end Go.Proofs.YtkiofbikkhhdfabGreatDoor.Uf
namespace Go.Proofs.YtkiofbikkhhdfabGreatDoor.Uf
open Go.RowKit
open Utf1
end Go.Proofs.YtkiofbikkhhdfabGreatDoor.Uf
namespace Go.Proofs.YtkiofbikkhhdfabGreatDoor.Uf
open Go.RowKit
open Utf1
def IsBytes (w:World) (v:Value) (l:List UInt8):Prop :=
 (v=.slice none 0 0/\l=[])\/∃ x cap,v=.slice (some x) l.length cap/\∀ j (hj:j < l.length),w.cell? (x.add j)=some (.int .u8 (l[j].toNat:Int))
theorem cell_lt {w:World}{x:Addr}{v:Value}(h:w.cell? x=some v):x.block < w.heap.size:=by
 unfold World.cell? at h
 cases hb:w.heap[x.block]? with
 | none=>rw[hb] at h;simp at h
 | some o=>exact (Array.getElem?_eq_some_iff.1 hb).1
theorem IsBytes.below {w w':World}{v:Value}{l:List UInt8}(h:IsBytes w v l)(hb:Below w.heap.size w w'):IsBytes w' v l:=by
 rcases h with h | ⟨x,cap,hv,hc⟩
 ·exact .inl h
 ·refine .inr ⟨x,cap,hv,fun j hj=>?_⟩
  rw[<-hc j hj]
  exact hb.cell (p:=x.add j) (cell_lt (hc j hj))
theorem IsBytes.conv {w:World}{v:Value}{l:List UInt8}(h:IsBytes w v l):(convert 25 9 v).run Tryz.prog w=.ok (.string ⟨l.toArray⟩) w:=by
 rcases h with⟨rfl,rfl⟩ | ⟨x,cap,rfl,hc⟩
 ·rw[run_convert_bytes_string w 25 9 5 none 0 0 Tryz.underlying25 Tryz.underlying5 Tryz.underlying9]
  rfl
 ·exact run_convert_bytes_back w 25 9 5 x cap l Tryz.underlying25 Tryz.underlying5 Tryz.underlying9 hc
theorem add_zero_at (B j:Nat):(⟨B,0,none⟩:Addr).add j=⟨B,j,none⟩:=by cases j <;> simp[Addr.add]
theorem isBytes_arg (w:World) (x:Addr) (n cap:Nat) (zs:List Int)(hl:n<=cap)(hz:zs.length=cap)
  (hc:∀ i,i < zs.length->w.cell? (x.add i)=some (.int .u8 (zs.getD i 0)))(hw:∀ z∈zs,0<=z/\z<=255):∃ l,IsBytes w (.slice (some x) n cap) l:=by
 refine⟨(zs.take n).map fun z=>UInt8.ofNat z.toNat,.inr ⟨x,cap,?_,fun j hj=>?_⟩⟩
 ·rw[List.length_map,List.length_take,Nat.min_eq_left (by omega)]
 ·have hj2:j < zs.length:=by rw[List.length_map,List.length_take] at hj;omega
  rw[hc j hj2]
  have hb:=hw _ (List.getElem_mem hj2)
  rw[List.getElem_map,List.getElem_take,toNat_ofNat (by omega),List.getD_eq_getElem?_getD,List.getElem?_eq_getElem hj2]
  simp
  omega
def rest (s:ByteArray) (last pos:Nat):List UInt8:=enc (fixR last (runes ((bl s).drop pos)))
theorem rest_step (s:ByteArray) (last pos r wd:Nat)(h:pos < s.size)(hd:dl ((bl s).drop pos)=(r,wd)):rest s last pos=enc (one last r)++rest s r (pos+wd):=by
 unfold rest
 rw[runes_drop s pos r wd h hd,fixR,enc_append]
theorem rest_end (s:ByteArray) (last pos:Nat)(h:¬ pos < s.size):rest s last pos=[]:=by
 unfold rest
 rw[drop_all s pos h,runes_nil]
 rfl
theorem er_cells (r:Nat):Lib.byteCells (er r)=Lib.runeCells (r:Int):=Lib.byteCells_encodeRune _
theorem enc_one (r:Nat):enc [r]=er r:=by rw[enc_cons,enc_nil,List.append_nil]
set_option maxHeartbeats 4000000 in
set_option maxRecDepth 100000 in
theorem fix_str (v:Value) (s:ByteArray) (w:World)(hv:∀ o,(convert 25 9 v).run Tryz.prog (w.alloc o)=.ok (.string s) (w.alloc o))(hs:s.size<=1099511627776) :
  Calls Tryz.prog 19 #[v] w fun e w'=>e=.returned (.string ⟨(fix (bl s)).toArray⟩)/\Below w.heap.size w w':=by
 go_enter Tryz.func19,Tryz.ntmps19
 go_wp2
 clear hv
 go_loopw [4] (fun la wr=>∃ (pos last:Nat) (acc:List UInt8),la=.int .i32 last/\Lib.IsBuilderF 71 5 w.heap.size w.heap.size (Lib.byteCells acc) wr/\wr.heap[w.heap.size+1]?=some (.stringIter s pos)/\Below w.heap.size w wr/\Hid (acc++rest s last pos=fix (bl s))/\acc.length<=4*pos/\pos<=s.size/\last<=1114111) (fun _ wr=>s.size - wr.iterPos (w.heap.size+1))
 case atStart =>
  refine⟨0,0,[],rfl,(Lib.IsBuilderF.of (Lib.fresh_isBuilder 71 5 w)).alloc _,?_,((Below.refl _ w).alloc (Nat.le_refl _) _).alloc (by simp) _,hide rfl,by simp,Nat.zero_le _,by omega⟩
  have:=World.iter_heap (w.alloc (.cells #[.pointer none,.slice none 0 0] 71)) s 0
  simpa using this
 case round =>
  obtain⟨pos,last,acc,rfl,hI,hit,hbw,HA,hal,hp,hla⟩:=hrel
  have hsz:w.heap.size+1 < wr.heap.size:=(Array.getElem?_eq_some_iff.1 hit).1
  by_cases hlt:pos < s.size
  ·obtain⟨r,wd,hw1,hw4,hwl,hr,hdl,hnx⟩:=next_some Tryz.prog wr (w.heap.size+1) s pos hit hlt
   have hstep:=rest_step s last pos r wd hlt hdl
   have hI2:=hI.iterAt hit (pos+wd)
   have hit2:=Lib.iterAt_heap wr (w.heap.size+1) s pos (pos+wd) hit
   have hbw2:=Lib.below_iterAt hbw (k:=w.heap.size+1) (by omega) s (pos+wd)
   have hsz2:w.heap.size<=(wr.iterAt (w.heap.size+1) s (pos+wd)).heap.size:=by rw[Lib.iterAt_size];omega
   have HS:=hide hstep
   clear hstep hdl
   by_cases h0:r=0
   ·subst h0
    have HO:Hid (one last 0=[65533]):=hide rfl
    go_wp2_with (go_at_call 63;refine (Tryz.Builder_WriteRune_k w.heap.size w.heap.size _ _ (by omega) (by omega) _ hI2 (by rw[Lib.byteCells_length];omega) hsz2).mono ?_)
    rintro e W1 ⟨rfl,h1,b1,k1⟩
    go_wp2
    go_roundw
    case rel =>
     have hl4:=er_len 65533
     refine⟨pos+wd,0,acc++er 65533,rfl,?_,k1.iter hit2 (by omega),hbw2.trans b1,hide ?_,by simp;omega,hwl,by omega⟩
     ·rw[Lib.byteCells_append,er_cells];exact Or.inr h1
     ·rw[<-HA.out,HS.out,HO.out,enc_one,List.append_assoc]
    case measure =>
     simp only[World.iterPos,k1.iter hit2 (by omega),hit]
     omega
   ·by_cases h13:r=13
    ·subst h13
     have HO:Hid (one last 13=[10]):=hide rfl
     go_wp2_with (go_at_call 62;refine (Tryz.Builder_WriteByte_k w.heap.size w.heap.size _ 10 _ hI2 (by rw[Lib.byteCells_length];omega) hsz2).mono ?_)
     rintro e W1 ⟨rfl,h1,b1,k1⟩
     go_wp2
     go_roundw
     case rel =>
      refine⟨pos+wd,13,acc++[10],rfl,?_,k1.iter hit2 (by omega),hbw2.trans b1,hide ?_,by simp;omega,hwl,by omega⟩
      ·rw[Lib.byteCells_append];exact Or.inr h1
      ·rw[<-HA.out,HS.out,HO.out,enc_one,List.append_assoc]
       rfl
     case measure =>
      simp only[World.iterPos,k1.iter hit2 (by omega),hit]
      omega
    ·by_cases h10:r=10
     ·by_cases hl13:last=13
      ·subst h10
       subst hl13
       have HO:Hid (one 13 10=[]):=hide rfl
       go_wp2
       go_roundw
       case rel =>
        refine⟨pos+wd,10,acc,rfl,hI2,hit2,hbw2,hide ?_,by omega,hwl,by omega⟩
        rw[<-HA.out,HS.out,HO.out,enc_nil,List.nil_append]
       case measure =>
        simp only[World.iterPos,hit2,hit]
        omega
      ·subst h10
       have hB:((last:Int)==13)=false:=beq_eq_false_iff_ne.2 (by omega)
       have HO:Hid (one last 10=[10]):=hide (by unfold one;rw[if_neg h0,if_neg h13,if_neg (fun e=>hl13 e.2)])
       go_wp2_with (go_at_call 63;refine (Tryz.Builder_WriteRune_k w.heap.size w.heap.size _ _ (by omega) (by omega) _ hI2 (by rw[Lib.byteCells_length];omega) hsz2).mono ?_)
       rintro e W1 ⟨rfl,h1,b1,k1⟩
       go_wp2
       go_roundw
       case rel =>
        have hl4:=er_len 10
        refine⟨pos+wd,10,acc++er 10,rfl,?_,k1.iter hit2 (by omega),hbw2.trans b1,hide ?_,by simp;omega,hwl,by omega⟩
        ·rw[Lib.byteCells_append,er_cells];exact Or.inr h1
        ·rw[<-HA.out,HS.out,HO.out,enc_one,List.append_assoc]
       case measure =>
        simp only[World.iterPos,k1.iter hit2 (by omega),hit]
        omega
     ·have hA0:((r:Int)==0)=false:=beq_eq_false_iff_ne.2 (by omega)
      have hA1:((r:Int)==13)=false:=beq_eq_false_iff_ne.2 (by omega)
      have hA2:((r:Int)==10)=false:=beq_eq_false_iff_ne.2 (by omega)
      have HO:Hid (one last r=[r]):=hide (by unfold one;rw[if_neg h0,if_neg h13,if_neg (fun e=>h10 e.1)])
      go_wp2_with (go_at_call 63;refine (Tryz.Builder_WriteRune_k w.heap.size w.heap.size _ _ (by omega) (by omega) _ hI2 (by rw[Lib.byteCells_length];omega) hsz2).mono ?_)
      rintro e W1 ⟨rfl,h1,b1,k1⟩
      go_wp2
      go_roundw
      case rel =>
       have hl4:=er_len r
       refine⟨pos+wd,r,acc++er r,rfl,?_,k1.iter hit2 (by omega),hbw2.trans b1,hide ?_,by simp;omega,hwl,hr⟩
       ·rw[Lib.byteCells_append,er_cells];exact Or.inr h1
       ·rw[<-HA.out,HS.out,HO.out,enc_one,List.append_assoc]
      case measure =>
       simp only[World.iterPos,k1.iter hit2 (by omega),hit]
       omega
  ·-- the text is through
   have hnx:∀ ty,(Instr.next (.pointer (some ⟨w.heap.size+1,0,none⟩)) true ty).run Tryz.prog wr=_:=fun ty=>Lib.run_next_end_at wr (w.heap.size+1) s pos ty hit hlt
   go_wp2_with (go_at_call 60;refine (Tryz.Builder_String_any_k w.heap.size w.heap.size acc _ hI (by omega)).mono ?_)
   rintro e W1 ⟨rfl,_,b1,_⟩
   go_wp2
   go_ret
   have hacc:=HA.out
   rw[rest_end s last pos hlt,List.append_nil] at hacc
   rw[hacc]
   exact⟨rfl,hbw.trans b1⟩
theorem fix_any (v:Value) (l:List UInt8) (w:World)(h:IsBytes w v l)(hl:l.length<=1099511627776) :
  Calls Tryz.prog 19 #[v] w fun e w'=>e=.returned (.string ⟨(fix l).toArray⟩)/\Below w.heap.size w w' :=
 fix_str v ⟨l.toArray⟩ w (fun o=>(h.below ((Below.refl _ w).alloc (Nat.le_refl _) o)).conv) hl
end Go.Proofs.YtkiofbikkhhdfabGreatDoor.Uf
namespace Go.Proofs.YtkiofbikkhhdfabGreatDoor.Uf
open Go.RowKit
open Utf1
theorem isBytes_new (w:World) (C:Array Value) (fz:Nat × Nat) (l:List UInt8) (cap:Nat) (n:Nat)(hn:n=l.length)(h:∀ j (hj:j < l.length),C[j]?=some (.int .u8 (l[j].toNat:Int))) :
  IsBytes (w.alloc (.cells C 5 fz)) (.slice (some ⟨w.heap.size,0,none⟩) n cap) l:=by
 subst hn
 refine .inr ⟨⟨w.heap.size,0,none⟩,cap,rfl,fun j hj=>?_⟩
 rw[add_zero_at,World.cell?_alloc_mark]
 exact h j hj
theorem cells_of (l:List UInt8) (j:Nat)(hj:j < l.length):((l.map fun b=>Value.int .u8 (b.toNat:Int)).toArray)[j]?=some (.int .u8 (l[j].toNat:Int)):=by
 simp[hj]
end Go.Proofs.YtkiofbikkhhdfabGreatDoor.Uf
namespace Go.Proofs.YtkiofbikkhhdfabGreatDoor.Dm
open Go.RowKit
open Utf1
def CB (w:World) (B:Nat) (a:Nat->Value) (ov pa bv:Value):Prop:=w.heap[B]?=some (.cells #[a 0,a 1,a 2,a 3,a 4,a 5,a 6,a 7,a 8,ov,pa,bv] 141 (0,0))
theorem clen_any (w:World) (B:Nat) (a:Nat->Value) (ov pa:Value) (p:Option Addr) (m c:Nat)(h:CB w B a ov pa (.slice p m c)) :
  Calls Tryz.prog 82 #[.pointer (some ⟨B,10,none⟩)] w fun e w'=>e=.returned (.int .i64 (m:Int))/\w'=w:=by
 have c2:w.cell? ⟨B,11,none⟩=some (.slice p m c):=tag_cell h 11 _ rfl
 clear h
 go_enter Tryz.func82,Tryz.ntmps82
 go_wp2_with fail
 go_ret
 exact⟨rfl,rfl⟩
theorem creset_any (w:World) (B:Nat) (a:Nat->Value) (ov pa bv:Value)(h:CB w B a ov pa bv) :
  Calls Tryz.prog 83 #[.pointer (some ⟨B,10,none⟩)] w fun e w'=>e=.returned (.tuple #[])/\w'=(w.setCell ⟨B,10,none⟩ (.pointer none)).setCell ⟨B,11,none⟩ (.slice none 0 0):=by
 have c1:w.cell? ⟨B,10,none⟩=some pa:=tag_cell h 10 _ rfl
 have c2:w.cell? ⟨B,11,none⟩=some bv:=tag_cell h 11 _ rfl
 have f1:=tag_free h 10
 have f2:=tag_free h 11
 clear h
 go_enter Tryz.func83,Tryz.ntmps83
 go_wp2_with fail
 go_end0
 exact⟨rfl,rfl⟩
theorem liesCleaner:liesAt Tryz.prog Tryz.prog.depth 141 (12 / Tryz.prog.cellsOf 141) 10 71 1=true:=by kernel_rfl
theorem cb_shape {w:World}{B:Nat}{a:Nat->Value}{ov pa bv:Value}(h:CB w B a ov pa bv):w.shape? B=some (141,12):=by
 unfold CB at h
 simp[World.shape?,h]
set_option maxRecDepth 100000 in
theorem ccheck_used (w:World) (B:Nat) (a:Nat->Value) (ov bv:Value)(h:CB w B a ov (.pointer (some ⟨B,10,none⟩)) bv) :
  Calls Tryz.prog 97 #[.pointer (some ⟨B,10,none⟩)] w fun e w'=>e=.returned (.tuple #[])/\w'=w:=by
 obtain⟨j,hj,_⟩:=Option.map_eq_some_iff.1 sizeBuilder
 have c1:w.cell? ⟨B,10,none⟩=some (.pointer (some ⟨B,10,none⟩)):=tag_cell h 10 _ rfl
 clear h
 go_enter Tryz.func97,Tryz.ntmps97
 go_wp2_with fail
 rw[Lib.run_neq_ptr_same w _ Tryz.underlying69 hj]
 go_wp2
 go_end0
 exact⟨rfl,rfl⟩
set_option maxRecDepth 100000 in
theorem ccheck_none (w:World) (B:Nat) (a:Nat->Value) (ov bv:Value)(h:CB w B a ov (.pointer none) bv) :
  Calls Tryz.prog 97 #[.pointer (some ⟨B,10,none⟩)] w fun e w'=>e=.returned (.tuple #[])/\w'=w.setCell ⟨B,10,none⟩ (.pointer (some ⟨B,10,none⟩)):=by
 obtain⟨j,hj,hjs⟩:=Option.map_eq_some_iff.1 sizeBuilder
 have hsh:=cb_shape h
 have c1:w.cell? ⟨B,10,none⟩=some (.pointer none):=tag_cell h 10 _ rfl
 have f1:=tag_free h 10
 clear h
 go_enter Tryz.func97,Tryz.ntmps97
 go_wp2_with fail
 rw[Lib.run_to_unsafe w ⟨B,10,none⟩ Tryz.underlying69 Tryz.underlying152 hj (by rw[hjs];decide) hsh (show 10 < 12 by decide)]
 simp only[Result.andThen]
 rw[Oper.upon_value]
 go_wp2_with fail
 rw[run_callFunc_extern Tryz.func126 (by kernel_rfl) (by kernel_rfl) (by kernel_rfl) (e:=Extern.AbiNoEscape.same) (by kernel_rfl)]
 rw[Lib.run_noEscape]
 simp only[Result.andThen]
 rw[Oper.upon_value]
 go_wp2_with fail
 rw[Lib.run_from_unsafe w ⟨B,10,none⟩ Tryz.underlying152 Tryz.underlying69 hj hsh liesCleaner]
 simp only[Result.andThen]
 rw[Oper.upon_value]
 go_wp2
 go_end0
 exact⟨rfl,rfl⟩
theorem cb_set {w:World}{B:Nat}{a:Nat->Value}{ov pa bv:Value}(h:CB w B a ov pa bv) (v:Value):CB (w.setCell ⟨B,10,none⟩ v) B a ov v bv/\CB (w.setCell ⟨B,11,none⟩ v) B a ov pa v:=⟨tok_set h 10 v,tok_set h 11 v⟩
theorem cstays_set {w:World}{B:Nat}{a:Nat->Value}{ov pa bv:Value}(h:CB w B a ov pa bv) (j:Nat) (v:Value):Stays w (w.setCell ⟨B,j,none⟩ v) [B]:=by
 refine⟨by simp,fun k hk hS=>Below.heap_setCell _ _ _ _ (by simpa using hS),fun k hk cs fz e=>?_⟩
 have:k=B:=by simpa using hk
 subst this
 unfold CB at h
 rw[h] at e
 simp at e
set_option maxRecDepth 100000 in
set_option maxHeartbeats 4000000 in
theorem cwrite_at (w0 w:World) (B base:Nat) (a:Nat->Value) (ov bv:Value) (l:List Value) (s:ByteArray)(hck:Calls Tryz.prog 97 #[.pointer (some ⟨B,10,none⟩)] w0 fun e w'=>e=.returned (.tuple #[])/\w'=w)(h:CB w B a ov (.pointer (some ⟨B,10,none⟩)) bv)(hown:w.ownsRow base 5 1 bv l.length l)(hl:l.length+s.size<=100000000)(hbB:base<=B) :
  Calls Tryz.prog 59 #[.pointer (some ⟨B,10,none⟩),.string s] w0 fun e w'=>e=.returned (.tuple #[.int .i64 (s.size:Int),.nilIface])/\∃ bv',CB w' B a ov (.pointer (some ⟨B,10,none⟩)) bv'/\w'.ownsRow base 5 1 bv' (l.length+s.size) (l++Lib.strCells s)/\Stays w w' (B :: blk bv)/\Below base w w':=by
 obtain⟨i0,hi,hz0,hz1,hz2⟩:=info_parts infoByte
 have HC:=hide hck
 clear hck
 obtain⟨bp,bm,bc,rfl⟩:=own_slice hown
 have c2:w.cell? ⟨B,11,none⟩=some (.slice bp bm bc):=tag_cell h 11 _ rfl
 have hBl:B < w.heap.size:=lt_of_block h
 have HB:=hide h
 have HO:=hide hown
 clear h hown
 go_enter Tryz.func59,Tryz.ntmps59
 go_wp2_with fail
 refine HC.out.mono ?_
 rintro e w1 ⟨rfl,rfl⟩
 clear HC
 go_wp2_with (at_builtin;refine Lib.wpList_append_own_string _ rfl _ _ 25 9 rfl base 5 i0 Tryz.underlying25 Tryz.underlying9 hi hz0 hz1 hz2 (.slice bp bm bc) l.length l rfl HO.out s rfl (by unfold maxLen;omega) (by omega) (by omega) ?_)
 intro v' w2 hown2 hgr2 _
 have hap:=own_apart HO.out HB.out (by decide)
 have hb2:CB w2 B a ov (.pointer (some ⟨B,10,none⟩)) (.slice bp bm bc):=(hgr2.block _ hBl (fun e=>hap e.symm)).trans HB.out
 have d2:w2.cell? ⟨B,11,none⟩=some (.slice bp bm bc):=tag_cell hb2 11 _ rfl
 have g2:=tag_free hb2 11
 obtain⟨vp,vm,vc,rfl⟩:=own_slice hown2
 have HX:Hid (CB (w2.setCell ⟨B,11,none⟩ (.slice vp vm vc)) B a ov (.pointer (some ⟨B,10,none⟩)) (.slice vp vm vc)/\(w2.setCell ⟨B,11,none⟩ (.slice vp vm vc)).ownsRow base 5 1 (.slice vp vm vc) (l.length+s.size) (l++Lib.strCells s)/\Stays w1 (w2.setCell ⟨B,11,none⟩ (.slice vp vm vc)) (B :: blk (.slice bp bm bc))/\Below base w1 (w2.setCell ⟨B,11,none⟩ (.slice vp vm vc))):=hide (by
  refine⟨(cb_set hb2 _).2,own_set hown2 hb2 (by decide) 11 _,⟨?_,?_,?_⟩,?_⟩
  ·simpa using hgr2.size
  ·intro k hk hS
   have h1:k≠B:=fun e=>hS (by rw[e];exact List.mem_cons_self ..)
   rw[Below.heap_setCell _ _ _ _ (by simpa using h1)]
   refine hgr2.block k hk fun e=>hS (List.mem_cons_of_mem _ ?_)
   unfold blk
   rw[<-e]
   simp
  ·intro k hk cs fz e
   rcases List.mem_cons.1 hk with rfl | hk
   ·have:=HB.out
    unfold CB at this
    rw[this] at e
    simp at e
   ·have h2:(Value.slice bp bm bc).ownBlock=some k:=by
     unfold blk at hk
     simpa using hk
    exact own_apart HO.out e (by decide) h2
  ·have hg:Below base w1 w2:=(Below.refl base w1).grown hgr2 (by omega) (fun j hj=>(HO.out.lt j hj).1)
   exact hg.setCell (p:=⟨B,11,none⟩) hbB _)
 clear hown2 hgr2 hap hb2 HB HO
 go_wp2_with fail
 go_ret2
 exact⟨rfl,_,HX.out⟩
def CWait (w:World) (base B:Nat) (pa bv:Value) (t:List UInt8):Prop:=(pa=.pointer none\/pa=.pointer (some ⟨B,10,none⟩))/\w.ownsRow base 5 1 bv (Lib.byteCells t).length (Lib.byteCells t)
theorem cwrite_any (w:World) (B base:Nat) (a:Nat->Value) (ov pa bv:Value) (t:List UInt8) (s:ByteArray)(h:CB w B a ov pa bv)(hw:CWait w base B pa bv t)(hl:t.length+s.size<=100000000)(hbB:base<=B) :
  Calls Tryz.prog 59 #[.pointer (some ⟨B,10,none⟩),.string s] w fun e w'=>e=.returned (.tuple #[.int .i64 (s.size:Int),.nilIface])/\∃ pa' bv',CB w' B a ov pa' bv'/\CWait w' base B pa' bv' (t++bl s)/\Stays w w' (B :: blk bv)/\Below base w w':=by
 have hlen:(Lib.byteCells t).length+s.size<=100000000:=by rw[byte_len];exact hl
 have hfin:∀ {w':World}{bv':Value},w'.ownsRow base 5 1 bv' ((Lib.byteCells t).length+s.size) (Lib.byteCells t++Lib.strCells s)->w'.ownsRow base 5 1 bv' (Lib.byteCells (t++bl s)).length (Lib.byteCells (t++bl s)):=by
  intro w' bv' h
  rw[byte_app,List.length_append,byte_len (bl s),bl_len]
  exact h
 obtain⟨hp | hp,hown⟩:=hw
 ·subst hp
  have h1:=(cb_set h (.pointer (some ⟨B,10,none⟩))).1
  refine (cwrite_at w _ B base a ov bv _ s (ccheck_none w B a ov bv h) h1 (own_set hown h (by decide) 10 _) hlen hbB).mono ?_
  rintro e w' ⟨rfl,bv',h2,h3,h4,h5⟩
  have hst:=cstays_set h 10 (.pointer (some ⟨B,10,none⟩))
  refine⟨rfl,_,bv',h2,⟨.inr rfl,hfin h3⟩,?_,((Below.refl base w).setCell (p:=⟨B,10,none⟩) hbB _).trans h5⟩
  have h6:=hst.trans h4 (by
   intro k hk hkl cs fz e
   rcases List.mem_cons.1 hk with rfl | hk
   ·unfold CB at h
    rw[h] at e
    simp at e
   ·have h2:bv.ownBlock=some k:=by
     unfold blk at hk
     simpa using hk
    exact own_apart hown e (by decide) h2)
  exact⟨h6.size,fun k hk hS=>h6.block k hk (by simpa using hS),fun k hk=>h6.attr k (by simpa using hk)⟩
 ·subst hp
  refine (cwrite_at w w B base a ov bv _ s (ccheck_used w B a ov bv h) h hown hlen hbB).mono ?_
  rintro e w' ⟨rfl,bv',h2,h3,h4,h5⟩
  exact⟨rfl,_,bv',h2,⟨.inr rfl,hfin h3⟩,h4,h5⟩
set_option maxRecDepth 100000 in
set_option maxHeartbeats 2000000 in
theorem cstring_any (w:World) (B base:Nat) (a:Nat->Value) (ov pa bv:Value) (t:List UInt8)(h:CB w B a ov pa bv)(hw:CWait w base B pa bv t)(h0:t≠[]) :
  Calls Tryz.prog 60 #[.pointer (some ⟨B,10,none⟩)] w fun e w'=>e=.returned (.string ⟨t.toArray⟩)/\CB w' B a ov pa bv/\Stays w w' (blk bv)/\Below base w w':=by
 have hown:=hw.2
 have hl0:t.length≠0:=by simpa using h0
 rw[byte_len] at hown
 obtain⟨g,cap,cur,rfl,hbg,hg,hnc,hcm,hcs,htake⟩:∃ g cap cur,bv=.slice (some ⟨g,0,none⟩) t.length cap/\base<=g/\w.heap[g]?=some (.cells cur 5 (0,0))/\t.length<=cap/\cap<=maxLen/\cur.size=cap*1/\cur.toList.take (t.length*1)=Lib.byteCells t:=by
  rcases hown.2 with⟨_,hz⟩ | ⟨g,cap,cur,hv,r⟩
  ·exact absurd hz hl0
  ·exact⟨g,cap,cur,hv,r⟩
 have c2:w.drew.cell? ⟨B,11,none⟩=some (.slice (some ⟨g,0,none⟩) t.length cap):=tag_cell h 11 _ rfl
 have hSD:(Builtin.unsafeSliceData_ #[25] 129 #[.slice (some ⟨g,0,none⟩) t.length cap]).run Tryz.prog w.drew=.ok (.pointer (some ⟨g,0,none⟩)) w.drew :=
  Lib.run_unsafeSliceData_row _ _ _ _ _ _ (by omega)
 have hUS:(Builtin.unsafeString_ #[129,3] 9 #[.pointer (some ⟨g,0,none⟩),.int .i64 t.length]).run Tryz.prog w.drew=.ok (.string ⟨t.toArray⟩) (w.drew.freeze ⟨g,0,none⟩ t.length):=by
  refine Lib.run_unsafeString_row w.drew 129 3 9 5 Tryz.underlying129 cellsByte g cur.size (by have hg':w.drew.heap[g]?=some (.cells cur 5 (0,0)):=hg;simp[World.shape?,hg']) t h0 (by omega) (by unfold maxLen at hcm;omega) ?_
  intro j x hx
  have:=hown.cells (g:=g) rfl j (.int .u8 x.toNat) (by simp[Lib.byteCells,hx])
  exact this
 have HB:=hide h
 have HO:=hide hown
 have hap:=own_apart hown h (by decide)
 have HF:Hid (CB (w.drew.freeze ⟨g,0,none⟩ t.length) B a ov pa (.slice (some ⟨g,0,none⟩) t.length cap)/\Stays w (w.drew.freeze ⟨g,0,none⟩ t.length) (blk (.slice (some ⟨g,0,none⟩) t.length cap))/\Below base w (w.drew.freeze ⟨g,0,none⟩ t.length)):=hide (by
  have hb:=Lib.below_freeze (Below.drew (Below.refl base w)) (p:=⟨g,0,none⟩) hbg t.length
  have hne:∀ k,k≠g->(w.drew.freeze ⟨g,0,none⟩ t.length).heap[k]?=w.heap[k]?:=by
   intro k hk
   unfold World.freeze
   simp only[h0,List.length_eq_zero_iff,if_false]
   show (w.heap.modify g _)[k]?=_
   rw[Array.getElem?_modify,if_neg (Ne.symm hk)]
  refine⟨(hne B (fun e=>hap (by rw[e];rfl))).trans h,⟨hb.size,fun k _ hS=>hne k (fun e=>hS (by rw[e];simp[blk,Value.ownBlock])),?_⟩,hb⟩
  intro k hk cs fz e
  have:k=g:=by simpa [blk,Value.ownBlock] using hk
  subst this
  rw[hg] at e
  simp at e)
 clear hw h hown hap hg htake hcs
 go_enter Tryz.func60,Tryz.ntmps60
 go_wp2_with fail
 go_region
 all_goals (go_wp2_with fail;go_ret;exact⟨rfl,HF.out⟩)
end Go.Proofs.YtkiofbikkhhdfabGreatDoor.Dm
namespace Go.Proofs.YtkiofbikkhhdfabGreatDoor
open Go.RowKit
open Utf1 Pol8
abbrev plS:List ByteArray:=[⟨#[104,114,101,102]⟩,⟨#[115,114,99]⟩,⟨#[99,105,116,101]⟩,⟨#[97,99,116,105,111,110]⟩,⟨#[98,97,99,107,103,114,111,117,110,100]⟩,⟨#[108,111,110,103,100,101,115,99]⟩,⟨#[112,105,110,103]⟩,⟨#[112,111,115,116,101,114]⟩,⟨#[115,114,99,115,101,116]⟩,⟨#[117,115,101,109,97,112]⟩]
def plCells:Array Value:=#[.string ⟨#[104,114,101,102]⟩,.string ⟨#[115,114,99]⟩,.string ⟨#[99,105,116,101]⟩,.string ⟨#[97,99,116,105,111,110]⟩,.string ⟨#[98,97,99,107,103,114,111,117,110,100]⟩,.string ⟨#[108,111,110,103,100,101,115,99]⟩,.string ⟨#[112,105,110,103]⟩,.string ⟨#[112,111,115,116,101,114]⟩,.string ⟨#[115,114,99,115,101,116]⟩,.string ⟨#[117,115,101,109,97,112]⟩]
theorem wpList_loadV {P:Program}{ops:Array Oper}{rest:List Oper}{o:Oper}{a:Act}{w w':World}{Q:Exit->Act->World->Prop}(hg:o.guard=none) (t:TypeId) (x:Operand)(ho:o.op=.load t x) (v:Value)
  (hx:(Instr.loadAt t (a.eval x)).run P w=.ok v w')(h:wpList P ops Q rest (a.put o.dst v) w'):wpList P ops Q (o :: rest) a w :=
 wpList_plain hg fun K hK=>by
  unfold Oper.wp execOp
  simp only[ho,Sem.run_bind,hx,Result.andThen_ok]
  exact hK _ _ h
theorem pl_load (w:World):(Instr.loadAt 171 (.pointer (some ⟨w.heap.size,0,none⟩))).run Tryz.prog (w.alloc (.cells plCells 171))=.ok (.agg plCells) (w.alloc (.cells plCells 171)):=run_loadAt_new w 171 plCells 10 9 Tryz.underlying171 (by kernel_rfl)
theorem pl_index:∀ (k:Nat) (x:ByteArray) (_:plS[k]?=some x) (w:World),(Instr.index 171 (.agg plCells) (.int .i64 (k:Int))).run Tryz.prog w=.ok (.string x) w
 | 0,x,h,w=>by cases h;kernel_rfl
 | 1,x,h,w=>by cases h;kernel_rfl
 | 2,x,h,w=>by cases h;kernel_rfl
 | 3,x,h,w=>by cases h;kernel_rfl
 | 4,x,h,w=>by cases h;kernel_rfl
 | 5,x,h,w=>by cases h;kernel_rfl
 | 6,x,h,w=>by cases h;kernel_rfl
 | 7,x,h,w=>by cases h;kernel_rfl
 | 8,x,h,w=>by cases h;kernel_rfl
 | 9,x,h,w=>by cases h;kernel_rfl
 | k+10,x,h,_=>by simp at h
set_option maxHeartbeats 4000000 in
set_option maxRecDepth 100000 in
theorem pplace_any (n:ByteArray) (w:World) :
  Calls Tryz.prog 122 #[.string n] w fun e w'=>e=.returned (.bool (decide (bl n∈plS.map bl)))/\Below w.heap.size w w':=by
 obtain⟨R,hR⟩:∃ R,R=decide (bl n∈plS.map bl):=⟨_,rfl⟩
 rw[<-hR]
 have HR:=hide hR
 clear hR
 go_enter Tryz.func122,Tryz.ntmps122
 go_upto_region 2 with fail
 have hix:=pl_index
 have hld:=pl_load w
 obtain⟨N,hN⟩:∃ N:Array Value,N=plCells:=⟨_,rfl⟩
 have hN':N=#[.string ⟨#[104,114,101,102]⟩,.string ⟨#[115,114,99]⟩,.string ⟨#[99,105,116,101]⟩,.string ⟨#[97,99,116,105,111,110]⟩,.string ⟨#[98,97,99,107,103,114,111,117,110,100]⟩,.string ⟨#[108,111,110,103,100,101,115,99]⟩,.string ⟨#[112,105,110,103]⟩,.string ⟨#[112,111,115,116,101,114]⟩,.string ⟨#[115,114,99,115,101,116]⟩,.string ⟨#[117,115,101,109,97,112]⟩]:=hN
 rw[<-hN']
 rw[<-hN] at hix hld
 clear hN hN'
 obtain⟨W,hW⟩:∃ W,W=w.alloc (.cells N 171):=⟨_,rfl⟩
 have HB:Hid (Below w.heap.size w W):=hide (by rw[hW];exact bel_alloc (Below.refl _ _) _)
 rw[<-hW] at hld ⊢
 clear hW
 go_step
 refine wpList_loadV rfl 171 (Operand.tmp 3) rfl (.agg N) hld ?_
 simp only[Act.put]
 clear hld
 go_wp2_with fail
 go_loopg [8] 10 (fun g v wx=>wx=W/\∃ k:Nat,k+g=10/\v=.int .i64 (k:Int)/\Hid (∀ j x,j < k->plS[j]?=some x->bl n≠bl x))
 case atStart=>exact⟨rfl,0,by omega,rfl,hide (fun j x hj=>by omega)⟩
 case round =>
  obtain⟨rfl,k,hk,rfl,HU⟩:=hrel
  by_cases hlt:k < 10
  ·obtain⟨x,hx⟩:∃ x,plS[k]?=some x:=⟨_,List.getElem?_eq_getElem hlt⟩
   have hi:=fun w=>hix k x hx w
   have HX:=hide hx
   have heq:=eq_two x n
   clear hix hx
   by_cases e:bl x=bl n
   ·rw[decide_eq_true e] at heq
    have HN:Hid (R=true):=hide (by rw[HR.out];exact decide_eq_true (by rw[<-e];exact List.mem_map_of_mem (List.mem_of_getElem? HX.out)))
    clear e HR HU HX
    go_wp2_with fail
    go_ret
    rw[HN.out]
    exact⟨rfl,HB.out⟩
   ·rw[decide_eq_false e] at heq
    have HNE:=hide e
    clear e
    go_wp2_with fail
    go_roundg (10 - k - 1)
    case measure=>omega
    case rel=>exact⟨rfl,k+1,by omega,by first | rfl | simp,hide (fun j y hj hy=>by
     by_cases e:j=k
     ·subst e
      rw[HX.out] at hy
      cases hy
      exact fun h=>HNE.out h.symm
     ·exact HU.out j y (by omega) hy)⟩
  ·have HN:Hid (R=false):=hide (by
    rw[HR.out]
    refine decide_eq_false (fun h=>?_)
    obtain⟨y,hy,e⟩:=List.mem_map.1 h
    obtain⟨j,hj⟩:=List.getElem?_of_mem hy
    exact HU.out j y (by have:j < 10:=(List.getElem?_eq_some_iff.1 hj).1;omega) hj e.symm)
   clear HR HU hix
   go_wp2_with fail
   go_ret
   rw[HN.out]
   exact⟨rfl,HB.out⟩
end Go.Proofs.YtkiofbikkhhdfabGreatDoor
