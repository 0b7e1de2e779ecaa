import Derived.Test.YtkiofbikkhhdfabGreatDoorK06
import Derived.Lib.AppendStr
import Derived.Lib.UnsafeStr
import Derived.RegionTactic
import Derived.Deep.RegionWith
import Derived.Test.YtkiofbikkhhdfabGreatDoorShelf
import Derived.Test.YtkiofbikkhhdfabGreatDoorK04
import Derived.Test.YtkiofbikkhhdfabGreatDoorMath
import Derived.WalkKit
import Derived.WalkSpells
import Derived.WalkLawsBesides
import Derived.BigCall
import Derived.Laws.IdiomStrings
import Derived.Deep.LoopGhost
import Derived.WalkMore
set_option maxRecDepth 100000
set_option maxHeartbeats 16000000
namespace Go.Proofs.YtkiofbikkhhdfabGreatDoor.Dm
open Go.RowKit
open Utf1
def BB (w:World) (B:Nat) (ov pa bv x y:Value):Prop:=w.heap[B]?=some (.cells #[ov,pa,bv,x,y] 75 (0,0))
theorem blen_any (w:World) (B:Nat) (ov pa:Value) (p:Option Addr) (m c:Nat) (x y:Value)(h:BB w B ov pa (.slice p m c) x y) :
  Calls Tryz.prog 82 #[.pointer (some ⟨B,1,none⟩)] w fun e w'=>e=.returned (.int .i64 (m:Int))/\w'=w:=by
 have c2:w.cell? ⟨B,2,none⟩=some (.slice p m c):=tag_cell h 2 _ rfl
 clear h
 go_enter Tryz.func82,Tryz.ntmps82
 go_wp2_with fail
 go_ret
 exact⟨rfl,rfl⟩
theorem breset_any (w:World) (B:Nat) (ov pa bv x y:Value)(h:BB w B ov pa bv x y) :
  Calls Tryz.prog 83 #[.pointer (some ⟨B,1,none⟩)] w fun e w'=>e=.returned (.tuple #[])/\w'=(w.setCell ⟨B,1,none⟩ (.pointer none)).setCell ⟨B,2,none⟩ (.slice none 0 0):=by
 have c1:w.cell? ⟨B,1,none⟩=some pa:=tag_cell h 1 _ rfl
 have c2:w.cell? ⟨B,2,none⟩=some bv:=tag_cell h 2 _ rfl
 have f1:=tag_free h 1
 have f2:=tag_free h 2
 clear h
 go_enter Tryz.func83,Tryz.ntmps83
 go_wp2_with fail
 go_end0
 exact⟨rfl,rfl⟩
theorem sizeBuilder:(Tryz.prog.info? 71).map (·.size)=some 2:=by kernel_rfl
theorem liesBuilder:liesAt Tryz.prog Tryz.prog.depth 75 (5 / Tryz.prog.cellsOf 75) 1 71 1=true:=by kernel_rfl
theorem bb_shape {w:World}{B:Nat}{ov pa bv x y:Value}(h:BB w B ov pa bv x y):w.shape? B=some (75,5):=by
 unfold BB at h
 simp[World.shape?,h]
theorem bcheck_used (w:World) (B:Nat) (ov bv x y:Value)(h:BB w B ov (.pointer (some ⟨B,1,none⟩)) bv x y) :
  Calls Tryz.prog 97 #[.pointer (some ⟨B,1,none⟩)] w fun e w'=>e=.returned (.tuple #[])/\w'=w:=by
 obtain⟨j,hj,_⟩:=Option.map_eq_some_iff.1 sizeBuilder
 have c1:w.cell? ⟨B,1,none⟩=some (.pointer (some ⟨B,1,none⟩)):=tag_cell h 1 _ rfl
 clear h
 go_enter Tryz.func97,Tryz.ntmps97
 go_wp2_with fail
 rw[Lib.run_neq_ptr_same w _ Tryz.underlying69 hj]
 go_wp2
 go_end0
 exact⟨rfl,rfl⟩
theorem bcheck_none (w:World) (B:Nat) (ov bv x y:Value)(h:BB w B ov (.pointer none) bv x y) :
  Calls Tryz.prog 97 #[.pointer (some ⟨B,1,none⟩)] w fun e w'=>e=.returned (.tuple #[])/\w'=w.setCell ⟨B,1,none⟩ (.pointer (some ⟨B,1,none⟩)):=by
 obtain⟨j,hj,hjs⟩:=Option.map_eq_some_iff.1 sizeBuilder
 have hsh:=bb_shape h
 have c1:w.cell? ⟨B,1,none⟩=some (.pointer none):=tag_cell h 1 _ rfl
 have f1:=tag_free h 1
 clear h
 go_enter Tryz.func97,Tryz.ntmps97
 go_wp2_with fail
 rw[Lib.run_to_unsafe w ⟨B,1,none⟩ Tryz.underlying69 Tryz.underlying152 hj (by rw[hjs];decide) hsh (show 1 < 5 by decide)]
 simp only[Result.andThen]
 rw[Oper.upon_value]
 go_wp2_with fail
 rw[run_callFunc_extern Tryz.func126 (by kernel_rfl) (by kernel_rfl) (by kernel_rfl) (e:=Extern.AbiNoEscape.same) (by kernel_rfl)]
 rw[Lib.run_noEscape]
 simp only[Result.andThen]
 rw[Oper.upon_value]
 go_wp2_with fail
 rw[Lib.run_from_unsafe w ⟨B,1,none⟩ Tryz.underlying152 Tryz.underlying69 hj hsh liesBuilder]
 simp only[Result.andThen]
 rw[Oper.upon_value]
 go_wp2
 go_end0
 exact⟨rfl,rfl⟩
theorem infoByte:(Tryz.prog.info? 5).map (fun i=>(i.zero,i.size,i.bytes))=some (some (.int .u8 0),1,1):=by kernel_rfl
theorem bb_set {w:World}{B:Nat}{ov pa bv x y:Value}(h:BB w B ov pa bv x y) (v:Value):BB (w.setCell ⟨B,1,none⟩ v) B ov v bv x y/\BB (w.setCell ⟨B,2,none⟩ v) B ov pa v x y:=⟨tok_set h 1 v,tok_set h 2 v⟩
theorem stays_set {w:World}{B:Nat}{ov pa bv x y:Value}(h:BB w B ov pa bv x y) (j:Nat) (v:Value):Stays w (w.setCell ⟨B,j,none⟩ v) [B]:=by
 refine⟨by simp,fun k hk hS=>Below.heap_setCell _ _ _ _ (by simpa using hS),fun k hk cs fz e=>?_⟩
 have:k=B:=by simpa using hk
 subst this
 unfold BB at h
 rw[h] at e
 simp at e
theorem Stays.trans {a b c:World}{S T:List Nat}(h:Stays a b S)(h':Stays b c T)(hT:∀ k∈T,k < a.heap.size->∀ cs fz,a.heap[k]?≠some (.cells cs 108 fz)):Stays a c (S++T):=by
 refine⟨Nat.le_trans h.size h'.size,fun k hk hS=>?_,fun k hk cs fz e=>?_⟩
 ·have h1:k ∉ S:=fun h1=>hS (List.mem_append_left _ h1)
  have h2:k ∉ T:=fun h2=>hS (List.mem_append_right _ h2)
  exact (h'.block k (Nat.lt_of_lt_of_le hk h.size) h2).trans (h.block k hk h1)
 ·rcases List.mem_append.1 hk with hk | hk
  ·exact h.attr k hk cs fz e
  ·exact hT k hk (Array.getElem?_eq_some_iff.1 e).1 cs fz e
theorem bwrite_at (w0 w:World) (B base:Nat) (ov bv x y:Value) (l:List Value) (s:ByteArray)(hck:Calls Tryz.prog 97 #[.pointer (some ⟨B,1,none⟩)] w0 fun e w'=>e=.returned (.tuple #[])/\w'=w)(h:BB w B ov (.pointer (some ⟨B,1,none⟩)) bv x y)(hown:w.ownsRow base 5 1 bv l.length l)(hl:l.length+s.size<=100000000)(hbB:base<=B) :
  Calls Tryz.prog 59 #[.pointer (some ⟨B,1,none⟩),.string s] w0 fun e w'=>e=.returned (.tuple #[.int .i64 (s.size:Int),.nilIface])/\∃ bv',BB w' B ov (.pointer (some ⟨B,1,none⟩)) bv' x y/\w'.ownsRow base 5 1 bv' (l.length+s.size) (l++Lib.strCells s)/\Stays w w' (B :: blk bv)/\Below base w w':=by
 obtain⟨i0,hi,hz0,hz1,hz2⟩:=info_parts infoByte
 have HC:=hide hck
 clear hck
 obtain⟨bp,bm,bc,rfl⟩:=own_slice hown
 have c2:w.cell? ⟨B,2,none⟩=some (.slice bp bm bc):=tag_cell h 2 _ rfl
 have hBl:B < w.heap.size:=lt_of_block h
 have HB:=hide h
 have HO:=hide hown
 clear h hown
 go_enter Tryz.func59,Tryz.ntmps59
 go_wp2_with fail
 refine HC.out.mono ?_
 rintro e w1 ⟨rfl,rfl⟩
 clear HC
 go_wp2_with (at_builtin;refine Lib.wpList_append_own_string _ rfl _ _ 25 9 rfl base 5 i0 Tryz.underlying25 Tryz.underlying9 hi hz0 hz1 hz2 (.slice bp bm bc) l.length l rfl HO.out s rfl (by unfold maxLen;omega) (by omega) (by omega) ?_)
 intro v' w2 hown2 hgr2 _
 have hap:=own_apart HO.out HB.out (by decide)
 have hb2:BB w2 B ov (.pointer (some ⟨B,1,none⟩)) (.slice bp bm bc) x y:=(hgr2.block _ hBl (fun e=>hap e.symm)).trans HB.out
 have d2:w2.cell? ⟨B,2,none⟩=some (.slice bp bm bc):=tag_cell hb2 2 _ rfl
 have g2:=tag_free hb2 2
 obtain⟨vp,vm,vc,rfl⟩:=own_slice hown2
 have HX:Hid (BB (w2.setCell ⟨B,2,none⟩ (.slice vp vm vc)) B ov (.pointer (some ⟨B,1,none⟩)) (.slice vp vm vc) x y/\(w2.setCell ⟨B,2,none⟩ (.slice vp vm vc)).ownsRow base 5 1 (.slice vp vm vc) (l.length+s.size) (l++Lib.strCells s)/\Stays w1 (w2.setCell ⟨B,2,none⟩ (.slice vp vm vc)) (B :: blk (.slice bp bm bc))/\Below base w1 (w2.setCell ⟨B,2,none⟩ (.slice vp vm vc))):=hide (by
  refine⟨(bb_set hb2 _).2,own_set hown2 hb2 (by decide) 2 _,⟨?_,?_,?_⟩,?_⟩
  ·simpa using hgr2.size
  ·intro k hk hS
   have h1:k≠B:=fun e=>hS (by rw[e];exact List.mem_cons_self ..)
   rw[Below.heap_setCell _ _ _ _ (by simpa using h1)]
   refine hgr2.block k hk fun e=>hS (List.mem_cons_of_mem _ ?_)
   unfold blk
   rw[<-e]
   simp
  ·intro k hk cs fz e
   rcases List.mem_cons.1 hk with rfl | hk
   ·have:=HB.out
    unfold BB at this
    rw[this] at e
    simp at e
   ·have h2:(Value.slice bp bm bc).ownBlock=some k:=by
     unfold blk at hk
     simpa using hk
    exact own_apart HO.out e (by decide) h2
  ·have hg:Below base w1 w2:=(Below.refl base w1).grown hgr2 (by omega) (fun j hj=>(HO.out.lt j hj).1)
   exact hg.setCell (p:=⟨B,2,none⟩) hbB _)
 clear hown2 hgr2 hap hb2 HB HO
 go_wp2_with fail
 go_ret2
 exact⟨rfl,_,HX.out⟩
def Wait (w:World) (base B:Nat) (pa bv:Value) (t:List UInt8):Prop:=(pa=.pointer none\/pa=.pointer (some ⟨B,1,none⟩))/\w.ownsRow base 5 1 bv (Lib.byteCells t).length (Lib.byteCells t)
theorem byte_app (a b:List UInt8):Lib.byteCells (a++b)=Lib.byteCells a++Lib.byteCells b:=by simp[Lib.byteCells]
theorem byte_len (a:List UInt8):(Lib.byteCells a).length=a.length:=by simp[Lib.byteCells]
theorem bwrite_any (w:World) (B base:Nat) (ov pa bv x y:Value) (t:List UInt8) (s:ByteArray)(h:BB w B ov pa bv x y)(hw:Wait w base B pa bv t)(hl:t.length+s.size<=100000000)(hbB:base<=B) :
  Calls Tryz.prog 59 #[.pointer (some ⟨B,1,none⟩),.string s] w fun e w'=>e=.returned (.tuple #[.int .i64 (s.size:Int),.nilIface])/\∃ pa' bv',BB w' B ov pa' bv' x y/\Wait w' base B pa' bv' (t++bl s)/\Stays w w' (B :: blk bv)/\Below base w w':=by
 have hlen:(Lib.byteCells t).length+s.size<=100000000:=by rw[byte_len];exact hl
 have hfin:∀ {w':World}{bv':Value},w'.ownsRow base 5 1 bv' ((Lib.byteCells t).length+s.size) (Lib.byteCells t++Lib.strCells s)->w'.ownsRow base 5 1 bv' (Lib.byteCells (t++bl s)).length (Lib.byteCells (t++bl s)):=by
  intro w' bv' h
  rw[byte_app,List.length_append,byte_len (bl s),bl_len]
  exact h
 obtain⟨hp | hp,hown⟩:=hw
 ·subst hp
  have h1:=(bb_set h (.pointer (some ⟨B,1,none⟩))).1
  refine (bwrite_at w _ B base ov bv x y _ s (bcheck_none w B ov bv x y h) h1 (own_set hown h (by decide) 1 _) hlen hbB).mono ?_
  rintro e w' ⟨rfl,bv',h2,h3,h4,h5⟩
  have hst:=stays_set h 1 (.pointer (some ⟨B,1,none⟩))
  refine⟨rfl,_,bv',h2,⟨.inr rfl,hfin h3⟩,?_,((Below.refl base w).setCell (p:=⟨B,1,none⟩) hbB _).trans h5⟩
  have h6:=hst.trans h4 (by
   intro k hk hkl cs fz e
   rcases List.mem_cons.1 hk with rfl | hk
   ·unfold BB at h
    rw[h] at e
    simp at e
   ·have h2:bv.ownBlock=some k:=by
     unfold blk at hk
     simpa using hk
    exact own_apart hown e (by decide) h2)
  exact⟨h6.size,fun k hk hS=>h6.block k hk (by simpa using hS),fun k hk=>h6.attr k (by simpa using hk)⟩
 ·subst hp
  refine (bwrite_at w w B base ov bv x y _ s (bcheck_used w B ov bv x y h) h hown hlen hbB).mono ?_
  rintro e w' ⟨rfl,bv',h2,h3,h4,h5⟩
  exact⟨rfl,_,bv',h2,⟨.inr rfl,hfin h3⟩,h4,h5⟩
end Go.Proofs.YtkiofbikkhhdfabGreatDoor.Dm
namespace Go.Proofs.YtkiofbikkhhdfabGreatDoor.Dm
open Go.RowKit
open Utf1
theorem cellsByte:Tryz.prog.cellsOf 5=1:=by kernel_rfl
theorem bstring_any (w:World) (B base:Nat) (ov pa bv x y:Value) (t:List UInt8)(h:BB w B ov pa bv x y)(hw:Wait w base B pa bv t)(h0:t≠[]) :
  Calls Tryz.prog 60 #[.pointer (some ⟨B,1,none⟩)] w fun e w'=>e=.returned (.string ⟨t.toArray⟩)/\BB w' B ov pa bv x y/\Stays w w' (blk bv)/\Below base w w':=by
 have hown:=hw.2
 have hl0:t.length≠0:=by simpa using h0
 rw[byte_len] at hown
 obtain⟨g,cap,cur,rfl,hbg,hg,hnc,hcm,hcs,htake⟩:∃ g cap cur,bv=.slice (some ⟨g,0,none⟩) t.length cap/\base<=g/\w.heap[g]?=some (.cells cur 5 (0,0))/\t.length<=cap/\cap<=maxLen/\cur.size=cap*1/\cur.toList.take (t.length*1)=Lib.byteCells t:=by
  rcases hown.2 with⟨_,hz⟩ | ⟨g,cap,cur,hv,r⟩
  ·exact absurd hz hl0
  ·exact⟨g,cap,cur,hv,r⟩
 have c2:w.drew.cell? ⟨B,2,none⟩=some (.slice (some ⟨g,0,none⟩) t.length cap):=tag_cell h 2 _ rfl
 have hSD:(Builtin.unsafeSliceData_ #[25] 129 #[.slice (some ⟨g,0,none⟩) t.length cap]).run Tryz.prog w.drew=.ok (.pointer (some ⟨g,0,none⟩)) w.drew :=
  Lib.run_unsafeSliceData_row _ _ _ _ _ _ (by omega)
 have hUS:(Builtin.unsafeString_ #[129,3] 9 #[.pointer (some ⟨g,0,none⟩),.int .i64 t.length]).run Tryz.prog w.drew=.ok (.string ⟨t.toArray⟩) (w.drew.freeze ⟨g,0,none⟩ t.length):=by
  refine Lib.run_unsafeString_row w.drew 129 3 9 5 Tryz.underlying129 cellsByte g cur.size (by have hg':w.drew.heap[g]?=some (.cells cur 5 (0,0)):=hg;simp[World.shape?,hg']) t h0 (by omega) (by unfold maxLen at hcm;omega) ?_
  intro j x hx
  have:=hown.cells (g:=g) rfl j (.int .u8 x.toNat) (by simp[Lib.byteCells,hx])
  exact this
 have HB:=hide h
 have HO:=hide hown
 have hap:=own_apart hown h (by decide)
 have HF:Hid (BB (w.drew.freeze ⟨g,0,none⟩ t.length) B ov pa (.slice (some ⟨g,0,none⟩) t.length cap) x y/\Stays w (w.drew.freeze ⟨g,0,none⟩ t.length) (blk (.slice (some ⟨g,0,none⟩) t.length cap))/\Below base w (w.drew.freeze ⟨g,0,none⟩ t.length)):=hide (by
  have hb:=Lib.below_freeze (Below.drew (Below.refl base w)) (p:=⟨g,0,none⟩) hbg t.length
  have hne:∀ k,k≠g->(w.drew.freeze ⟨g,0,none⟩ t.length).heap[k]?=w.heap[k]?:=by
   intro k hk
   unfold World.freeze
   simp only[h0,List.length_eq_zero_iff,if_false]
   show (w.heap.modify g _)[k]?=_
   rw[Array.getElem?_modify,if_neg (Ne.symm hk)]
  refine⟨(hne B (fun e=>hap (by rw[e];rfl))).trans h,⟨hb.size,fun k _ hS=>hne k (fun e=>hS (by rw[e];simp[blk,Value.ownBlock])),?_⟩,hb⟩
  intro k hk cs fz e
  have:k=g:=by simpa [blk,Value.ownBlock] using hk
  subst this
  rw[hg] at e
  simp at e)
 clear hw h hown hap hg htake hcs
 go_enter Tryz.func60,Tryz.ntmps60
 go_wp2_with fail
 go_region
 all_goals (go_wp2_with fail;go_ret;exact⟨rfl,HF.out⟩)
end Go.Proofs.YtkiofbikkhhdfabGreatDoor.Dm
namespace Go.Proofs.YtkiofbikkhhdfabGreatDoor.Dm
open Go.RowKit
theorem append_fresh {P:Program}(w:World) (base:Nat) (t ty e:TypeId) (i:TypeInfo) (z:Value) (size bytes:Nat)(ht:P.underlying t=some (.slice e))(hi:P.info? e=some i)(hz:i.zero=some z)
  (hsize:i.size=size)(hby:i.bytes=bytes) (v:Value) (n:Nat) (xs:List Value)(hown:w.ownsRow base e size v n xs)
  (a:Addr) (m c:Nat) (news:List Value)(hl:news.length=m*size)(hnews:∀ j u,news[j]?=some u->w.cell? (a.add j)=some u)(h1:∀ u∈news,u.oneCell'=true)
  (h63:n+m<=maxLen)(hbytes:(n+m)*bytes<=140737488355328)(hm:0 < m) {v':Value}{w':World}(hr:(Builtin.append_ #[t,t] ty #[v,.slice (some a) m c]).run P w=.ok v' w') :
  v'.ownBlock=v.ownBlock\/v'.ownBlock=some w.heap.size:=by
 subst hsize hby
 have hsmall:n+m<=9223372036854775807:=by simp only[maxLen] at h63;omega
 rcases hown.2 with⟨rfl,rfl⟩ | ⟨g,cap,cur,rfl,hbg,hg,hnc,hcm,hcs,htake⟩
 ·rw[run_append_nil (P:=P) w t ty e i z ht hi hz a m c news hl hnews hm (by omega) (by have hb:=hbytes;simp only[Nat.zero_add] at hb;omega)] at hr
  cases hr
  exact .inr rfl
 ·by_cases hroom:n+m<=cap
  ·have hfit:n*i.size+news.length<=cur.size:=by rw[hl,hcs,<-Nat.add_mul];exact Nat.mul_le_mul_right _ hroom
   rw[run_append_room (P:=P) w t ty e i ht hi g n cap cur hg a m c news hl hnews h1 hroom hfit] at hr
   cases hr
   exact .inl rfl
  ·have holds:∀ j u,xs[j]?=some u->w.cell? ((⟨g,0,none⟩:Addr).add j)=some u:=hown.cells (g:=g) rfl
   rw[run_append_grow (P:=P) w t ty e i z ht hi hz ⟨g,0,none⟩ n cap xs hown.1 holds a m c news hl hnews (by omega) (by omega) (growslice_fits (by omega) hbytes)] at hr
   cases hr
   exact .inr rfl
theorem wp_append_new {P:Program}{w:World}{o:Oper}{a:Act}{K:Act->World->Prop}{Q:Exit->Act->World->Prop}(s x:Operand) (t:TypeId)
  (ho:o.op=.call { callee:=.builtin .append,args:=#[s,x],argTypes:=#[t,t] })
  (base:Nat) (e:TypeId) (i:TypeInfo) (z:Value) (size bytes:Nat)(ht:P.underlying t=some (.slice e))(hi:P.info? e=some i)(hz:i.zero=some z)
  (hsize:i.size=size)(hby:i.bytes=bytes)(hzs:z.cells.size=size)(hsz:0 < size)
  (v:Value) (n:Nat) (xs:List Value)(hs:a.eval s=v)(hown:w.ownsRow base e size v n xs)
  (ad:Addr) (m c:Nat) (news:List Value)(hx:a.eval x=.slice (some ad) m c)(hl:news.length=m*size)(hnews:∀ j u,news[j]?=some u->w.cell? (ad.add j)=some u)(h1:∀ u∈news,u.oneCell'=true)
  (h63:n+m<=maxLen)(hbytes:(n+m)*bytes<=140737488355328)(hbase:base<=w.heap.size)(hm:0 < m)
  (h:∀ v' w',w'.ownsRow base e size v' (n+m) (xs++news)->w.grownBy w' v.ownBlock->(v'.ownBlock=v.ownBlock\/v'.ownBlock=some w.heap.size)->K (a.put o.dst v') w'):o.wp P a w K Q:=by
 obtain⟨v',w',hr,h2,h3,-⟩:=run_append_own (P:=P) w base t o.type e i z size bytes ht hi hz hsize hby hzs hsz v n xs hown ad m c news hl hnews h1 h63 hbytes hbase
 have hf:=append_fresh w base t o.type e i z size bytes ht hi hz hsize hby v n xs hown ad m c news hl hnews h1 h63 hbytes hm hr
 unfold Oper.wp execOp
 simp only[ho,resolve,invoke,builtin,Sem.run_bind,Sem.run_pure,Result.andThen_ok,List.map_toArray,List.map_cons,List.map_nil,hs,hx,hr]
 exact h v' w' h2 h3 hf
end Go.Proofs.YtkiofbikkhhdfabGreatDoor.Dm
namespace Go.Proofs.YtkiofbikkhhdfabGreatDoor.Dm
open Go.RowKit
open Utf1
theorem wpAny_to {P:Program}{md:Region.Mode}{ops:Array Oper}{Q:Exit->Act->World->Prop}{i:Nat}{oi:Oper}{v:Value}{fuel:Nat}{listed:Array Bool}{a a':Act}{w:World}(hi:ops[i]?=some oi)
  (hs:Region.noSelect ops=true)(hf:Region.free md ops listed i=true)(hr:(Region.ready md ops listed).contains i=true)
  (hQ:∀ c a w,Q (.panic c) (a.put oi.dst v) w->Q (.panic c) a w)(hy:Yields P ops oi v a)(ha:a.put oi.dst v=a')
  (h:wpAny P md ops Q fuel (listed.setIfInBounds i true) a' w):wpAny P md ops Q (fuel+1) listed a w :=
 wpAny_take hi hs hf hr hQ hy (ha ▸ h)
theorem wpT {P:Program}{md:Region.Mode}{ops:Array Oper}{Q:Exit->Act->World->Prop}(i:Nat) {oi:Oper}(v:Value) {fuel:Nat}{listed:Array Bool}{a a':Act}{w:World}(hi:ops[i]?=some oi)
  (h:wpAny P md ops Q fuel (listed.setIfInBounds i true) a' w)(hwd:Region.wanted oi (yielded ops a.tmps)=true:=by rfl)(hs:Region.noSelect ops=true:=by kernel_rfl)(hf:Region.free md ops listed i=true:=by kernel_rfl)(hr:(Region.ready md ops listed).contains i=true:=by kernel_rfl)
  (hy:∀ w,(execOp a.eval oi).run P w=.ok (.value v) w:=by (intro w;go_simp))(ha:a.put oi.dst v=a':=by (go_simp;try exact rfl))(hQ:∀ c a w,Q (.panic c) (a.put oi.dst v) w->Q (.panic c) a w:=by exact fun _ _ _ h=>h):wpAny P md ops Q (fuel+1) listed a w:=wpAny_to hi hs hf hr hQ (Or.inl ⟨hwd,hy⟩) ha h
theorem wpTo {P:Program}{md:Region.Mode}{ops:Array Oper}{Q:Exit->Act->World->Prop}(i:Nat) {oi:Oper}(v:Value) {fuel:Nat}{listed:Array Bool}{a a':Act}{w:World}(hi:ops[i]?=some oi)
  (h:wpAny P md ops Q fuel (listed.setIfInBounds i true) a' w)(hwd:Region.wanted oi (yielded ops a.tmps)=true:=by rfl)(hs:Region.noSelect ops=true:=by kernel_rfl)(hf:Region.free md ops listed i=true:=by kernel_rfl)(hr:(Region.ready md ops listed).contains i=true:=by kernel_rfl)
  (hy:∀ w,(execOp a.eval oi).run P w=.ok (.value v) w:=by (intro w;go_simp;try omega))(ha:a.put oi.dst v=a':=by (go_simp;try exact rfl))(hQ:∀ c a w,Q (.panic c) (a.put oi.dst v) w->Q (.panic c) a w:=by exact fun _ _ _ h=>h):wpAny P md ops Q (fuel+1) listed a w:=wpAny_to hi hs hf hr hQ (Or.inl ⟨hwd,hy⟩) ha h
theorem own_put {w:World}{base:Nat}{e:TypeId}{size g n cap:Nat}{xs:List Value}(h:w.ownsRow base e size (.slice (some ⟨g,0,none⟩) n cap) n xs) (j:Nat) (u:Value):(w.setCell ⟨g,j,none⟩ u).ownsRow base e size (.slice (some ⟨g,0,none⟩) n cap) n (xs.set j u):=by
 obtain⟨h1,⟨e1,_⟩ | ⟨g',cap',cur,e1,h2,h3,h4,h5,h6,h7⟩⟩:=h
 ·cases e1
 ·cases e1
  refine⟨by rw[List.length_set];exact h1,.inr ⟨g,cap,cur.setIfInBounds j u,rfl,h2,tok_set h3 j u,h4,h5,by simpa using h6,?_⟩⟩
  rw[Array.toList_setIfInBounds,List.take_set,h7]
theorem infoNode:(Tryz.prog.info? 80).map (fun i=>(i.zero,i.size,i.bytes))=some (some (.agg #[.string ⟨#[]⟩,.slice none 0 0,.string ⟨#[]⟩,.slice none 0 0]),4,80):=by kernel_rfl
theorem four_new (w:World) (a b c d:Value) (t:TypeId):∀ (j:Nat) (u:Value),[a,b,c,d][j]?=some u->(w.alloc (.cells #[a,b,c,d] t)).cell? ((⟨w.heap.size,0,none⟩:Addr).add j)=some u:=by
 intro j u hj
 match j,hj with
 | 0,hj=>simp at hj;subst hj;simp[Addr.add]
 | 1,hj=>simp at hj;subst hj;simp[Addr.add]
 | 2,hj=>simp at hj;subst hj;simp[Addr.add]
 | 3,hj=>simp at hj;subst hj;simp[Addr.add]
 | _+4,hj=>simp at hj
theorem zero_one:∀ u∈[Value.string ⟨#[]⟩,.slice none 0 0,.string ⟨#[]⟩,.slice none 0 0],u.oneCell'=true:=by
 intro u hu
 simp at hu
 rcases hu with rfl | rfl | rfl | rfl <;> rfl
def PutEnd (w w':World) (B base go oc:Nat) (pa bv x y:Value) (init:List (Nd × Value × Value)) (nd:Nd) (av kv:Value) (k:List (Nd × Value × Value)) (nm tx:ByteArray) (ap:Option Addr) (am ac:Nat) (cp:Option Addr) (cm cc:Nat) (kv':Value):Prop :=
 BB w' B (.slice (some ⟨go,0,none⟩) (init.length+1) oc) pa bv x y/\w'.ownsRow base 80 4 (.slice (some ⟨go,0,none⟩) (init.length+1) oc) (init.length+1) (ndCells (init++[(nd,av,kv')])) /\
 w'.ownsRow base 80 4 kv' (k.length+1) (ndCells k++[.string nm,.slice ap am ac,.string tx,.slice cp cm cc])/\(kv'.ownBlock=kv.ownBlock\/kv'.ownBlock=some w.heap.size)/\Stays w w' (go :: blk kv)/\Below base w w'
theorem set_four (a:List Value) (z0 z1 z2 z3 v0 v1 v2 v3:Value):((((a++[z0,z1,z2,z3]).set a.length v0).set (a.length+1) v1).set (a.length+2) v2).set (a.length+3) v3=a++[v0,v1,v2,v3]:=by
 induction a with
 | nil=>rfl
 | cons c t ih=>simp
theorem set_kids (init:List (Nd × Value × Value)) (nd:Nd) (av kv kv':Value):(ndCells (init++[(nd,av,kv)])).set (init.length*4+3) kv'=ndCells (init++[(nd,av,kv')]):=by
 rw[ndCells_app,ndCells_app,<-ndCells_len,List.set_append_right _ _ (Nat.le_add_right _ _),Nat.add_sub_cancel_left]
 rfl
theorem put_facts {w w5:World}{B base go oc:Nat}{pa bv x y:Value}{init:List (Nd × Value × Value)}{nd:Nd}{av v':Value}{kp:Option Addr}{km kc:Nat}{k:List (Nd × Value × Value)}
  {n0:Nat}{xs0:List Value}(hro:w.ownsRow base 80 4 (.slice (some ⟨go,0,none⟩) (init.length+1) oc) (init.length+1) (ndCells (init++[(nd,av,.slice kp km kc)])))(hrk:w.ownsRow base 80 4 (.slice kp km kc) n0 xs0)(h:BB w B (.slice (some ⟨go,0,none⟩) (init.length+1) oc) pa bv x y)
  (hown:w5.ownsRow base 80 4 v' (k.length+1) (ndCells k++[.string ⟨#[]⟩,.slice none 0 0,.string ⟨#[]⟩,.slice none 0 0]))(hgr:w.grownBy w5 (Value.slice kp km kc).ownBlock)(hfr:v'.ownBlock=(Value.slice kp km kc).ownBlock\/v'.ownBlock=some w.heap.size)
  (hne:(Value.slice kp km kc).ownBlock≠some go)(hgo:go < w.heap.size) (nm tx:ByteArray) (ap:Option Addr) (am ac:Nat) (cp:Option Addr) (cm cc:Nat) :
  ∃ g2 c2,v'=.slice (some ⟨g2,0,none⟩) (k.length+1) c2/\(g2≠go /\
   w5.cell? ⟨g2,k.length*4,none⟩=some (.string ⟨#[]⟩)/\w5.cell? ⟨g2,k.length*4+1,none⟩=some (.slice none 0 0)/\w5.cell? ⟨g2,k.length*4+2,none⟩=some (.string ⟨#[]⟩)/\w5.cell? ⟨g2,k.length*4+3,none⟩=some (.slice none 0 0) /\
   w5.frozen? ⟨g2,k.length*4,none⟩=false/\w5.frozen? ⟨g2,k.length*4+1,none⟩=false/\w5.frozen? ⟨g2,k.length*4+2,none⟩=false/\w5.frozen? ⟨g2,k.length*4+3,none⟩=false /\
   w5.cell? ⟨go,init.length*4+3,none⟩=some (.slice kp km kc)/\w5.frozen? ⟨go,init.length*4+3,none⟩=false /\
   PutEnd w (((((w5.setCell ⟨g2,k.length*4,none⟩ (.string nm)).setCell ⟨g2,k.length*4+1,none⟩ (.slice ap am ac)).setCell ⟨g2,k.length*4+2,none⟩ (.string tx)).setCell ⟨g2,k.length*4+3,none⟩ (.slice cp cm cc)).setCell ⟨go,init.length*4+3,none⟩ (.slice (some ⟨g2,0,none⟩) (k.length+1) c2)) B base go oc pa bv x y init nd av (.slice kp km kc) k nm tx ap am ac cp cm cc (.slice (some ⟨g2,0,none⟩) (k.length+1) c2) /\
   PutEnd w (((((w5.setCell ⟨go,init.length*4+3,none⟩ (.slice (some ⟨g2,0,none⟩) (k.length+1) c2)).setCell ⟨g2,k.length*4,none⟩ (.string nm)).setCell ⟨g2,k.length*4+1,none⟩ (.slice ap am ac)).setCell ⟨g2,k.length*4+2,none⟩ (.string tx)).setCell ⟨g2,k.length*4+3,none⟩ (.slice cp cm cc)) B base go oc pa bv x y init nd av (.slice kp km kc) k nm tx ap am ac cp cm cc (.slice (some ⟨g2,0,none⟩) (k.length+1) c2)):=by
 obtain⟨g2,c2,rfl,hcell⟩:=own_at hown (by omega)
 have hgg:g2≠go:=by
  rintro rfl
  rcases hfr with e | e
  ·exact hne e.symm
  ·have:g2=w.heap.size:=by simpa [Value.ownBlock] using e
   omega
 have hlen:=ndCells_len k
 have hat:∀ j,j < 4->w5.cell? ⟨g2,k.length*4+j,none⟩=[Value.string ⟨#[]⟩,.slice none 0 0,.string ⟨#[]⟩,.slice none 0 0][j]?:=by
  intro j hj
  rw[hcell _ (by omega),List.getElem?_append_right (by omega),hlen,Nat.add_sub_cancel_left]
 have hfrz:∀ (g:Nat) (n cap:Nat) (xs:List Value),w5.ownsRow base 80 4 (.slice (some ⟨g,0,none⟩) n cap) n xs->∀ j,w5.frozen? ⟨g,j,none⟩=false:=by
  intro g n cap xs ho j
  obtain⟨_,⟨e,_⟩ | ⟨g',cap',cur,e,_,hg,_⟩⟩:=ho
  ·cases e
  ·cases e
   exact tag_free hg j
 have hro5:w5.ownsRow base 80 4 (.slice (some ⟨go,0,none⟩) (init.length+1) oc) (init.length+1) (ndCells (init++[(nd,av,.slice kp km kc)])):=hro.kept hgr (.inr (fun e=>hne e.symm))
 have hBne:∀ (g n cap:Nat) (xs:List Value) (w:World),w.ownsRow base 80 4 (.slice (some ⟨g,0,none⟩) n cap) n xs->w.heap[B]?=some (.cells #[.slice (some ⟨go,0,none⟩) (init.length+1) oc,pa,bv,x,y] 75 (0,0))->g≠B:=by
  intro g n cap xs w ho hB e
  exact own_apart ho hB (by decide) (by rw[e];rfl)
 have hkB:(Value.slice kp km kc).ownBlock≠some B:=own_apart hrk h (by decide)
 have hB5:BB w5 B (.slice (some ⟨go,0,none⟩) (init.length+1) oc) pa bv x y:=(hgr.block _ (lt_of_block h) (fun e=>hkB e.symm)).trans h
 have n1:=hBne _ _ _ _ _ hro5 hB5
 have n2:=hBne _ _ _ _ _ hown hB5
 have o3:w5.cell? ⟨go,init.length*4+3,none⟩=some (.slice kp km kc):=by
  rw[hro5.cellAt (init.length*4+3) (by omega),ndCells_at _ init.length _ (by rw[List.getElem?_append_right (Nat.le_refl _),Nat.sub_self];rfl) 3 (by decide)]
  rfl
 have hog:(Value.slice (some ⟨go,0,none⟩) (init.length+1) oc).ownBlock≠some g2:=by
  intro e
  exact hgg (by simpa [Value.ownBlock] using e.symm)
 have hgo2:(Value.slice (some ⟨g2,0,none⟩) (k.length+1) c2).ownBlock≠some go:=by
  intro e
  exact hgg (by simpa [Value.ownBlock] using e)
 have hg2b:base<=g2:=(hown.lt g2 rfl).1
 have hgob:base<=go:=(hro.lt go rfl).1
 have hbel:Below base w w5:=(Below.refl base w).grown hgr (Nat.le_trans hgob (Nat.le_of_lt hgo)) (fun j hj=>(hrk.lt j hj).1)
 have hattr:∀ j∈go :: blk (.slice kp km kc),∀ cs fz,w.heap[j]?≠some (.cells cs 108 fz):=by
  intro j hj cs fz e
  rcases List.mem_cons.1 hj with rfl | hj
  ·exact own_apart hro e (by decide) rfl
  ·exact own_apart hrk e (by decide) (by unfold blk at hj;simpa using hj)
 have hout:∀ j,j < w.heap.size->j ∉ go :: blk (.slice kp km kc)->j≠go/\j≠g2/\w5.heap[j]?=w.heap[j]?:=by
  intro j hj hS
  have j1:j≠go:=fun e=>hS (by rw[e];exact List.mem_cons_self ..)
  have j2:(Value.slice kp km kc).ownBlock≠some j:=fun e=>hS (List.mem_cons_of_mem _ (by unfold blk;rw[e];simp))
  refine⟨j1,?_,hgr.block j hj (fun e=>j2 e.symm)⟩
  rintro rfl
  rcases hfr with e | e
  ·exact j2 e.symm
  ·have:j=w.heap.size:=by simpa [Value.ownBlock] using e
   omega
 refine⟨g2,c2,rfl,hgg,hat 0 (by decide),hat 1 (by decide),hat 2 (by decide),hat 3 (by decide),hfrz _ _ _ _ hown _,hfrz _ _ _ _ hown _,hfrz _ _ _ _ hown _,hfrz _ _ _ _ hown _,o3,hfrz _ _ _ _ hro5 _,?_,?_⟩
 ·refine⟨?_,?_,?_,hfr,⟨?_,?_,hattr⟩,?_⟩
  ·unfold BB
   rw[Below.heap_setCell _ _ _ _ (by simpa using Ne.symm n1),Below.heap_setCell _ _ _ _ (by simpa using Ne.symm n2),Below.heap_setCell _ _ _ _ (by simpa using Ne.symm n2),Below.heap_setCell _ _ _ _ (by simpa using Ne.symm n2),Below.heap_setCell _ _ _ _ (by simpa using Ne.symm n2)]
   exact hB5
  ·rw[<-set_kids init nd av (.slice kp km kc)]
   exact own_put (ownsRow_setCell_other (ownsRow_setCell_other (ownsRow_setCell_other (ownsRow_setCell_other hro5 (a:=⟨g2,k.length*4,none⟩) hog _) (a:=⟨g2,k.length*4+1,none⟩) hog _) (a:=⟨g2,k.length*4+2,none⟩) hog _) (a:=⟨g2,k.length*4+3,none⟩) hog _) _ _
  ·rw[<-set_four (ndCells k) (.string ⟨#[]⟩) (.slice none 0 0) (.string ⟨#[]⟩) (.slice none 0 0),hlen]
   exact ownsRow_setCell_other (own_put (own_put (own_put (own_put hown _ _) _ _) _ _) _ _) (a:=⟨go,init.length*4+3,none⟩) hgo2 _
  ·simpa using hgr.size
  ·intro j hj hS
   obtain⟨j1,j2,j3⟩:=hout j hj hS
   rw[Below.heap_setCell _ _ _ _ (by simpa using j1),Below.heap_setCell _ _ _ _ (by simpa using j2),Below.heap_setCell _ _ _ _ (by simpa using j2),Below.heap_setCell _ _ _ _ (by simpa using j2),Below.heap_setCell _ _ _ _ (by simpa using j2)]
   exact j3
  ·exact ((((hbel.setCell (p:=⟨g2,k.length*4,none⟩) hg2b _).setCell (p:=⟨g2,k.length*4+1,none⟩) hg2b _).setCell (p:=⟨g2,k.length*4+2,none⟩) hg2b _).setCell (p:=⟨g2,k.length*4+3,none⟩) hg2b _).setCell (p:=⟨go,init.length*4+3,none⟩) hgob _
 ·refine⟨?_,?_,?_,hfr,⟨?_,?_,hattr⟩,?_⟩
  ·unfold BB
   rw[Below.heap_setCell _ _ _ _ (by simpa using Ne.symm n2),Below.heap_setCell _ _ _ _ (by simpa using Ne.symm n2),Below.heap_setCell _ _ _ _ (by simpa using Ne.symm n2),Below.heap_setCell _ _ _ _ (by simpa using Ne.symm n2),Below.heap_setCell _ _ _ _ (by simpa using Ne.symm n1)]
   exact hB5
  ·rw[<-set_kids init nd av (.slice kp km kc)]
   exact ownsRow_setCell_other (ownsRow_setCell_other (ownsRow_setCell_other (ownsRow_setCell_other (own_put hro5 _ _) (a:=⟨g2,k.length*4,none⟩) hog _) (a:=⟨g2,k.length*4+1,none⟩) hog _) (a:=⟨g2,k.length*4+2,none⟩) hog _) (a:=⟨g2,k.length*4+3,none⟩) hog _
  ·rw[<-set_four (ndCells k) (.string ⟨#[]⟩) (.slice none 0 0) (.string ⟨#[]⟩) (.slice none 0 0),hlen]
   exact own_put (own_put (own_put (own_put (ownsRow_setCell_other hown (a:=⟨go,init.length*4+3,none⟩) hgo2 _) _ _) _ _) _ _) _ _
  ·simpa using hgr.size
  ·intro j hj hS
   obtain⟨j1,j2,j3⟩:=hout j hj hS
   rw[Below.heap_setCell _ _ _ _ (by simpa using j2),Below.heap_setCell _ _ _ _ (by simpa using j2),Below.heap_setCell _ _ _ _ (by simpa using j2),Below.heap_setCell _ _ _ _ (by simpa using j2),Below.heap_setCell _ _ _ _ (by simpa using j1)]
   exact j3
  ·exact ((((hbel.setCell (p:=⟨go,init.length*4+3,none⟩) hgob _).setCell (p:=⟨g2,k.length*4,none⟩) hg2b _).setCell (p:=⟨g2,k.length*4+1,none⟩) hg2b _).setCell (p:=⟨g2,k.length*4+2,none⟩) hg2b _).setCell (p:=⟨g2,k.length*4+3,none⟩) hg2b _
theorem put_any (w:World) (B base go oc:Nat) (pa bv x y:Value) (init:List (Nd × Value × Value)) (nd:Nd) (av:Value) (kp:Option Addr) (km kc:Nat) (k:List (Nd × Value × Value)) (nm tx:ByteArray) (ap:Option Addr) (am ac:Nat) (cp:Option Addr) (cm cc:Nat)
  (h:BB w B (.slice (some ⟨go,0,none⟩) (init.length+1) oc) pa bv x y)(hro:w.ownsRow base 80 4 (.slice (some ⟨go,0,none⟩) (init.length+1) oc) (init.length+1) (ndCells (init++[(nd,av,.slice kp km kc)])))
  (hrk:w.ownsRow base 80 4 (.slice kp km kc) k.length (ndCells k))(hne:(Value.slice kp km kc).ownBlock≠some go)(hk:k.length<=100000)(hil:init.length<=100000)(hbB:base<=B)(hbw:base<=w.heap.size) :
  Calls Tryz.prog 81 #[.pointer (some ⟨B,0,none⟩),.agg #[.string nm,.slice ap am ac,.string tx,.slice cp cm cc]] w fun e w'=>e=.returned (.tuple #[])/\∃ kv',BB w' B (.slice (some ⟨go,0,none⟩) (init.length+1) oc) pa bv x y /\
   w'.ownsRow base 80 4 (.slice (some ⟨go,0,none⟩) (init.length+1) oc) (init.length+1) (ndCells (init++[(nd,av,kv')]))/\w'.ownsRow base 80 4 kv' (k.length+1) (ndCells k++[.string nm,.slice ap am ac,.string tx,.slice cp cm cc]) /\
   (kv'.ownBlock=(Value.slice kp km kc).ownBlock\/∃ g,kv'.ownBlock=some g/\w.heap.size<=g)/\Stays w w' (go :: blk (.slice kp km kc))/\Below base w w':=by
 have hBl:B < w.heap.size:=lt_of_block h
 have hgl:go < w.heap.size:=(own_lt hro go (by simp[blk,Value.ownBlock])).2
 have hkm:km=k.length:=by
  obtain⟨_,_,e⟩:=own_len hrk
  injection e
 subst hkm
 obtain⟨w1,hw1⟩:∃ w1,w1=w.alloc (.cells #[.string nm,.slice ap am ac,.string tx,.slice cp cm cc] 80):=⟨_,rfl⟩
 have hb1:Below w.heap.size w w1:=by
  rw[hw1]
  exact (Below.refl _ _).alloc (Nat.le_refl _) _
 have b0:w1.cell? ⟨B,0,none⟩=some (.slice (some ⟨go,0,none⟩) (init.length+1) oc):=cell_keep (tag_cell h 0 _ rfl) hb1
 have n0:w1.cell? ⟨w.heap.size,0,none⟩=some (.string nm):=by rw[hw1];simp
 have n1:w1.cell? ⟨w.heap.size,1,none⟩=some (.slice ap am ac):=by rw[hw1];simp
 have n2:w1.cell? ⟨w.heap.size,2,none⟩=some (.string tx):=by rw[hw1];simp
 have n3:w1.cell? ⟨w.heap.size,3,none⟩=some (.slice cp cm cc):=by rw[hw1];simp
 have hro1:=own_below hro hb1
 have hrk1:=own_below hrk hb1
 have h1:BB w1 B (.slice (some ⟨go,0,none⟩) (init.length+1) oc) pa bv x y:=(hb1.block _ hBl).trans h
 have o3:w1.cell? ⟨go,init.length*4+3,none⟩=some (.slice kp k.length kc):=by
  rw[hro1.cellAt (init.length*4+3) (by omega),ndCells_at _ init.length _ (by rw[List.getElem?_append_right (Nat.le_refl _),Nat.sub_self];rfl) 3 (by decide)]
  rfl
 have HS1:Hid (Below w.heap.size w w1/\w1.heap.size=w.heap.size+1):=hide ⟨hb1,by rw[hw1];simp⟩
 have HR:=hide (And.intro hro1 (And.intro hrk1 h1))
 clear h hro hrk hb1 hro1 hrk1 h1
 go_enter Tryz.func81,Tryz.ntmps81
 go_wp2_with fail
 rw[<-hw1]
 clear hw1
 go_quiet (fail)
 go_wp2_with fail
 obtain⟨i0,hi,hz0,hz1,hz2⟩:=info_parts infoNode
 obtain⟨wd,hwd⟩:∃ wd,wd=(w1.drewN nq).drew:=⟨_,rfl⟩
 have o3:wd.cell? ⟨go,init.length*4+3,none⟩=some (.slice kp k.length kc):=by rw[hwd];exact o3
 have n0:wd.cell? ⟨w.heap.size,0,none⟩=some (.string nm):=by rw[hwd];exact n0
 have n1:wd.cell? ⟨w.heap.size,1,none⟩=some (.slice ap am ac):=by rw[hwd];exact n1
 have n2:wd.cell? ⟨w.heap.size,2,none⟩=some (.string tx):=by rw[hwd];exact n2
 have n3:wd.cell? ⟨w.heap.size,3,none⟩=some (.slice cp cm cc):=by rw[hwd];exact n3
 have HSD:Hid (Below w.heap.size w wd/\wd.heap.size=w.heap.size+1):=hide (by
  rw[hwd]
  exact⟨bel2 (bel2 HS1.out.1 (bel_drewN w1 nq)) (bel_one _),HS1.out.2⟩)
 obtain⟨wz,hwz⟩:∃ wz,wz=wd.alloc (.cells #[.string ⟨#[]⟩,.slice none 0 0,.string ⟨#[]⟩,.slice none 0 0] 80):=⟨_,rfl⟩
 have hbz:Below wd.heap.size wd wz:=by
  rw[hwz]
  exact (Below.refl _ _).alloc (Nat.le_refl _) _
 have o3z:=cell_keep o3 hbz
 have n0z:=cell_keep n0 hbz
 have n1z:=cell_keep n1 hbz
 have n2z:=cell_keep n2 hbz
 have n3z:=cell_keep n3 hbz
 have HRZ:Hid (_/\_/\BB wz B (.slice (some ⟨go,0,none⟩) (init.length+1) oc) pa bv x y):=hide (by
  have hd:=HR.out
  have hbd:Below w1.heap.size w1 wd:=by
   rw[hwd]
   exact bel2 (bel_drewN w1 nq) (bel_one _)
  exact⟨own_below (own_below hd.1 hbd) hbz,own_below (own_below hd.2.1 hbd) hbz,(hbz.block _ (by have:=HSD.out.2;omega)).trans ((hbd.block _ (by have:=HS1.out.2;omega)).trans hd.2.2)⟩)
 have HNZ:=hide (four_new wd (.string ⟨#[]⟩) (.slice none 0 0) (.string ⟨#[]⟩) (.slice none 0 0) 80)
 rw[<-hwz] at HNZ
 have HSZ:Hid (base<=wz.heap.size/\go < wz.heap.size):=hide (by
  have h1:=HSD.out.2
  have h2:=hbz.size
  omega)
 have HEND:Hid (∀ (w':World) (kv':Value),PutEnd wz w' B base go oc pa bv x y init nd av (.slice kp k.length kc) k nm tx ap am ac cp cm cc kv'->∃ kv',BB w' B (.slice (some ⟨go,0,none⟩) (init.length+1) oc) pa bv x y /\
   w'.ownsRow base 80 4 (.slice (some ⟨go,0,none⟩) (init.length+1) oc) (init.length+1) (ndCells (init++[(nd,av,kv')]))/\w'.ownsRow base 80 4 kv' (k.length+1) (ndCells k++[.string nm,.slice ap am ac,.string tx,.slice cp cm cc]) /\
   (kv'.ownBlock=(Value.slice kp k.length kc).ownBlock\/∃ g,kv'.ownBlock=some g/\w.heap.size<=g)/\Stays w w' (go :: blk (.slice kp k.length kc))/\Below base w w'):=hide (by
  intro w' kv' hp
  obtain⟨p1,p2,p3,p4,p5,p6⟩:=hp
  have hwz2:Below w.heap.size w wz:=bel2 HSD.out.1 hbz
  refine⟨kv',p1,p2,p3,p4.imp id (fun e=>⟨_,e,hwz2.size⟩),⟨Nat.le_trans hwz2.size p5.size,fun k hk hS=>(p5.block k (Nat.lt_of_lt_of_le hk hwz2.size) hS).trans (hwz2.block k hk),fun k hk cs fz e=>?_⟩,(hwz2.mono hbw).trans p6⟩
  refine p5.attr k hk cs fz ?_
  rw[hwz2.block k (Array.getElem?_eq_some_iff.1 e).1]
  exact e)
 have HWZ:=hide hwz
 clear hwz hbz HR HS1 HSD
 refine wp_region_any (by kernel_rfl) ?_
 try (change wpAny _ _ _ _ _ _ _ (World.drew _))
 rw[<-hwd]
 clear hwd
 refine wpTo 0 (.pointer (some ⟨go,init.length*4,none⟩)) rfl ?_
 refine wpTo 1 (.pointer (some ⟨go,init.length*4,none⟩)) rfl ?_
 refine wpTo 2 (.pointer (some ⟨go,init.length*4+3,none⟩)) rfl ?_
 refine wpAny_ready (rs:=[3,4,6]) (by kernel_rfl) (by simp) ?_
 refine AllReady.cons rfl (fun K hK=>?_) (AllReady.cons rfl (fun K hK=>?_) (AllReady.cons rfl (fun K hK=>?_) AllReady.nil))
 ·go_simp
  go_wp2_with fail
  refine wpTo 5 (.int .i64 (k.length:Int)) rfl ?_
  refine wpAny_ready (rs:=[4,6]) (by kernel_rfl) (by simp) ?_
  refine AllReady.cons rfl (fun K hK=>?_) (AllReady.cons rfl (fun K hK=>?_) AllReady.nil)
  ·go_simp
   go_wp2_with fail
   refine wpAny_ready (rs:=[6]) (by kernel_rfl) (by simp) ?_
   refine AllReady.cons rfl (fun K hK=>?_) AllReady.nil
   go_simp
   go_wp2_with fail
   rw[<-HWZ.out]
   refine wpAny_ready (rs:=[7]) (by kernel_rfl) (by simp) ?_
   refine AllReady.cons rfl (fun K hK=>?_) AllReady.nil
   rw[if_pos (by rfl)]
   refine wp_append_new (.tmp 19) (.tmp 22) 32 rfl base 80 i0 _ 4 80 Tryz.underlying32 hi hz0 hz1 hz2 rfl (by decide) (.slice kp k.length kc) k.length (ndCells k) rfl HRZ.out.2.1 ⟨wd.heap.size,0,none⟩ 1 1 [.string ⟨#[]⟩,.slice none 0 0,.string ⟨#[]⟩,.slice none 0 0] rfl rfl HNZ.out zero_one (by unfold maxLen;omega) (by omega) (by have:=HSZ.out;omega) (by decide) ?_
   intro v' w5 hown5 hgr5 hfr5
   obtain⟨g2,c2,rfl,HP⟩:=put_facts HRZ.out.1 HRZ.out.2.1 HRZ.out.2.2 hown5 hgr5 hfr5 hne HSZ.out.2 nm tx ap am ac cp cm cc
   obtain⟨hgg,q0,q1,q2,q3,r0,r1,r2,r3,q4,r4,hfa,hfb⟩:=HP
   have HFA:=hide hfa
   have HFB:=hide hfb
   have hgg2:go≠g2:=Ne.symm hgg
   clear hown5 hgr5 hfr5 hfa hfb
   refine hK _ _ ?_
   clear hK K
   refine wpTo 8 (.pointer (some ⟨g2,k.length*4,none⟩)) rfl ?_
   refine wpTo 10 (.pointer (some ⟨go,init.length*4,none⟩)) rfl ?_
   refine wpTo 11 (.pointer (some ⟨go,init.length*4+3,none⟩)) rfl ?_
   refine wpAny_ready (rs:=[9,12]) (by kernel_rfl) (by simp) ?_
   refine AllReady.cons rfl (fun K hK=>?_) (AllReady.cons rfl (fun K hK=>?_) AllReady.nil)
   ·go_simp
    go_wp2_with fail
    refine wpAny_ready (rs:=[12]) (by kernel_rfl) (by simp) ?_
    refine AllReady.cons rfl (fun K hK=>?_) AllReady.nil
    go_simp
    go_wp2_with fail
    refine wpAny_done (by kernel_rfl) ?_ _
    go_wp2_with fail
    go_end0
    exact⟨rfl,HEND.out _ _ HFA.out⟩
   ·go_simp
    go_wp2_with fail
    refine wpAny_ready (rs:=[9]) (by kernel_rfl) (by simp) ?_
    refine AllReady.cons rfl (fun K hK=>?_) AllReady.nil
    go_simp
    go_wp2_with fail
    refine wpAny_done (by kernel_rfl) ?_ _
    go_wp2_with fail
    go_end0
    exact⟨rfl,HEND.out _ _ HFB.out⟩
  ·go_simp
   go_wp2_with fail
   rw[<-HWZ.out]
   refine wpAny_ready (rs:=[4]) (by kernel_rfl) (by simp) ?_
   refine AllReady.cons rfl (fun K hK=>?_) AllReady.nil
   go_simp
   go_wp2_with fail
   refine wpAny_ready (rs:=[7]) (by kernel_rfl) (by simp) ?_
   refine AllReady.cons rfl (fun K hK=>?_) AllReady.nil
   rw[if_pos (by rfl)]
   refine wp_append_new (.tmp 19) (.tmp 22) 32 rfl base 80 i0 _ 4 80 Tryz.underlying32 hi hz0 hz1 hz2 rfl (by decide) (.slice kp k.length kc) k.length (ndCells k) rfl HRZ.out.2.1 ⟨wd.heap.size,0,none⟩ 1 1 [.string ⟨#[]⟩,.slice none 0 0,.string ⟨#[]⟩,.slice none 0 0] rfl rfl HNZ.out zero_one (by unfold maxLen;omega) (by omega) (by have:=HSZ.out;omega) (by decide) ?_
   intro v' w5 hown5 hgr5 hfr5
   obtain⟨g2,c2,rfl,HP⟩:=put_facts HRZ.out.1 HRZ.out.2.1 HRZ.out.2.2 hown5 hgr5 hfr5 hne HSZ.out.2 nm tx ap am ac cp cm cc
   obtain⟨hgg,q0,q1,q2,q3,r0,r1,r2,r3,q4,r4,hfa,hfb⟩:=HP
   have HFA:=hide hfa
   have HFB:=hide hfb
   have hgg2:go≠g2:=Ne.symm hgg
   clear hown5 hgr5 hfr5 hfa hfb
   refine hK _ _ ?_
   clear hK K
   refine wpTo 8 (.pointer (some ⟨g2,k.length*4,none⟩)) rfl ?_
   refine wpTo 10 (.pointer (some ⟨go,init.length*4,none⟩)) rfl ?_
   refine wpTo 11 (.pointer (some ⟨go,init.length*4+3,none⟩)) rfl ?_
   refine wpAny_ready (rs:=[9,12]) (by kernel_rfl) (by simp) ?_
   refine AllReady.cons rfl (fun K hK=>?_) (AllReady.cons rfl (fun K hK=>?_) AllReady.nil)
   ·go_simp
    go_wp2_with fail
    refine wpAny_ready (rs:=[12]) (by kernel_rfl) (by simp) ?_
    refine AllReady.cons rfl (fun K hK=>?_) AllReady.nil
    go_simp
    go_wp2_with fail
    refine wpAny_done (by kernel_rfl) ?_ _
    go_wp2_with fail
    go_end0
    exact⟨rfl,HEND.out _ _ HFA.out⟩
   ·go_simp
    go_wp2_with fail
    refine wpAny_ready (rs:=[9]) (by kernel_rfl) (by simp) ?_
    refine AllReady.cons rfl (fun K hK=>?_) AllReady.nil
    go_simp
    go_wp2_with fail
    refine wpAny_done (by kernel_rfl) ?_ _
    go_wp2_with fail
    go_end0
    exact⟨rfl,HEND.out _ _ HFB.out⟩
 ·go_simp
  go_wp2_with fail
  refine wpAny_ready (rs:=[3,6]) (by kernel_rfl) (by simp) ?_
  refine AllReady.cons rfl (fun K hK=>?_) (AllReady.cons rfl (fun K hK=>?_) AllReady.nil)
  ·go_simp
   go_wp2_with fail
   refine wpTo 5 (.int .i64 (k.length:Int)) rfl ?_
   refine wpAny_ready (rs:=[6]) (by kernel_rfl) (by simp) ?_
   refine AllReady.cons rfl (fun K hK=>?_) AllReady.nil
   go_simp
   go_wp2_with fail
   rw[<-HWZ.out]
   refine wpAny_ready (rs:=[7]) (by kernel_rfl) (by simp) ?_
   refine AllReady.cons rfl (fun K hK=>?_) AllReady.nil
   rw[if_pos (by rfl)]
   refine wp_append_new (.tmp 19) (.tmp 22) 32 rfl base 80 i0 _ 4 80 Tryz.underlying32 hi hz0 hz1 hz2 rfl (by decide) (.slice kp k.length kc) k.length (ndCells k) rfl HRZ.out.2.1 ⟨wd.heap.size,0,none⟩ 1 1 [.string ⟨#[]⟩,.slice none 0 0,.string ⟨#[]⟩,.slice none 0 0] rfl rfl HNZ.out zero_one (by unfold maxLen;omega) (by omega) (by have:=HSZ.out;omega) (by decide) ?_
   intro v' w5 hown5 hgr5 hfr5
   obtain⟨g2,c2,rfl,HP⟩:=put_facts HRZ.out.1 HRZ.out.2.1 HRZ.out.2.2 hown5 hgr5 hfr5 hne HSZ.out.2 nm tx ap am ac cp cm cc
   obtain⟨hgg,q0,q1,q2,q3,r0,r1,r2,r3,q4,r4,hfa,hfb⟩:=HP
   have HFA:=hide hfa
   have HFB:=hide hfb
   have hgg2:go≠g2:=Ne.symm hgg
   clear hown5 hgr5 hfr5 hfa hfb
   refine hK _ _ ?_
   clear hK K
   refine wpTo 8 (.pointer (some ⟨g2,k.length*4,none⟩)) rfl ?_
   refine wpTo 10 (.pointer (some ⟨go,init.length*4,none⟩)) rfl ?_
   refine wpTo 11 (.pointer (some ⟨go,init.length*4+3,none⟩)) rfl ?_
   refine wpAny_ready (rs:=[9,12]) (by kernel_rfl) (by simp) ?_
   refine AllReady.cons rfl (fun K hK=>?_) (AllReady.cons rfl (fun K hK=>?_) AllReady.nil)
   ·go_simp
    go_wp2_with fail
    refine wpAny_ready (rs:=[12]) (by kernel_rfl) (by simp) ?_
    refine AllReady.cons rfl (fun K hK=>?_) AllReady.nil
    go_simp
    go_wp2_with fail
    refine wpAny_done (by kernel_rfl) ?_ _
    go_wp2_with fail
    go_end0
    exact⟨rfl,HEND.out _ _ HFA.out⟩
   ·go_simp
    go_wp2_with fail
    refine wpAny_ready (rs:=[9]) (by kernel_rfl) (by simp) ?_
    refine AllReady.cons rfl (fun K hK=>?_) AllReady.nil
    go_simp
    go_wp2_with fail
    refine wpAny_done (by kernel_rfl) ?_ _
    go_wp2_with fail
    go_end0
    exact⟨rfl,HEND.out _ _ HFB.out⟩
  ·go_simp
   go_wp2_with fail
   rw[<-HWZ.out]
   refine wpAny_ready (rs:=[3]) (by kernel_rfl) (by simp) ?_
   refine AllReady.cons rfl (fun K hK=>?_) AllReady.nil
   go_simp
   go_wp2_with fail
   refine wpTo 5 (.int .i64 (k.length:Int)) rfl ?_
   refine wpAny_ready (rs:=[7]) (by kernel_rfl) (by simp) ?_
   refine AllReady.cons rfl (fun K hK=>?_) AllReady.nil
   rw[if_pos (by rfl)]
   refine wp_append_new (.tmp 19) (.tmp 22) 32 rfl base 80 i0 _ 4 80 Tryz.underlying32 hi hz0 hz1 hz2 rfl (by decide) (.slice kp k.length kc) k.length (ndCells k) rfl HRZ.out.2.1 ⟨wd.heap.size,0,none⟩ 1 1 [.string ⟨#[]⟩,.slice none 0 0,.string ⟨#[]⟩,.slice none 0 0] rfl rfl HNZ.out zero_one (by unfold maxLen;omega) (by omega) (by have:=HSZ.out;omega) (by decide) ?_
   intro v' w5 hown5 hgr5 hfr5
   obtain⟨g2,c2,rfl,HP⟩:=put_facts HRZ.out.1 HRZ.out.2.1 HRZ.out.2.2 hown5 hgr5 hfr5 hne HSZ.out.2 nm tx ap am ac cp cm cc
   obtain⟨hgg,q0,q1,q2,q3,r0,r1,r2,r3,q4,r4,hfa,hfb⟩:=HP
   have HFA:=hide hfa
   have HFB:=hide hfb
   have hgg2:go≠g2:=Ne.symm hgg
   clear hown5 hgr5 hfr5 hfa hfb
   refine hK _ _ ?_
   clear hK K
   refine wpTo 8 (.pointer (some ⟨g2,k.length*4,none⟩)) rfl ?_
   refine wpTo 10 (.pointer (some ⟨go,init.length*4,none⟩)) rfl ?_
   refine wpTo 11 (.pointer (some ⟨go,init.length*4+3,none⟩)) rfl ?_
   refine wpAny_ready (rs:=[9,12]) (by kernel_rfl) (by simp) ?_
   refine AllReady.cons rfl (fun K hK=>?_) (AllReady.cons rfl (fun K hK=>?_) AllReady.nil)
   ·go_simp
    go_wp2_with fail
    refine wpAny_ready (rs:=[12]) (by kernel_rfl) (by simp) ?_
    refine AllReady.cons rfl (fun K hK=>?_) AllReady.nil
    go_simp
    go_wp2_with fail
    refine wpAny_done (by kernel_rfl) ?_ _
    go_wp2_with fail
    go_end0
    exact⟨rfl,HEND.out _ _ HFA.out⟩
   ·go_simp
    go_wp2_with fail
    refine wpAny_ready (rs:=[9]) (by kernel_rfl) (by simp) ?_
    refine AllReady.cons rfl (fun K hK=>?_) AllReady.nil
    go_simp
    go_wp2_with fail
    refine wpAny_done (by kernel_rfl) ?_ _
    go_wp2_with fail
    go_end0
    exact⟨rfl,HEND.out _ _ HFB.out⟩
 ·go_simp
  go_wp2_with fail
  rw[<-HWZ.out]
  refine wpAny_ready (rs:=[3,4]) (by kernel_rfl) (by simp) ?_
  refine AllReady.cons rfl (fun K hK=>?_) (AllReady.cons rfl (fun K hK=>?_) AllReady.nil)
  ·go_simp
   go_wp2_with fail
   refine wpTo 5 (.int .i64 (k.length:Int)) rfl ?_
   refine wpAny_ready (rs:=[4]) (by kernel_rfl) (by simp) ?_
   refine AllReady.cons rfl (fun K hK=>?_) AllReady.nil
   go_simp
   go_wp2_with fail
   refine wpAny_ready (rs:=[7]) (by kernel_rfl) (by simp) ?_
   refine AllReady.cons rfl (fun K hK=>?_) AllReady.nil
   rw[if_pos (by rfl)]
   refine wp_append_new (.tmp 19) (.tmp 22) 32 rfl base 80 i0 _ 4 80 Tryz.underlying32 hi hz0 hz1 hz2 rfl (by decide) (.slice kp k.length kc) k.length (ndCells k) rfl HRZ.out.2.1 ⟨wd.heap.size,0,none⟩ 1 1 [.string ⟨#[]⟩,.slice none 0 0,.string ⟨#[]⟩,.slice none 0 0] rfl rfl HNZ.out zero_one (by unfold maxLen;omega) (by omega) (by have:=HSZ.out;omega) (by decide) ?_
   intro v' w5 hown5 hgr5 hfr5
   obtain⟨g2,c2,rfl,HP⟩:=put_facts HRZ.out.1 HRZ.out.2.1 HRZ.out.2.2 hown5 hgr5 hfr5 hne HSZ.out.2 nm tx ap am ac cp cm cc
   obtain⟨hgg,q0,q1,q2,q3,r0,r1,r2,r3,q4,r4,hfa,hfb⟩:=HP
   have HFA:=hide hfa
   have HFB:=hide hfb
   have hgg2:go≠g2:=Ne.symm hgg
   clear hown5 hgr5 hfr5 hfa hfb
   refine hK _ _ ?_
   clear hK K
   refine wpTo 8 (.pointer (some ⟨g2,k.length*4,none⟩)) rfl ?_
   refine wpTo 10 (.pointer (some ⟨go,init.length*4,none⟩)) rfl ?_
   refine wpTo 11 (.pointer (some ⟨go,init.length*4+3,none⟩)) rfl ?_
   refine wpAny_ready (rs:=[9,12]) (by kernel_rfl) (by simp) ?_
   refine AllReady.cons rfl (fun K hK=>?_) (AllReady.cons rfl (fun K hK=>?_) AllReady.nil)
   ·go_simp
    go_wp2_with fail
    refine wpAny_ready (rs:=[12]) (by kernel_rfl) (by simp) ?_
    refine AllReady.cons rfl (fun K hK=>?_) AllReady.nil
    go_simp
    go_wp2_with fail
    refine wpAny_done (by kernel_rfl) ?_ _
    go_wp2_with fail
    go_end0
    exact⟨rfl,HEND.out _ _ HFA.out⟩
   ·go_simp
    go_wp2_with fail
    refine wpAny_ready (rs:=[9]) (by kernel_rfl) (by simp) ?_
    refine AllReady.cons rfl (fun K hK=>?_) AllReady.nil
    go_simp
    go_wp2_with fail
    refine wpAny_done (by kernel_rfl) ?_ _
    go_wp2_with fail
    go_end0
    exact⟨rfl,HEND.out _ _ HFB.out⟩
  ·go_simp
   go_wp2_with fail
   refine wpAny_ready (rs:=[3]) (by kernel_rfl) (by simp) ?_
   refine AllReady.cons rfl (fun K hK=>?_) AllReady.nil
   go_simp
   go_wp2_with fail
   refine wpTo 5 (.int .i64 (k.length:Int)) rfl ?_
   refine wpAny_ready (rs:=[7]) (by kernel_rfl) (by simp) ?_
   refine AllReady.cons rfl (fun K hK=>?_) AllReady.nil
   rw[if_pos (by rfl)]
   refine wp_append_new (.tmp 19) (.tmp 22) 32 rfl base 80 i0 _ 4 80 Tryz.underlying32 hi hz0 hz1 hz2 rfl (by decide) (.slice kp k.length kc) k.length (ndCells k) rfl HRZ.out.2.1 ⟨wd.heap.size,0,none⟩ 1 1 [.string ⟨#[]⟩,.slice none 0 0,.string ⟨#[]⟩,.slice none 0 0] rfl rfl HNZ.out zero_one (by unfold maxLen;omega) (by omega) (by have:=HSZ.out;omega) (by decide) ?_
   intro v' w5 hown5 hgr5 hfr5
   obtain⟨g2,c2,rfl,HP⟩:=put_facts HRZ.out.1 HRZ.out.2.1 HRZ.out.2.2 hown5 hgr5 hfr5 hne HSZ.out.2 nm tx ap am ac cp cm cc
   obtain⟨hgg,q0,q1,q2,q3,r0,r1,r2,r3,q4,r4,hfa,hfb⟩:=HP
   have HFA:=hide hfa
   have HFB:=hide hfb
   have hgg2:go≠g2:=Ne.symm hgg
   clear hown5 hgr5 hfr5 hfa hfb
   refine hK _ _ ?_
   clear hK K
   refine wpTo 8 (.pointer (some ⟨g2,k.length*4,none⟩)) rfl ?_
   refine wpTo 10 (.pointer (some ⟨go,init.length*4,none⟩)) rfl ?_
   refine wpTo 11 (.pointer (some ⟨go,init.length*4+3,none⟩)) rfl ?_
   refine wpAny_ready (rs:=[9,12]) (by kernel_rfl) (by simp) ?_
   refine AllReady.cons rfl (fun K hK=>?_) (AllReady.cons rfl (fun K hK=>?_) AllReady.nil)
   ·go_simp
    go_wp2_with fail
    refine wpAny_ready (rs:=[12]) (by kernel_rfl) (by simp) ?_
    refine AllReady.cons rfl (fun K hK=>?_) AllReady.nil
    go_simp
    go_wp2_with fail
    refine wpAny_done (by kernel_rfl) ?_ _
    go_wp2_with fail
    go_end0
    exact⟨rfl,HEND.out _ _ HFA.out⟩
   ·go_simp
    go_wp2_with fail
    refine wpAny_ready (rs:=[9]) (by kernel_rfl) (by simp) ?_
    refine AllReady.cons rfl (fun K hK=>?_) AllReady.nil
    go_simp
    go_wp2_with fail
    refine wpAny_done (by kernel_rfl) ?_ _
    go_wp2_with fail
    go_end0
    exact⟨rfl,HEND.out _ _ HFB.out⟩
end Go.Proofs.YtkiofbikkhhdfabGreatDoor.Dm
namespace Go.Proofs.YtkiofbikkhhdfabGreatDoor.Sy
open Go.RowKit
open Utf1
theorem next_some (P:Program) (w:World) (k:Nat) (s:ByteArray) (pos:Nat)(hk:w.heap[k]?=some (.stringIter s pos))(h:pos < s.size) :
  ∃ r wd:Nat,1<=wd/\wd<=4/\pos+wd<=s.size/\r<=1114111/\dl ((bl s).drop pos)=(r,wd)/\(∀ ty,(Instr.next (.pointer (some ⟨k,0,none⟩)) true ty).run P w =
   .ok (.tuple #[.bool true,.int .i64 pos,.int .i32 r]) (w.iterAt k s (pos+wd))):=by
 have hne:(bl s).drop pos≠[]:=by
  intro e
  have:=congrArg List.length e
  rw[List.length_drop,bl_len] at this
  simp at this
  omega
 have hw:=dl_width _ hne
 have hsc:=dl_scalar _ hne
 rw[List.length_drop,bl_len] at hw
 refine⟨(dl ((bl s).drop pos)).1,(dl ((bl s).drop pos)).2,hw.1,hw.2.1,by omega,by unfold Scalar at hsc;omega,rfl,fun ty=>?_⟩
 rw[Lib.run_next_any_at w k s pos ty hk h,decode_dl s pos h]
theorem drop_ne (s:ByteArray) (pos:Nat)(h:pos < s.size):(bl s).drop pos≠[]:=by
 intro e
 have:=congrArg List.length e
 rw[List.length_drop,bl_len] at this
 simp at this
 omega
theorem drop_all (s:ByteArray) (pos:Nat)(h:¬ pos < s.size):(bl s).drop pos=[]:=by
 rw[List.drop_eq_nil_iff,bl_len]
 omega
def RowIs (w:World) (B:Nat) (l:List UInt8):Prop :=
 ∃ C fz,w.heap[B]?=some (.cells C 5 fz)/\l.length<=fz.1/\∀ j (hj:j < l.length),C[j]?=some (.int .u8 (l[j].toNat:Int))
theorem RowIs.cell {w:World}{B:Nat}{l:List UInt8}(h:RowIs w B l) (j:Nat)(hj:j < l.length):w.cell? ⟨B,j,none⟩=some (.int .u8 (l[j].toNat:Int)):=by
 obtain⟨C,fz,hB,_,hc⟩:=h
 unfold World.cell?
 rw[hB]
 simpa using hc j hj
theorem RowIs.frozen {w:World}{B:Nat}{l:List UInt8}(h:RowIs w B l) (j:Nat)(hj:j < l.length):w.frozen? ⟨B,j,none⟩=false:=by
 obtain⟨C,fz,hB,hl,_⟩:=h
 unfold World.frozen?
 rw[hB]
 simp
 omega
theorem RowIs.set {w:World}{B:Nat}{l:List UInt8}(h:RowIs w B l) (j:Nat) (x:UInt8):RowIs (w.setCell ⟨B,j,none⟩ (.int .u8 (x.toNat:Int))) B (l.set j x):=by
 obtain⟨C,fz,hB,hl,hc⟩:=h
 refine⟨C.setIfInBounds j (.int .u8 (x.toNat:Int)),fz,?_,by simpa using hl,?_⟩
 ·simp[World.setCell,Array.getElem?_modify,hB]
 ·intro i hi
  rw[List.length_set] at hi
  have h1:=hc i hi
  have hiC:i < C.size:=(Array.getElem?_eq_some_iff.1 h1).1
  by_cases e:j=i
  ·subst e
   simp[hiC]
  ·simp[Array.getElem?_setIfInBounds_ne,e,h1]
theorem RowIs.iterAt {w:World}{B:Nat}{l:List UInt8}(h:RowIs w B l) (k:Nat)(hk:k≠B) (s:ByteArray) (pos:Nat):RowIs (w.iterAt k s pos) B l:=by
 obtain⟨C,fz,hB,hl,hc⟩:=h
 exact⟨C,fz,(Lib.iterAt_other w k B s pos (Ne.symm hk)).trans hB,hl,hc⟩
theorem RowIs.alloc {w:World}{B:Nat}{l:List UInt8}(h:RowIs w B l) (o:Obj):RowIs (w.alloc o) B l:=by
 obtain⟨C,fz,hB,hl,hc⟩:=h
 have hlt:B < w.heap.size:=(Array.getElem?_eq_some_iff.1 hB).1
 exact⟨C,fz,(Lib.alloc_old w o B hlt).trans hB,hl,hc⟩
theorem conv_back (w:World) (B cap n:Nat) (l:List UInt8)(hn:l.length=n)(h:RowIs w B l) :
  (convert 25 9 (.slice (some ⟨B,0,none⟩) n cap)).run Tryz.prog w=.ok (.string ⟨l.toArray⟩) w:=by
 subst hn
 exact run_convert_bytes_back w 25 9 5 ⟨B,0,none⟩ cap l Tryz.underlying25 Tryz.underlying5 Tryz.underlying9 (fun j hj=>by rw[show (⟨B,0,none⟩:Addr).add j=⟨B,j,none⟩ from by cases j <;> simp[Addr.add]];exact h.cell j hj)
theorem row_new (w:World) (s:ByteArray) (cap:Nat):RowIs (w.alloc (.cells (bytesRow s cap) 5 ((bytesRow s cap).size,(bytesRow s cap).size+1))) w.heap.size (bl s):=by
 refine⟨bytesRow s cap,((bytesRow s cap).size,(bytesRow s cap).size+1),?_,?_,fun j hj=>?_⟩
 ·show (w.heap.push _)[w.heap.size]?=_
  simp
 ·rw[bl_len]
  unfold bytesRow
  rw[Array.size_append,Array.size_map]
  exact Nat.le_add_right _ _
 ·rw[bytesRow_at s cap j (by rw[<-Array.length_toList];exact hj)]
  rfl
def mix (s:ByteArray) (pos:Nat):List UInt8:=lower ((bl s).take pos)++(bl s).drop pos
theorem mix_len (s:ByteArray) (pos:Nat):(mix s pos).length=s.size:=by
 unfold mix lower
 rw[List.length_append,List.length_map,<-List.length_append,List.take_append_drop,bl_len]
theorem mix_zero (s:ByteArray):mix s 0=bl s:=by simp[mix,lower]
theorem mix_end (s:ByteArray) (pos:Nat)(h:¬ pos < s.size):mix s pos=lower (bl s):=by
 unfold mix
 rw[drop_all s pos h,List.take_of_length_le (by rw[bl_len];omega),List.append_nil]
theorem mix_keep (s:ByteArray) (pos wd:Nat)(h:lower (((bl s).drop pos).take wd)=((bl s).drop pos).take wd):mix s (pos+wd)=mix s pos:=by
 unfold mix
 have e:(bl s).take (pos+wd)=(bl s).take pos++((bl s).drop pos).take wd:=List.take_add
 have h2:lower ((bl s).take pos++((bl s).drop pos).take wd)=lower ((bl s).take pos)++lower (((bl s).drop pos).take wd):=by simp[lower]
 rw[e,h2,h,List.append_assoc,<-List.drop_drop,List.take_append_drop]
theorem mix_set (s:ByteArray) (pos:Nat)(h:pos < (bl s).length):mix s (pos+1)=(mix s pos).set pos (low8 ((bl s)[pos])):=by
 unfold mix
 have e:(bl s).take (pos+1)=(bl s).take pos++[(bl s)[pos]]:=List.take_succ_eq_append_getElem h
 have h2:lower ((bl s).take pos++[(bl s)[pos]])=lower ((bl s).take pos)++[low8 ((bl s)[pos])]:=by simp[lower]
 have h3:(lower ((bl s).take pos)).length=pos:=by unfold lower;rw[List.length_map,List.length_take];omega
 rw[e,h2,List.set_append_right _ _ (by omega),h3,Nat.sub_self,List.drop_eq_getElem_cons h,List.set_cons_zero,List.append_assoc]
 rfl
theorem mix_at (s:ByteArray) (pos:Nat)(h:pos < (bl s).length)(h2:pos < (mix s pos).length):(mix s pos)[pos]=(bl s)[pos]:=by
 have h3:(lower ((bl s).take pos)).length=pos:=by unfold lower;rw[List.length_map,List.length_take];omega
 apply Option.some.inj
 rw[<-List.getElem?_eq_getElem,<-List.getElem?_eq_getElem]
 unfold mix
 rw[List.getElem?_append_right (by omega),h3,Nat.sub_self,List.getElem?_drop,Nat.add_zero]
theorem lower_any (s:ByteArray) (w:World) :
  Calls Tryz.prog 88 #[.string s] w fun e w'=>e=.returned (.string ⟨(lower (bl s)).toArray⟩)/\Below w.heap.size w w':=by
 have hcv:=fun (w:World) (s:ByteArray)=>run_bytes_of_string (P:=Tryz.prog) w 9 25 5 s Tryz.underlying9 Tryz.underlying25 Tryz.underlying5
 go_enter Tryz.func88,Tryz.ntmps88
 go_wp2
 clear hcv
 go_loopw [] (fun wr=>∃ (pos:Nat),pos<=s.size/\wr.heap[w.heap.size+1]?=some (.stringIter s pos)/\Below w.heap.size w wr/\RowIs wr w.heap.size (mix s pos)) (fun wr=>s.size - wr.iterPos (w.heap.size+1))
 case atStart =>
  refine⟨0,Nat.zero_le _,?_,(((Below.refl _ w).alloc (Nat.le_refl _) _).drew).alloc (by simp) _,?_⟩
  ·have:=World.iter_heap ((w.alloc (Obj.cells (bytesRow s (grownCap w s.size 0 5)) 5 ((bytesRow s (grownCap w s.size 0 5)).size,(bytesRow s (grownCap w s.size 0 5)).size+1))).drew) s 0
   simpa using this
  ·rw[mix_zero]
   exact (row_new w s _).alloc _
 case round =>
  obtain⟨pos,hp,hit,hbw,hrow⟩:=hrel
  by_cases hlt:pos < s.size
  ·obtain⟨r,wd,hw1,hw4,hwl,hr,hdl,hnx⟩:=next_some Tryz.prog wr (w.heap.size+1) s pos hit hlt
   have hit2:=Lib.iterAt_heap wr (w.heap.size+1) s pos (pos+wd) hit
   have hbw2:=Lib.below_iterAt hbw (k:=w.heap.size+1) (by omega) s (pos+wd)
   have hrow2:=hrow.iterAt (w.heap.size+1) (by omega) s (pos+wd)
   have hlh:=low_head _ (drop_ne s pos hlt)
   rw[hdl] at hlh
   clear hdl
   rcases hlh with⟨hu1,hu2,hwd,hra⟩ | ⟨hu,hlo⟩
   ·have hu1:65<=r:=hu1
    have hu2:r<=90:=hu2
    have hwd:wd=1:=hwd
    have hl:pos < (bl s).length:=by rw[bl_len];exact hlt
    have hml:pos < (mix s pos).length:=by rw[mix_len];exact hlt
    have hby:(bl s)[pos].toNat=r:=by
     rw[show r=atN ((bl s).drop pos) 0 from hra]
     unfold atN
     rw[List.getD_eq_getElem?_getD,List.getElem?_drop,Nat.add_zero,List.getElem?_eq_getElem hl]
     rfl
    have hce:=hrow2.cell pos hml
    rw[mix_at s pos hl hml,hby] at hce
    have hfz:=hrow2.frozen pos hml
    subst hwd
    have HBY:=hide hby
    clear hby hra
    have hne:w.heap.size+1≠w.heap.size:=by omega
    have HV:Hid ((r:Int)+32=((low8 (bl s)[pos]).toNat:Int)):=by
     show (r:Int)+32=((low8 (bl s)[pos]).toNat:Int)
     rw[low8_toNat,HBY.out]
     unfold lowN
     rw[if_pos ⟨hu1,hu2⟩]
     go_num
    go_wp2
    have hit3:∀ v,((wr.iterAt (w.heap.size+1) s (pos+1)).setCell ⟨w.heap.size,pos,none⟩ v).heap[w.heap.size+1]?=some (.stringIter s (pos+1)):=fun v=>(Below.heap_setCell _ _ _ _ hne).trans hit2
    refine⟨⟨pos+1,hwl,hit3 _,hbw2.setCell (Nat.le_refl _) _,?_⟩,?_⟩
    ·rw[HV.out,mix_set s pos hl]
     exact hrow2.set pos _
    ·simp only[World.iterPos,hit3,hit]
     omega
   ·have hu:¬ (65<=r/\r<=90):=hu
    rw[<-mix_keep s pos wd hlo] at hrow2
    clear hlo
    by_cases h65:65<=r
    ·have h90:¬ r<=90:=by omega
     go_wp2
     go_roundw
     case rel=>exact⟨pos+wd,hwl,hit2,hbw2,hrow2⟩
     case measure =>
      simp only[World.iterPos,hit2,hit]
      omega
    ·go_wp2
     go_roundw
     case rel=>exact⟨pos+wd,hwl,hit2,hbw2,hrow2⟩
     case measure =>
      simp only[World.iterPos,hit2,hit]
      omega
  ·have hnx:∀ ty,(Instr.next (.pointer (some ⟨w.heap.size+1,0,none⟩)) true ty).run Tryz.prog wr=_:=fun ty=>Lib.run_next_end_at wr (w.heap.size+1) s pos ty hit hlt
   rw[mix_end s pos hlt] at hrow
   have hcb:=conv_back wr w.heap.size (grownCap w s.size 0 5) s.size (lower (bl s)) (by unfold lower;rw[List.length_map];exact bl_len s) hrow
   go_wp2
   go_ret
   exact⟨rfl,hbw⟩
end Go.Proofs.YtkiofbikkhhdfabGreatDoor.Sy
namespace Go.Proofs.YtkiofbikkhhdfabGreatDoor.Sy
open Go.RowKit
open Utf1
end Go.Proofs.YtkiofbikkhhdfabGreatDoor.Sy
