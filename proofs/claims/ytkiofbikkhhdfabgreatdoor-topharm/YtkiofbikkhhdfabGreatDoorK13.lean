import Derived.Test.YtkiofbikkhhdfabGreatDoorK11
import Derived.Lib.AppendStr
import Derived.Lib.UnsafeStr
import Derived.RegionTactic
import Derived.Test.YtkiofbikkhhdfabGreatDoorK12
import Derived.Deep.LoopGhost
import Derived.Lib.FrozenHead
import Derived.Lib.OthersKept
namespace Go.Proofs.YtkiofbikkhhdfabGreatDoor.Dm
open Go.RowKit
open Utf1
def BB (w:World) (B:Nat) (ov pa bv x y:Value):Prop:=w.heap[B]?=some (.cells #[ov,pa,bv,x,y] 75 (0,0))
theorem blen_any (w:World) (B:Nat) (ov pa:Value) (p:Option Addr) (m c:Nat) (x y:Value)(h:BB w B ov pa (.slice p m c) x y) :
  Calls Tryz.prog 82 #[.pointer (some ⟨B,1,none⟩)] w fun e w'=>e=.returned (.int .i64 (m:Int))/\w'=w:=by
 have c2:w.cell? ⟨B,2,none⟩=some (.slice p m c):=tag_cell h 2 _ rfl
 clear h
 go_enter Tryz.func82,Tryz.ntmps82
 go_wp2_with fail
 go_ret
 exact⟨rfl,rfl⟩
theorem breset_any (w:World) (B:Nat) (ov pa bv x y:Value)(h:BB w B ov pa bv x y) :
  Calls Tryz.prog 83 #[.pointer (some ⟨B,1,none⟩)] w fun e w'=>e=.returned (.tuple #[])/\w'=(w.setCell ⟨B,1,none⟩ (.pointer none)).setCell ⟨B,2,none⟩ (.slice none 0 0):=by
 have c1:w.cell? ⟨B,1,none⟩=some pa:=tag_cell h 1 _ rfl
 have c2:w.cell? ⟨B,2,none⟩=some bv:=tag_cell h 2 _ rfl
 have f1:=tag_free h 1
 have f2:=tag_free h 2
 clear h
 go_enter Tryz.func83,Tryz.ntmps83
 go_wp2_with fail
 go_end0
 exact⟨rfl,rfl⟩
theorem sizeBuilder:(Tryz.prog.info? 71).map (·.size)=some 2:=by kernel_rfl
theorem liesBuilder:liesAt Tryz.prog Tryz.prog.depth 75 (5 / Tryz.prog.cellsOf 75) 1 71 1=true:=by kernel_rfl
theorem bb_shape {w:World}{B:Nat}{ov pa bv x y:Value}(h:BB w B ov pa bv x y):w.shape? B=some (75,5):=by
 unfold BB at h
 simp[World.shape?,h]
set_option maxRecDepth 100000 in
theorem bcheck_used (w:World) (B:Nat) (ov bv x y:Value)(h:BB w B ov (.pointer (some ⟨B,1,none⟩)) bv x y) :
  Calls Tryz.prog 97 #[.pointer (some ⟨B,1,none⟩)] w fun e w'=>e=.returned (.tuple #[])/\w'=w:=by
 obtain⟨j,hj,_⟩:=Option.map_eq_some_iff.1 sizeBuilder
 have c1:w.cell? ⟨B,1,none⟩=some (.pointer (some ⟨B,1,none⟩)):=tag_cell h 1 _ rfl
 clear h
 go_enter Tryz.func97,Tryz.ntmps97
 go_wp2_with fail
 rw[Lib.run_neq_ptr_same w _ Tryz.underlying69 hj]
 go_wp2
 go_end0
 exact⟨rfl,rfl⟩
set_option maxRecDepth 100000 in
theorem bcheck_none (w:World) (B:Nat) (ov bv x y:Value)(h:BB w B ov (.pointer none) bv x y) :
  Calls Tryz.prog 97 #[.pointer (some ⟨B,1,none⟩)] w fun e w'=>e=.returned (.tuple #[])/\w'=w.setCell ⟨B,1,none⟩ (.pointer (some ⟨B,1,none⟩)):=by
 obtain⟨j,hj,hjs⟩:=Option.map_eq_some_iff.1 sizeBuilder
 have hsh:=bb_shape h
 have c1:w.cell? ⟨B,1,none⟩=some (.pointer none):=tag_cell h 1 _ rfl
 have f1:=tag_free h 1
 clear h
 go_enter Tryz.func97,Tryz.ntmps97
 go_wp2_with fail
 rw[Lib.run_to_unsafe w ⟨B,1,none⟩ Tryz.underlying69 Tryz.underlying152 hj (by rw[hjs];decide) hsh (show 1 < 5 by decide)]
 simp only[Result.andThen]
 rw[Oper.upon_value]
 go_wp2_with fail
 rw[run_callFunc_extern Tryz.func126 (by kernel_rfl) (by kernel_rfl) (by kernel_rfl) (e:=Extern.AbiNoEscape.same) (by kernel_rfl)]
 rw[Lib.run_noEscape]
 simp only[Result.andThen]
 rw[Oper.upon_value]
 go_wp2_with fail
 rw[Lib.run_from_unsafe w ⟨B,1,none⟩ Tryz.underlying152 Tryz.underlying69 hj hsh liesBuilder]
 simp only[Result.andThen]
 rw[Oper.upon_value]
 go_wp2
 go_end0
 exact⟨rfl,rfl⟩
theorem infoByte:(Tryz.prog.info? 5).map (fun i=>(i.zero,i.size,i.bytes))=some (some (.int .u8 0),1,1):=by kernel_rfl
theorem bb_set {w:World}{B:Nat}{ov pa bv x y:Value}(h:BB w B ov pa bv x y) (v:Value):BB (w.setCell ⟨B,1,none⟩ v) B ov v bv x y/\BB (w.setCell ⟨B,2,none⟩ v) B ov pa v x y:=⟨tok_set h 1 v,tok_set h 2 v⟩
theorem stays_set {w:World}{B:Nat}{ov pa bv x y:Value}(h:BB w B ov pa bv x y) (j:Nat) (v:Value):Stays w (w.setCell ⟨B,j,none⟩ v) [B]:=by
 refine⟨by simp,fun k hk hS=>Below.heap_setCell _ _ _ _ (by simpa using hS),fun k hk cs fz e=>?_⟩
 have:k=B:=by simpa using hk
 subst this
 unfold BB at h
 rw[h] at e
 simp at e
theorem Stays.trans {a b c:World}{S T:List Nat}(h:Stays a b S)(h':Stays b c T)(hT:∀ k∈T,k < a.heap.size->∀ cs fz,a.heap[k]?≠some (.cells cs 108 fz)):Stays a c (S++T):=by
 refine⟨Nat.le_trans h.size h'.size,fun k hk hS=>?_,fun k hk cs fz e=>?_⟩
 ·have h1:k ∉ S:=fun h1=>hS (List.mem_append_left _ h1)
  have h2:k ∉ T:=fun h2=>hS (List.mem_append_right _ h2)
  exact (h'.block k (Nat.lt_of_lt_of_le hk h.size) h2).trans (h.block k hk h1)
 ·rcases List.mem_append.1 hk with hk | hk
  ·exact h.attr k hk cs fz e
  ·exact hT k hk (Array.getElem?_eq_some_iff.1 e).1 cs fz e
set_option maxRecDepth 100000 in
set_option maxHeartbeats 4000000 in
theorem bwrite_at (w0 w:World) (B base:Nat) (ov bv x y:Value) (l:List Value) (s:ByteArray)(hck:Calls Tryz.prog 97 #[.pointer (some ⟨B,1,none⟩)] w0 fun e w'=>e=.returned (.tuple #[])/\w'=w)(h:BB w B ov (.pointer (some ⟨B,1,none⟩)) bv x y)(hown:w.ownsRow base 5 1 bv l.length l)(hl:l.length+s.size<=100000000)(hbB:base<=B) :
  Calls Tryz.prog 59 #[.pointer (some ⟨B,1,none⟩),.string s] w0 fun e w'=>e=.returned (.tuple #[.int .i64 (s.size:Int),.nilIface])/\∃ bv',BB w' B ov (.pointer (some ⟨B,1,none⟩)) bv' x y/\w'.ownsRow base 5 1 bv' (l.length+s.size) (l++Lib.strCells s)/\Stays w w' (B :: blk bv)/\Below base w w':=by
 obtain⟨i0,hi,hz0,hz1,hz2⟩:=info_parts infoByte
 have HC:=hide hck
 clear hck
 obtain⟨bp,bm,bc,rfl⟩:=own_slice hown
 have c2:w.cell? ⟨B,2,none⟩=some (.slice bp bm bc):=tag_cell h 2 _ rfl
 have hBl:B < w.heap.size:=lt_of_block h
 have HB:=hide h
 have HO:=hide hown
 clear h hown
 go_enter Tryz.func59,Tryz.ntmps59
 go_wp2_with fail
 refine HC.out.mono ?_
 rintro e w1 ⟨rfl,rfl⟩
 clear HC
 go_wp2_with (at_builtin;refine Lib.wpList_append_own_string _ rfl _ _ 25 9 rfl base 5 i0 Tryz.underlying25 Tryz.underlying9 hi hz0 hz1 hz2 (.slice bp bm bc) l.length l rfl HO.out s rfl (by unfold maxLen;omega) (by omega) (by omega) ?_)
 intro v' w2 hown2 hgr2 _
 have hap:=own_apart HO.out HB.out (by decide)
 have hb2:BB w2 B ov (.pointer (some ⟨B,1,none⟩)) (.slice bp bm bc) x y:=(hgr2.block _ hBl (fun e=>hap e.symm)).trans HB.out
 have d2:w2.cell? ⟨B,2,none⟩=some (.slice bp bm bc):=tag_cell hb2 2 _ rfl
 have g2:=tag_free hb2 2
 obtain⟨vp,vm,vc,rfl⟩:=own_slice hown2
 have HX:Hid (BB (w2.setCell ⟨B,2,none⟩ (.slice vp vm vc)) B ov (.pointer (some ⟨B,1,none⟩)) (.slice vp vm vc) x y/\(w2.setCell ⟨B,2,none⟩ (.slice vp vm vc)).ownsRow base 5 1 (.slice vp vm vc) (l.length+s.size) (l++Lib.strCells s)/\Stays w1 (w2.setCell ⟨B,2,none⟩ (.slice vp vm vc)) (B :: blk (.slice bp bm bc))/\Below base w1 (w2.setCell ⟨B,2,none⟩ (.slice vp vm vc))):=hide (by
  refine⟨(bb_set hb2 _).2,own_set hown2 hb2 (by decide) 2 _,⟨?_,?_,?_⟩,?_⟩
  ·simpa using hgr2.size
  ·intro k hk hS
   have h1:k≠B:=fun e=>hS (by rw[e];exact List.mem_cons_self ..)
   rw[Below.heap_setCell _ _ _ _ (by simpa using h1)]
   refine hgr2.block k hk fun e=>hS (List.mem_cons_of_mem _ ?_)
   unfold blk
   rw[<-e]
   simp
  ·intro k hk cs fz e
   rcases List.mem_cons.1 hk with rfl | hk
   ·have:=HB.out
    unfold BB at this
    rw[this] at e
    simp at e
   ·have h2:(Value.slice bp bm bc).ownBlock=some k:=by
     unfold blk at hk
     simpa using hk
    exact own_apart HO.out e (by decide) h2
  ·have hg:Below base w1 w2:=(Below.refl base w1).grown hgr2 (by omega) (fun j hj=>(HO.out.lt j hj).1)
   exact hg.setCell (p:=⟨B,2,none⟩) hbB _)
 clear hown2 hgr2 hap hb2 HB HO
 go_wp2_with fail
 go_ret2
 exact⟨rfl,_,HX.out⟩
def Wait (w:World) (base B:Nat) (pa bv:Value) (t:List UInt8):Prop:=(pa=.pointer none\/pa=.pointer (some ⟨B,1,none⟩))/\w.ownsRow base 5 1 bv (Lib.byteCells t).length (Lib.byteCells t)
theorem byte_app (a b:List UInt8):Lib.byteCells (a++b)=Lib.byteCells a++Lib.byteCells b:=by simp[Lib.byteCells]
theorem byte_len (a:List UInt8):(Lib.byteCells a).length=a.length:=by simp[Lib.byteCells]
theorem bwrite_any (w:World) (B base:Nat) (ov pa bv x y:Value) (t:List UInt8) (s:ByteArray)(h:BB w B ov pa bv x y)(hw:Wait w base B pa bv t)(hl:t.length+s.size<=100000000)(hbB:base<=B) :
  Calls Tryz.prog 59 #[.pointer (some ⟨B,1,none⟩),.string s] w fun e w'=>e=.returned (.tuple #[.int .i64 (s.size:Int),.nilIface])/\∃ pa' bv',BB w' B ov pa' bv' x y/\Wait w' base B pa' bv' (t++bl s)/\Stays w w' (B :: blk bv)/\Below base w w':=by
 have hlen:(Lib.byteCells t).length+s.size<=100000000:=by rw[byte_len];exact hl
 have hfin:∀ {w':World}{bv':Value},w'.ownsRow base 5 1 bv' ((Lib.byteCells t).length+s.size) (Lib.byteCells t++Lib.strCells s)->w'.ownsRow base 5 1 bv' (Lib.byteCells (t++bl s)).length (Lib.byteCells (t++bl s)):=by
  intro w' bv' h
  rw[byte_app,List.length_append,byte_len (bl s),bl_len]
  exact h
 obtain⟨hp | hp,hown⟩:=hw
 ·subst hp
  have h1:=(bb_set h (.pointer (some ⟨B,1,none⟩))).1
  refine (bwrite_at w _ B base ov bv x y _ s (bcheck_none w B ov bv x y h) h1 (own_set hown h (by decide) 1 _) hlen hbB).mono ?_
  rintro e w' ⟨rfl,bv',h2,h3,h4,h5⟩
  have hst:=stays_set h 1 (.pointer (some ⟨B,1,none⟩))
  refine⟨rfl,_,bv',h2,⟨.inr rfl,hfin h3⟩,?_,((Below.refl base w).setCell (p:=⟨B,1,none⟩) hbB _).trans h5⟩
  have h6:=hst.trans h4 (by
   intro k hk hkl cs fz e
   rcases List.mem_cons.1 hk with rfl | hk
   ·unfold BB at h
    rw[h] at e
    simp at e
   ·have h2:bv.ownBlock=some k:=by
     unfold blk at hk
     simpa using hk
    exact own_apart hown e (by decide) h2)
  exact⟨h6.size,fun k hk hS=>h6.block k hk (by simpa using hS),fun k hk=>h6.attr k (by simpa using hk)⟩
 ·subst hp
  refine (bwrite_at w w B base ov bv x y _ s (bcheck_used w B ov bv x y h) h hown hlen hbB).mono ?_
  rintro e w' ⟨rfl,bv',h2,h3,h4,h5⟩
  exact⟨rfl,_,bv',h2,⟨.inr rfl,hfin h3⟩,h4,h5⟩
end Go.Proofs.YtkiofbikkhhdfabGreatDoor.Dm
namespace Go.Proofs.YtkiofbikkhhdfabGreatDoor.Dm
open Go.RowKit
open Utf1
theorem cellsByte:Tryz.prog.cellsOf 5=1:=by kernel_rfl
set_option maxRecDepth 100000 in
set_option maxHeartbeats 2000000 in
theorem bstring_any (w:World) (B base:Nat) (ov pa bv x y:Value) (t:List UInt8)(h:BB w B ov pa bv x y)(hw:Wait w base B pa bv t)(h0:t≠[]) :
  Calls Tryz.prog 60 #[.pointer (some ⟨B,1,none⟩)] w fun e w'=>e=.returned (.string ⟨t.toArray⟩)/\BB w' B ov pa bv x y/\Stays w w' (blk bv)/\Below base w w':=by
 have hown:=hw.2
 have hl0:t.length≠0:=by simpa using h0
 rw[byte_len] at hown
 obtain⟨g,cap,cur,rfl,hbg,hg,hnc,hcm,hcs,htake⟩:∃ g cap cur,bv=.slice (some ⟨g,0,none⟩) t.length cap/\base<=g/\w.heap[g]?=some (.cells cur 5 (0,0))/\t.length<=cap/\cap<=maxLen/\cur.size=cap*1/\cur.toList.take (t.length*1)=Lib.byteCells t:=by
  rcases hown.2 with⟨_,hz⟩ | ⟨g,cap,cur,hv,r⟩
  ·exact absurd hz hl0
  ·exact⟨g,cap,cur,hv,r⟩
 have c2:w.drew.cell? ⟨B,2,none⟩=some (.slice (some ⟨g,0,none⟩) t.length cap):=tag_cell h 2 _ rfl
 have hSD:(Builtin.unsafeSliceData_ #[25] 129 #[.slice (some ⟨g,0,none⟩) t.length cap]).run Tryz.prog w.drew=.ok (.pointer (some ⟨g,0,none⟩)) w.drew :=
  Lib.run_unsafeSliceData_row _ _ _ _ _ _ (by omega)
 have hUS:(Builtin.unsafeString_ #[129,3] 9 #[.pointer (some ⟨g,0,none⟩),.int .i64 t.length]).run Tryz.prog w.drew=.ok (.string ⟨t.toArray⟩) (w.drew.freeze ⟨g,0,none⟩ t.length):=by
  refine Lib.run_unsafeString_row w.drew 129 3 9 5 Tryz.underlying129 cellsByte g cur.size (by have hg':w.drew.heap[g]?=some (.cells cur 5 (0,0)):=hg;simp[World.shape?,hg']) t h0 (by omega) (by unfold maxLen at hcm;omega) ?_
  intro j x hx
  have:=hown.cells (g:=g) rfl j (.int .u8 x.toNat) (by simp[Lib.byteCells,hx])
  exact this
 have HB:=hide h
 have HO:=hide hown
 have hap:=own_apart hown h (by decide)
 have HF:Hid (BB (w.drew.freeze ⟨g,0,none⟩ t.length) B ov pa (.slice (some ⟨g,0,none⟩) t.length cap) x y/\Stays w (w.drew.freeze ⟨g,0,none⟩ t.length) (blk (.slice (some ⟨g,0,none⟩) t.length cap))/\Below base w (w.drew.freeze ⟨g,0,none⟩ t.length)):=hide (by
  have hb:=Lib.below_freeze (Below.drew (Below.refl base w)) (p:=⟨g,0,none⟩) hbg t.length
  have hne:∀ k,k≠g->(w.drew.freeze ⟨g,0,none⟩ t.length).heap[k]?=w.heap[k]?:=by
   intro k hk
   unfold World.freeze
   simp only[h0,List.length_eq_zero_iff,if_false]
   show (w.heap.modify g _)[k]?=_
   rw[Array.getElem?_modify,if_neg (Ne.symm hk)]
  refine⟨(hne B (fun e=>hap (by rw[e];rfl))).trans h,⟨hb.size,fun k _ hS=>hne k (fun e=>hS (by rw[e];simp[blk,Value.ownBlock])),?_⟩,hb⟩
  intro k hk cs fz e
  have:k=g:=by simpa [blk,Value.ownBlock] using hk
  subst this
  rw[hg] at e
  simp at e)
 clear hw h hown hap hg htake hcs
 go_enter Tryz.func60,Tryz.ntmps60
 go_wp2_with fail
 go_region
 all_goals (go_wp2_with fail;go_ret;exact⟨rfl,HF.out⟩)
end Go.Proofs.YtkiofbikkhhdfabGreatDoor.Dm
namespace Go.Proofs.YtkiofbikkhhdfabGreatDoor.Dm
open Go.RowKit
theorem append_fresh {P:Program}(w:World) (base:Nat) (t ty e:TypeId) (i:TypeInfo) (z:Value) (size bytes:Nat)(ht:P.underlying t=some (.slice e))(hi:P.info? e=some i)(hz:i.zero=some z)
  (hsize:i.size=size)(hby:i.bytes=bytes) (v:Value) (n:Nat) (xs:List Value)(hown:w.ownsRow base e size v n xs)
  (a:Addr) (m c:Nat) (news:List Value)(hl:news.length=m*size)(hnews:∀ j u,news[j]?=some u->w.cell? (a.add j)=some u)(h1:∀ u∈news,u.oneCell'=true)
  (h63:n+m<=maxLen)(hbytes:(n+m)*bytes<=140737488355328)(hm:0 < m) {v':Value}{w':World}(hr:(Builtin.append_ #[t,t] ty #[v,.slice (some a) m c]).run P w=.ok v' w') :
  v'.ownBlock=v.ownBlock\/v'.ownBlock=some w.heap.size:=by
 subst hsize hby
 have hsmall:n+m<=9223372036854775807:=by simp only[maxLen] at h63;omega
 rcases hown.2 with⟨rfl,rfl⟩ | ⟨g,cap,cur,rfl,hbg,hg,hnc,hcm,hcs,htake⟩
 ·rw[run_append_nil (P:=P) w t ty e i z ht hi hz a m c news hl hnews hm (by omega) (by have hb:=hbytes;simp only[Nat.zero_add] at hb;omega)] at hr
  cases hr
  exact .inr rfl
 ·by_cases hroom:n+m<=cap
  ·have hfit:n*i.size+news.length<=cur.size:=by rw[hl,hcs,<-Nat.add_mul];exact Nat.mul_le_mul_right _ hroom
   rw[run_append_room (P:=P) w t ty e i ht hi g n cap cur hg a m c news hl hnews h1 hroom hfit] at hr
   cases hr
   exact .inl rfl
  ·have holds:∀ j u,xs[j]?=some u->w.cell? ((⟨g,0,none⟩:Addr).add j)=some u:=hown.cells (g:=g) rfl
   rw[run_append_grow (P:=P) w t ty e i z ht hi hz ⟨g,0,none⟩ n cap xs hown.1 holds a m c news hl hnews (by omega) (by omega) (growslice_fits (by omega) hbytes)] at hr
   cases hr
   exact .inr rfl
theorem wp_append_new {P:Program}{w:World}{o:Oper}{a:Act}{K:Act->World->Prop}{Q:Exit->Act->World->Prop}(s x:Operand) (t:TypeId)
  (ho:o.op=.call { callee:=.builtin .append,args:=#[s,x],argTypes:=#[t,t] })
  (base:Nat) (e:TypeId) (i:TypeInfo) (z:Value) (size bytes:Nat)(ht:P.underlying t=some (.slice e))(hi:P.info? e=some i)(hz:i.zero=some z)
  (hsize:i.size=size)(hby:i.bytes=bytes)(hzs:z.cells.size=size)(hsz:0 < size)
  (v:Value) (n:Nat) (xs:List Value)(hs:a.eval s=v)(hown:w.ownsRow base e size v n xs)
  (ad:Addr) (m c:Nat) (news:List Value)(hx:a.eval x=.slice (some ad) m c)(hl:news.length=m*size)(hnews:∀ j u,news[j]?=some u->w.cell? (ad.add j)=some u)(h1:∀ u∈news,u.oneCell'=true)
  (h63:n+m<=maxLen)(hbytes:(n+m)*bytes<=140737488355328)(hbase:base<=w.heap.size)(hm:0 < m)
  (h:∀ v' w',w'.ownsRow base e size v' (n+m) (xs++news)->w.grownBy w' v.ownBlock->(v'.ownBlock=v.ownBlock\/v'.ownBlock=some w.heap.size)->K (a.put o.dst v') w'):o.wp P a w K Q:=by
 obtain⟨v',w',hr,h2,h3,-⟩:=run_append_own (P:=P) w base t o.type e i z size bytes ht hi hz hsize hby hzs hsz v n xs hown ad m c news hl hnews h1 h63 hbytes hbase
 have hf:=append_fresh w base t o.type e i z size bytes ht hi hz hsize hby v n xs hown ad m c news hl hnews h1 h63 hbytes hm hr
 unfold Oper.wp execOp
 simp only[ho,resolve,invoke,builtin,Sem.run_bind,Sem.run_pure,Result.andThen_ok,List.map_toArray,List.map_cons,List.map_nil,hs,hx,hr]
 exact h v' w' h2 h3 hf
end Go.Proofs.YtkiofbikkhhdfabGreatDoor.Dm
namespace Go.Proofs.YtkiofbikkhhdfabGreatDoor.Sy
open Go.RowKit Go.WideMaps
open Utf1 Sty
def tellV (Hb:Nat):Value:=.func (.func 137) #[] #[.pointer (some ⟨Hb,0,none⟩),.pointer (some ⟨Hb+1,0,none⟩),.pointer (some ⟨Hb+3,0,none⟩)]
theorem stay_semi (props:List L) (p r:L)(h:(59:UInt8) ∉ p):stay props (p++59 :: r)=(pp p).toList.filter (keep props)++stay props r:=by
 unfold stay prts
 rw[segs_semi p r h]
 cases hp:pp p with
 | none=>rw[List.filterMap_cons_none hp];simp
 | some x=>rw[List.filterMap_cons_some hp,List.filter_cons];simp[List.filter_cons];split <;> simp
theorem stay_end (props:List L) (p:L)(h:(59:UInt8) ∉ p):stay props p=(pp p).toList.filter (keep props):=by
 unfold stay prts
 rw[segs_end p h]
 cases hp:pp p with
 | none=>rw[List.filterMap_cons_none hp];simp
 | some x=>rw[List.filterMap_cons_some hp];simp
theorem pp_none (p:L)(h:(58:UInt8) ∉ p):(pp p).toList=[]:=by
 unfold pp
 rw[part_none p h]
 rfl
theorem pp_some (a b:L)(h:(58:UInt8) ∉ a):(pp (a++58 :: b)).toList=[(pl a,pl b)]:=by
 unfold pp
 rw[part_some a b h]
 rfl
theorem filter_len (f:NV->Bool) (x:NV):([x].filter f).length<=1:=by
 rw[List.filter_cons]
 split <;> simp
theorem part_told (Hb:Nat) (v:Value) (ss:List ByteArray) (st:List NV) (A B:ByteArray) (w0 w:World)(h0:w0.heap.size=Hb)(hi:Inv Hb v st w)(hv:StrArg w0 v ss)(hb:Below Hb w0 w)(hA:A.size<=100000)(hB:B.size<=100000)(hst:st.length<=100000)(hl:ss.length<=100000) :
  Calls Tryz.prog 137 #[.string ⟨(pl (bl A)).toArray⟩,.string ⟨(pl (bl B)).toArray⟩,.pointer (some ⟨Hb,0,none⟩),.pointer (some ⟨Hb+1,0,none⟩),.pointer (some ⟨Hb+3,0,none⟩)] w fun e w'=>e=.returned (.tuple #[])/\Inv Hb v (st++[(pl (bl A),pl (bl B))].filter (keep (ss.map bl))) w'/\Below Hb w w':=by
 have h1:=pl_len (bl A)
 have h2:=pl_len (bl B)
 rw[bl_len] at h1 h2
 exact tell_any Hb v ss st ⟨(pl (bl A)).toArray⟩ ⟨(pl (bl B)).toArray⟩ w hi (hv.below (by rw[h0];exact hb)) (by rw[size_mk];omega) (by rw[size_mk];omega) hst hl
set_option maxRecDepth 100000 in
set_option maxHeartbeats 8000000 in
theorem each_any (Hb:Nat) (v:Value) (ss:List ByteArray) (s:ByteArray) (w0 w:World)(h0:w0.heap.size=Hb)(hi:Inv Hb v [] w)(hv:StrArg w0 v ss)(hb:Below Hb w0 w)(hs:s.size<=90000)(hl:ss.length<=100000) :
  Calls Tryz.prog 136 #[.string s,tellV Hb] w fun e w'=>e=.returned (.tuple #[])/\Inv Hb v (stay (ss.map bl) (bl s)) w'/\Below Hb w w':=by
 unfold tellV
 have HV:=hide hv
 have HB:=hide hb
 have HI:=hide hi
 clear hv hb hi
 go_enter Tryz.func136,Tryz.ntmps136
 go_wp2_with fail
 go_loopg [0,4] (s.size+1) (fun g v0 v4 wr=>∃ (S:ByteArray) (m:Bool) (st:List NV),v0=.string S/\v4=.bool m/\S.size<=s.size/\st.length+S.size<=s.size+1/\(m=true->S.size+1<=g/\st.length+S.size<=s.size)/\Hid (Inv Hb v st wr/\Below Hb w wr/\stay (ss.map bl) (bl s)=st++(if m=true then stay (ss.map bl) (bl S) else [])))
 case atStart=>exact⟨s,true,[],rfl,rfl,Nat.le_refl _,by simp,fun _=>⟨Nat.le_refl _,by simp⟩,hide ⟨HI.out,Below.refl _ _,rfl⟩⟩
 case round =>
  obtain⟨S,m,st,rfl,rfl,hS,hlen,hm,HR⟩:=hrel
  clear HI
  cases m with
  | false =>
   clear hm
   have HE:Hid (stay (ss.map bl) (bl s)=st):=hide (by have:=HR.out.2.2;simpa using this)
   go_wp2_with fail
   go_end0
   rw[HE.out]
   exact⟨rfl,HR.out.1,HR.out.2.1⟩
  | true =>
   obtain⟨hg,hlen2⟩:=hm rfl
   clear hm
   have HST:Hid (stay (ss.map bl) (bl s)=st++stay (ss.map bl) (bl S)):=hide (by have:=HR.out.2.2;simpa using this)
   by_cases hsemi:(59:UInt8)∈bl S
   ·obtain⟨A,B,hAB,hnA⟩:=split_ba S 59 hsemi
    have hsz:S.size=A.size+1+B.size:=by
     have:=congrArg List.length hAB
     rw[bl_len,List.length_append,List.length_cons,bl_len,bl_len] at this
     omega
    have cc:=fun w=>cut_some S 59 A B hAB hnA (by omega) w
    have HST2:Hid (stay (ss.map bl) (bl s)=st++((pp (bl A)).toList.filter (keep (ss.map bl))++stay (ss.map bl) (bl B))):=hide (by rw[HST.out,hAB,stay_semi _ _ _ hnA])
    have HSZ:=hide hsz
    clear hAB hnA hsemi HST hsz
    by_cases hcol:(58:UInt8)∈bl A
    ·obtain⟨N,V,hNV,hnN⟩:=split_ba A 58 hcol
     have hszA:A.size=N.size+1+V.size:=by
      have:=congrArg List.length hNV
      rw[bl_len,List.length_append,List.length_cons,bl_len,bl_len] at this
      omega
     have cd:=fun w=>cut_some A 58 N V hNV hnN (by have:=HSZ.out;omega) w
     have cn:=fun w=>plain_any N (by have:=HSZ.out;omega) w
     have cv:=fun w=>plain_any V (by have:=HSZ.out;omega) w
     have HST3:Hid (stay (ss.map bl) (bl s)=(st++[(pl (bl N),pl (bl V))].filter (keep (ss.map bl)))++stay (ss.map bl) (bl B)):=hide (by rw[HST2.out,hNV,pp_some _ _ hnN,List.append_assoc])
     have HT:Hid (∀ wx,Below wr.heap.size wr wx->Calls Tryz.prog 137 #[.string ⟨(pl (bl N)).toArray⟩,.string ⟨(pl (bl V)).toArray⟩,.pointer (some ⟨Hb,0,none⟩),.pointer (some ⟨Hb+1,0,none⟩),.pointer (some ⟨Hb+3,0,none⟩)] wx fun e w'=>e=.returned (.tuple #[])/\Hid (Inv Hb v (st++[(pl (bl N),pl (bl V))].filter (keep (ss.map bl))) w'/\Below Hb w w')):=hide (by
      intro wx hx
      have hwx:Below Hb w wx:=HR.out.2.1.trans (hx.mono (by have:=HR.out.1.lt;omega))
      refine (part_told Hb v ss st N V w0 wx h0 (HR.out.1.keep hx) HV.out (HB.out.trans hwx) (by have:=HSZ.out;omega) (by have:=HSZ.out;omega) (by omega) hl).mono ?_
      rintro e w' ⟨h1,h2,h3⟩
      exact⟨h1,hide ⟨h2,hwx.trans h3⟩⟩)
     have HLN:Hid ((st++[(pl (bl N),pl (bl V))].filter (keep (ss.map bl))).length+B.size<=s.size):=hide (by
      have h1:=filter_len (keep (ss.map bl)) (pl (bl N),pl (bl V))
      have h2:=HSZ.out
      rw[List.length_append]
      omega)
     have hBs:B.size+1<=gk - 1:=by have:=HSZ.out;omega
     have hBS:B.size<=s.size:=by have:=HSZ.out;omega
     clear hNV hnN hcol HST2 HR hszA HSZ
     generalize (⟨(pl (bl N)).toArray⟩:ByteArray)=PN at cn HT
     generalize (⟨(pl (bl V)).toArray⟩:ByteArray)=PV at cv HT
     go_wp2_with fail
     refine (cc _).mono ?_
     rintro e w1 ⟨rfl,hb1⟩
     go_wp2_with fail
     refine (cd _).mono ?_
     rintro e w2 ⟨rfl,hb2⟩
     go_wp2_with fail
     refine (cn _).mono ?_
     rintro e w3 ⟨rfl,hb3⟩
     go_wp2_with fail
     refine (cv _).mono ?_
     rintro e w4 ⟨rfl,hb4⟩
     have HT4:=hide (HT.out w4 (bel2 (bel2 (bel2 hb1 hb2) hb3) hb4))
     clear hb1 hb2 hb3 hb4 HT cc cd cn cv
     go_wp2_with fail
     refine HT4.out.mono ?_
     rintro e w5 ⟨rfl,HR5⟩
     clear HT4
     go_wp2_with fail
     go_roundg (gk - 1)
     case measure=>omega
     case rel=>exact⟨B,true,st++[(pl (bl N),pl (bl V))].filter (keep (ss.map bl)),rfl,rfl,hBS,by have:=HLN.out;omega,fun _=>⟨hBs,HLN.out⟩,hide ⟨HR5.out.1,HR5.out.2,by rw[if_pos rfl];exact HST3.out⟩⟩
    ·have cd:=fun w=>cut_none A 58 hcol w
     have HST3:Hid (stay (ss.map bl) (bl s)=st++stay (ss.map bl) (bl B)):=hide (by rw[HST2.out,pp_none _ hcol];rfl)
     have hBs:B.size+1<=gk - 1:=by have:=HSZ.out;omega
     have hBS:B.size<=s.size:=by have:=HSZ.out;omega
     have hLN:st.length+B.size<=s.size:=by have:=HSZ.out;omega
     clear hcol HST2 HSZ
     go_wp2_with fail
     refine (cc _).mono ?_
     rintro e w1 ⟨rfl,hb1⟩
     go_wp2_with fail
     refine (cd _).mono ?_
     rintro e w2 ⟨rfl,hb2⟩
     have HR2:=hide (And.intro (HR.out.1.keep (bel2 hb1 hb2)) (HR.out.2.1.trans ((bel2 hb1 hb2).mono (by have:=HR.out.1.lt;omega))))
     clear hb1 hb2 HR cc cd
     go_wp2_with fail
     go_roundg (gk - 1)
     case measure=>omega
     case rel=>exact⟨B,true,st,rfl,rfl,hBS,by omega,fun _=>⟨hBs,hLN⟩,hide ⟨HR2.out.1,HR2.out.2,by rw[if_pos rfl];exact HST3.out⟩⟩
   ·have cc:=fun w=>cut_none S 59 hsemi w
    have HST2:Hid (stay (ss.map bl) (bl s)=st++(pp (bl S)).toList.filter (keep (ss.map bl))):=hide (by rw[HST.out,stay_end _ _ hsemi])
    clear hsemi HST
    by_cases hcol:(58:UInt8)∈bl S
    ·obtain⟨N,V,hNV,hnN⟩:=split_ba S 58 hcol
     have hszA:S.size=N.size+1+V.size:=by
      have:=congrArg List.length hNV
      rw[bl_len,List.length_append,List.length_cons,bl_len,bl_len] at this
      omega
     have cd:=fun w=>cut_some S 58 N V hNV hnN (by omega) w
     have cn:=fun w=>plain_any N (by omega) w
     have cv:=fun w=>plain_any V (by omega) w
     have HST3:Hid (stay (ss.map bl) (bl s)=(st++[(pl (bl N),pl (bl V))].filter (keep (ss.map bl)))++[]):=hide (by rw[HST2.out,hNV,pp_some _ _ hnN,List.append_nil])
     have HT:Hid (∀ wx,Below wr.heap.size wr wx->Calls Tryz.prog 137 #[.string ⟨(pl (bl N)).toArray⟩,.string ⟨(pl (bl V)).toArray⟩,.pointer (some ⟨Hb,0,none⟩),.pointer (some ⟨Hb+1,0,none⟩),.pointer (some ⟨Hb+3,0,none⟩)] wx fun e w'=>e=.returned (.tuple #[])/\Hid (Inv Hb v (st++[(pl (bl N),pl (bl V))].filter (keep (ss.map bl))) w'/\Below Hb w w')):=hide (by
      intro wx hx
      have hwx:Below Hb w wx:=HR.out.2.1.trans (hx.mono (by have:=HR.out.1.lt;omega))
      refine (part_told Hb v ss st N V w0 wx h0 (HR.out.1.keep hx) HV.out (HB.out.trans hwx) (by omega) (by omega) (by omega) hl).mono ?_
      rintro e w' ⟨h1,h2,h3⟩
      exact⟨h1,hide ⟨h2,hwx.trans h3⟩⟩)
     have HLN:Hid ((st++[(pl (bl N),pl (bl V))].filter (keep (ss.map bl))).length<=s.size+1):=hide (by
      have h1:=filter_len (keep (ss.map bl)) (pl (bl N),pl (bl V))
      rw[List.length_append]
      omega)
     have hgp:1<=gk:=by omega
     clear hNV hnN hcol HST2 HR hszA
     generalize (⟨(pl (bl N)).toArray⟩:ByteArray)=PN at cn HT
     generalize (⟨(pl (bl V)).toArray⟩:ByteArray)=PV at cv HT
     go_wp2_with fail
     refine (cc _).mono ?_
     rintro e w1 ⟨rfl,hb1⟩
     go_wp2_with fail
     refine (cd _).mono ?_
     rintro e w2 ⟨rfl,hb2⟩
     go_wp2_with fail
     refine (cn _).mono ?_
     rintro e w3 ⟨rfl,hb3⟩
     go_wp2_with fail
     refine (cv _).mono ?_
     rintro e w4 ⟨rfl,hb4⟩
     have HT4:=hide (HT.out w4 (bel2 (bel2 (bel2 hb1 hb2) hb3) hb4))
     clear hb1 hb2 hb3 hb4 HT cc cd cn cv
     go_wp2_with fail
     refine HT4.out.mono ?_
     rintro e w5 ⟨rfl,HR5⟩
     clear HT4
     go_wp2_with fail
     go_roundg (gk - 1)
     case measure=>omega
     case rel=>exact⟨⟨#[]⟩,false,st++[(pl (bl N),pl (bl V))].filter (keep (ss.map bl)),rfl,rfl,Nat.zero_le _,(show _+0<=_ from HLN.out),(fun h=>by cases h),hide ⟨HR5.out.1,HR5.out.2,by rw[if_neg (by decide)];exact HST3.out⟩⟩
    ·have cd:=fun w=>cut_none S 58 hcol w
     have HST3:Hid (stay (ss.map bl) (bl s)=st++[]):=hide (by rw[HST2.out,pp_none _ hcol];rfl)
     have hgp:1<=gk:=by omega
     have hLN:st.length<=s.size+1:=by omega
     clear hcol HST2
     go_wp2_with fail
     refine (cc _).mono ?_
     rintro e w1 ⟨rfl,hb1⟩
     go_wp2_with fail
     refine (cd _).mono ?_
     rintro e w2 ⟨rfl,hb2⟩
     have HR2:=hide (And.intro (HR.out.1.keep (bel2 hb1 hb2)) (HR.out.2.1.trans ((bel2 hb1 hb2).mono (by have:=HR.out.1.lt;omega))))
     clear hb1 hb2 HR cc cd
     go_wp2_with fail
     go_roundg (gk - 1)
     case measure=>omega
     case rel=>exact⟨⟨#[]⟩,false,st,rfl,rfl,Nat.zero_le _,(show _+0<=_ from hLN),(fun h=>by cases h),hide ⟨HR2.out.1,HR2.out.2,by rw[if_neg (by decide)];exact HST3.out⟩⟩
end Go.Proofs.YtkiofbikkhhdfabGreatDoor.Sy
namespace Go.Proofs.YtkiofbikkhhdfabGreatDoor.Sy
open Go.RowKit Go.WideMaps
open Utf1 Sty
theorem bat_keep {T e:TypeId}{B b:Nat}{p:Value}{bs:List Value}{w w':World}(h:Lib.BuilderAtF T e B b p bs w)(hb:Below w.heap.size w w'):Lib.BuilderAtF T e B b p bs w':=by
 have hl:=h.lt
 obtain⟨h1,v,h2,h3,h4⟩:=h
 exact⟨h1,v,(hb.block b hl).trans h2,h3.kept (row:=none) (below_grown hb) (Classical.em _),h4⟩
def PB (w0 w:World) (acc:List UInt8):Prop:=Lib.IsBuilderF 71 5 w0.heap.size w0.heap.size (Lib.byteCells acc) w
theorem PB.keep {w0 w w':World}{acc:List UInt8}(h:PB w0 w acc)(hb:Below w.heap.size w w'):PB w0 w' acc :=
 h.elim (fun x=>.inl (bat_keep x hb)) (fun x=>.inr (bat_keep x hb))
theorem PB.lt {w0 w:World}{acc:List UInt8}(h:PB w0 w acc):w0.heap.size < w.heap.size:=h.elim (fun x=>x.lt) (fun x=>x.lt)
theorem ws_st (w0 w:World) (acc:List UInt8) (s:ByteArray)(hb:Below w0.heap.size w0 w)(hu:PB w0 w acc)(hl:acc.length+s.size<=1000000000) :
  Calls Tryz.prog 59 #[.pointer (some ⟨w0.heap.size,0,none⟩),.string s] w fun e w'=>e=.returned (.tuple #[.int .i64 s.size,.nilIface])/\Hid (PB w0 w' (acc++bl s)/\Below w0.heap.size w0 w'/\Lib.OthersKept 5 (some w0.heap.size) w w'):=by
 refine (Tryz.Builder_WriteString_k w0.heap.size w0.heap.size _ s w hu (by rw[Lib.byteCells_length];omega) hb.size).mono ?_
 rintro e w' ⟨rfl,h1,b1,k1⟩
 refine⟨rfl,hide ⟨.inr ?_,hb.trans b1,k1⟩⟩
 have e:Lib.byteCells (acc++bl s)=Lib.byteCells acc++Lib.strCells s:=by rw[Lib.byteCells_append];rfl
 rw[e]
 exact h1
theorem kept_cell {w w':World}{B b:Nat}{cs:Array Value}{t:TypeId}(hk:Lib.OthersKept 5 (some B) w w')(h:w.heap[b]?=some (.cells cs t (0,0)))(hb:b≠B)(ht:t≠5):w'.heap[b]?=some (.cells cs t (0,0)) :=
 hk _ _ h (by intro e;injection e with e;exact hb e) (by intro c fz e;injection e with _ e;exact ht e)
theorem inv_new (w:World) (v:Value) :
  Inv w.heap.size v [] ((((w.alloc (.cells #[v] 22)).alloc (.cells #[.slice none 0 0] 166)).alloc (.map #[] 0)).alloc (.cells #[.map (some (w.heap.size+1+1))] 118)) /\
  Below w.heap.size w ((((w.alloc (.cells #[v] 22)).alloc (.cells #[.slice none 0 0] 166)).alloc (.map #[] 0)).alloc (.cells #[.map (some (w.heap.size+1+1))] 118)):=by
 have s1:(w.alloc (.cells #[v] 22)).heap.size=w.heap.size+1:=by simp
 have s2:((w.alloc (.cells #[v] 22)).alloc (.cells #[.slice none 0 0] 166)).heap.size=w.heap.size+2:=by simp
 have s3:(((w.alloc (.cells #[v] 22)).alloc (.cells #[.slice none 0 0] 166)).alloc (.map #[] 0)).heap.size=w.heap.size+3:=by simp
 have k1:=new_block w #[v] 22
 have k2:=new_block (w.alloc (.cells #[v] 22)) #[.slice none 0 0] 166
 have k4:=new_block (((w.alloc (.cells #[v] 22)).alloc (.cells #[.slice none 0 0] 166)).alloc (.map #[] 0)) #[.map (some (w.heap.size+1+1))] 118
 have m3:=World.ownsMap_made (H:=Unit) ((w.alloc (.cells #[v] 22)).alloc (.cells #[.slice none 0 0] 166)) Tryz.prog 9 (plainElem Tryz.prog 3)
 rw[s1] at k2
 rw[s3] at k4
 rw[s2] at m3
 refine⟨⟨?_,⟨.slice none 0 0,?_,?_⟩,k4,.map [],m3.alloc _,Maps.isMap_empty,DOk.nil _⟩,?_⟩
 ·rw[Below.heap_alloc _ _ _ (by rw[s3];omega),Below.heap_alloc _ _ _ (by rw[s2];omega),Below.heap_alloc _ _ _ (by rw[s1];omega)]
  exact k1
 ·rw[Below.heap_alloc _ _ _ (by rw[s3];omega),Below.heap_alloc _ _ _ (by rw[s2];omega)]
  exact k2
 ·exact⟨rfl,.inl ⟨rfl,rfl⟩⟩
 ·exact ((((Below.refl _ w).alloc (Nat.le_refl _) _).alloc (by rw[s1];omega) _).alloc (by rw[s2];omega) _).alloc (by rw[s3];omega) _
theorem wt_len:∀ st:List NV,st.length<=wt st
 | []=>by simp
 | x :: r=>by
  have:=wt_len r
  unfold wt at this ⊢
  simp
  omega
def BX (w1:World) (b:Nat) (X1 X2:ByteArray) (acc:L) (w:World):Prop:=PB w1 w acc/\Below w1.heap.size w1 w/\w.heap[b]?=some (.cells #[.string X1,.string X2] 169 (0,0))
theorem ws_bx (w1 w:World) (b:Nat) (X1 X2:ByteArray) (acc:L) (s:ByteArray)(h:BX w1 b X1 X2 acc w)(hb:b≠w1.heap.size)(hl:acc.length+s.size<=1000000000) :
  Calls Tryz.prog 59 #[.pointer (some ⟨w1.heap.size,0,none⟩),.string s] w fun e w'=>e=.returned (.tuple #[.int .i64 s.size,.nilIface])/\BX w1 b X1 X2 (acc++bl s) w':=by
 refine (ws_st w1 w acc s h.2.1 h.1 hl).mono ?_
 rintro e w' ⟨h1,h2⟩
 exact⟨h1,h2.out.1,h2.out.2.1,kept_cell h2.out.2.2 h.2.2 hb (by decide)⟩
theorem len_bx (w1 w:World) (acc:L)(h:PB w1 w acc) :
  Calls Tryz.prog 82 #[.pointer (some ⟨w1.heap.size,0,none⟩)] w fun e w'=>e=.returned (.int .i64 (acc.length:Int))/\w'=w:=by
 have:=Tryz.Builder_Len_f w1.heap.size w1.heap.size (Lib.byteCells acc) w h
 rw[Lib.byteCells_length] at this
 exact this
theorem last_of {D:DataW Unit}{st:List NV}(h:DOk D st) {i:Nat}{x:NV}(hx:st[i]?=some x) {c:Int}(hc:D.atKey (.string x.1) (.lit (.int .i64 0))=.lit (.int .i64 c)):(c=(i:Int)/\isLast st i)\/(c≠(i:Int)/\¬ isLast st i):=by
 obtain⟨j,h1,h2,y,h3,h4⟩:=h i x hx
 rw[h1] at hc
 have hcj:c=(j:Int):=by
  injection hc with e
  injection e with _ e
  exact e.symm
 by_cases e:j=i
 ·left
  refine⟨by rw[hcj,e],?_⟩
  intro k a b hk ha hb hab
  rw[hx] at hb
  cases hb
  obtain⟨j2,g1,g2,_⟩:=h k a ha
  rw[hab,h1] at g1
  have:j2=j:=by
   injection g1 with e'
   injection e' with _ e'
   omega
  omega
 ·right
  refine⟨by rw[hcj];omega,?_⟩
  intro hl
  exact hl j y x (by omega) h3 hx h4
set_option maxRecDepth 100000 in
set_option maxHeartbeats 16000000 in
theorem filter_any (s:ByteArray) (v:Value) (ss:List ByteArray)(hs:s.size<=90000)(hl:ss.length<=100000) (w:World)(hv:StrArg w v ss) :
  Calls Tryz.prog 119 #[.string s,v] w fun e w'=>e=.returned (.string ⟨(filt (ss.map bl) (bl s)).toArray⟩)/\Below w.heap.size w w':=by
 have hmm:=@run_makeMap Tryz.prog
 have hmf:∀ (fn:Fn) (first cap:Array Value) (w:World),(Instr.makeFunc fn first cap).run Tryz.prog w=.ok (.func fn first cap) w:=fun _ _ _ _=>rfl
 have hz3:∀ w:World,(zeroValue 3).run Tryz.prog w=.ok (.int .i64 0) w:=fun w=>by kernel_rfl
 obtain⟨st,hst⟩:∃ st,st=stay (ss.map bl) (bl s):=⟨_,rfl⟩
 obtain⟨n,hn⟩:∃ n,n=st.length:=⟨_,rfl⟩
 have HN:=hide hn
 have HOUT:Hid (filt (ss.map bl) (bl s)=outTo st n):=hide (by rw[hn,outTo_all,hst];rfl)
 have HWT:Hid (wt st<=300000):=hide (by
  have h1:=wt_filter (keep (ss.map bl)) (prts (bl s))
  have h2:=prts_wt (bl s)
  rw[bl_len] at h2
  rw[hst]
  unfold stay
  omega)
 have hwl:n<=300000:=by
  have h1:=HWT.out
  have h2:=wt_len st
  omega
 have HC:Hid (∀ p cap,v=.slice p ss.length cap->Calls Tryz.prog 136 #[.string s,tellV w.heap.size] ((((w.alloc (.cells #[.slice p ss.length cap] 22)).alloc (.cells #[.slice none 0 0] 166)).alloc (.map #[] 0)).alloc (.cells #[.map (some (w.heap.size+1+1))] 118)) fun e w'=>e=.returned (.tuple #[])/\Hid (Inv w.heap.size v st w'/\Below w.heap.size w w')):=hide (by
  intro p cap e
  obtain⟨h1,h2⟩:=inv_new w v
  rw[<-e]
  refine (each_any w.heap.size v ss s w _ rfl h1 hv h2 hs hl).mono ?_
  rintro e w' ⟨h3,h4,h5⟩
  exact⟨h3,hide ⟨by rw[hst];exact h4,h2.trans h5⟩⟩)
 rw[HOUT.out]
 obtain⟨p,cap,rfl,-,-⟩:=hv
 have HC:=hide (HC.out p cap rfl)
 clear hst HOUT hn
 go_enter Tryz.func119,Tryz.ntmps119
 go_wp2_with fail
 refine HC.out.mono ?_
 rintro e w1 ⟨rfl,HI⟩
 clear HC hmm hmf
 have hb1:Below w1.heap.size w1 (w1.alloc (.cells #[.pointer none,.slice none 0 0] 71)):=(Below.refl _ _).alloc (Nat.le_refl _) _
 have HB1:=hide hb1
 have HU1:Hid (PB w1 (w1.alloc (.cells #[.pointer none,.slice none 0 0] 71)) []):=hide (Lib.IsBuilderF.of (Lib.fresh_isBuilder 71 5 w1))
 obtain⟨u,hsb,hown⟩:=HI.out.1.sb
 obtain⟨sp,sc,rfl⟩:∃ sp sc,u=.slice sp n sc:=by
  rcases hown.2 with⟨rfl,h0⟩ | ⟨g,cap,cur,rfl,_⟩
  ·exact⟨none,0,by rw[HN.out,h0]⟩
  ·exact⟨_,_,by rw[HN.out]⟩
 have cS:=cell_keep (cell_of_one hsb) hb1
 have HOW:=hide hown
 clear hsb hown hb1
 go_wp2_with fail
 clear cS
 go_loopg [16] n (fun g v16 wr=>∃ i:Nat,i+g=n/\v16=.int .i64 (i:Int)/\Hid (PB w1 wr (outTo st i)/\Below w1.heap.size w1 wr))
 case atStart=>exact⟨0,by omega,rfl,hide ⟨HU1.out,HB1.out⟩⟩
 case round =>
  obtain⟨i,hi,rfl,HR⟩:=hrel
  clear HU1 HB1
  by_cases hlt:i < n
  ·obtain⟨x,hx⟩:∃ x,st[i]?=some x:=⟨_,List.getElem?_eq_getElem (by rw[<-HN.out];exact hlt)⟩
   obtain⟨g,rfl⟩:∃ g,sp=some ⟨g,0,none⟩:=by
    rcases HOW.out.2 with⟨e,h0⟩ | ⟨g,cap,cur,e,_⟩
    ·have:=HN.out;omega
    ·injection e with e;exact⟨g,e⟩
   obtain⟨r0,r1⟩:=rowV_at st i x hx
   have hos:=HOW.out
   rw[<-HN.out] at hos
   have x0:=hos.cellAt (2*i) (by omega)
   have x1:=hos.cellAt (2*i+1) (by omega)
   rw[r0] at x0
   rw[r1] at x1
   have x0:=cell_keep x0 HR.out.2
   have x1:=cell_keep x1 HR.out.2
   rw[show 2*i=i*2 by omega] at x0 x1
   have hwi:(outTo st i).length+(x.1.length+x.2.length+4)<=300000:=by
    have h1:=outTo_len st i
    have h2:=wt_take st (i+1)
    have hw:wt (st.take (i+1))=wt (st.take i)+(x.1.length+x.2.length+4):=by
     rw[List.take_add_one,hx]
     unfold wt
     simp
    have h3:=HWT.out
    omega
   obtain⟨w2,hw2⟩:∃ w2,w2=wr.alloc (.cells #[.string ⟨x.1.toArray⟩,.string ⟨x.2.toArray⟩] 169):=⟨_,rfl⟩
   have hb2:Below wr.heap.size wr w2:=by rw[hw2];exact (Below.refl _ _).alloc (Nat.le_refl _) _
   have hb12:Below w1.heap.size w1 w2:=HR.out.2.trans (hb2.mono HR.out.2.size)
   have hbx:w2.heap[wr.heap.size]?=some (.cells #[.string ⟨x.1.toArray⟩,.string ⟨x.2.toArray⟩] 169 (0,0)):=by rw[hw2];exact new_block _ _ _
   have hlt1:=HR.out.1.lt
   have hI2:=HI.out.1.keep hb12
   have cM:=cell_of_one hI2.mb
   obtain⟨D,hmap,-,hok⟩:=hI2.mp
   obtain⟨c,hlk,hat,wc⟩:=hmap.lookup_int (Maps.string_keyed Tryz.underlying9) Tryz.underlying118 Tryz.underlying3 (hz3 _) (keyOf_string_mk (P:=Tryz.prog) Tryz.underlying9 (s:=⟨x.1.toArray⟩) (by rw[size_mk];unfold maxLen;omega))
   have HLS:=hide (last_of hok hx hat)
   have HX:Hid (BX w1 wr.heap.size ⟨x.1.toArray⟩ ⟨x.2.toArray⟩ (outTo st i) w2):=hide ⟨HR.out.1.keep hb2,hb12,hbx⟩
   have HSZ:Hid ((⟨x.1.toArray⟩:ByteArray).size=x.1.length/\(⟨x.2.toArray⟩:ByteArray).size=x.2.length):=hide ⟨size_mk _,size_mk _⟩
   have HBL:Hid (bl ⟨x.1.toArray⟩=x.1/\bl ⟨x.2.toArray⟩=x.2):=hide ⟨rfl,rfl⟩
   have y0:=tag_cell hbx 0 _ rfl
   have HLE:=hide (outTo_last st i x · hx)
   have HLK:=hide (outTo_skip st i)
   have HWI:=hide hwi
   generalize (⟨x.1.toArray⟩:ByteArray)=X1 at *
   generalize (⟨x.2.toArray⟩:ByteArray)=X2 at *
   have HHX:=hide hx
   clear hx r0 r1 hos hb2 hb12 hbx hI2 hmap hok hat wc hwi HR
   go_upto_region 8 with fail
   rw[<-hw2]
   clear hw2 x0 x1
   rcases HLS.out with⟨hc,hlast⟩ | ⟨hc,hlast⟩
   ·subst hc
    have HEM:=hide (HLE.out hlast)
    clear HLS HLE HLK hlast
    have hne:(((i:Int)) != (i:Int))=false:=by simp
    obtain⟨acc,hacc⟩:∃ acc,acc=outTo st i:=⟨_,rfl⟩
    rw[<-hacc] at HX HEM HWI
    clear hacc
    have cl:=fun w h=>len_bx w1 w acc h
    have HCL:=hide cl
    clear cl
    by_cases ha:acc=[]
    ·subst ha
     have HE2:Hid (outTo st (i+1)=[]++bl X1++bl ⟨#[58,32]⟩++bl X2):=hide (by rw[HEM.out,HBL.out.1,HBL.out.2];rfl)
     have CL:=hide (HCL.out w2 HX.out.1)
     have C1:=hide (ws_bx w1 w2 wr.heap.size X1 X2 [] X1 HX.out (by omega) (by have h1:=HWI.out;have h2:=HSZ.out;simp;omega))
     clear HCL HEM
     go_wp2_with fail
     refine CL.out.mono ?_
     rintro e w3 ⟨rfl,rfl⟩
     clear CL
     go_wp2_with fail
     refine C1.out.mono ?_
     rintro e w4 ⟨rfl,h4⟩
     have C2:=hide (ws_bx w1 w4 wr.heap.size X1 X2 _ ⟨#[58,32]⟩ h4 (by omega) (by have h1:=HWI.out;have h2:=HSZ.out;simp only[List.length_append,bl_len];show _+2<=_;simp;omega))
     clear C1 HX y0 h4
     go_wp2_with fail
     refine C2.out.mono ?_
     rintro e w5 ⟨rfl,h5⟩
     have y1:=tag_cell h5.2.2 1 _ rfl
     have C3:=hide (ws_bx w1 w5 wr.heap.size X1 X2 _ X2 h5 (by omega) (by have h1:=HWI.out;have h2:=HSZ.out;simp only[List.length_append,bl_len];show _+2+_<=_;simp;omega))
     clear C2 h5
     go_wp2_with fail
     refine C3.out.mono ?_
     rintro e w6 ⟨rfl,h6⟩
     have HR2:Hid (PB w1 w6 (outTo st (i+1))/\Below w1.heap.size w1 w6):=hide ⟨by rw[HE2.out];exact h6.1,h6.2.1⟩
     clear C3 h6 y1
     go_wp2_with fail
     go_roundg (gk - 1)
     case measure=>omega
     case rel=>exact⟨i+1,by omega,by first | rfl | simp,HR2⟩
    ·have HE2:Hid (outTo st (i+1)=acc++bl ⟨#[59,32]⟩++bl X1++bl ⟨#[58,32]⟩++bl X2):=hide (by rw[HEM.out,HBL.out.1,HBL.out.2];unfold emit;rw[if_neg ha])
     have CL:=hide (HCL.out w2 HX.out.1)
     have C0:=hide (ws_bx w1 w2 wr.heap.size X1 X2 acc ⟨#[59,32]⟩ HX.out (by omega) (by have h1:=HWI.out;show _+2<=_;omega))
     have hpos:0 < acc.length:=List.length_pos_iff.2 ha
     generalize hal:acc.length=al at *
     have hgt:decide ((0:Int) < (al:Int))=true:=decide_eq_true (by omega)
     have HAL:=hide hal
     clear HCL HEM ha hal
     go_wp2_with fail
     refine CL.out.mono ?_
     rintro e w3 ⟨rfl,rfl⟩
     clear CL y0
     go_wp2_with fail
     refine C0.out.mono ?_
     rintro e w4 ⟨rfl,h4⟩
     have y0:=tag_cell h4.2.2 0 _ rfl
     have C1:=hide (ws_bx w1 w4 wr.heap.size X1 X2 _ X1 h4 (by omega) (by have h1:=HWI.out;have h2:=HSZ.out;rw[List.length_append,bl_len,HAL.out];show _+2+_<=_;omega))
     clear C0 HX h4
     go_wp2_with fail
     refine C1.out.mono ?_
     rintro e w5 ⟨rfl,h5⟩
     have C2:=hide (ws_bx w1 w5 wr.heap.size X1 X2 _ ⟨#[58,32]⟩ h5 (by omega) (by have h1:=HWI.out;have h2:=HSZ.out;rw[List.length_append,List.length_append,bl_len,bl_len,HAL.out];show _+2+_+2<=_;omega))
     clear C1 h5 y0
     go_wp2_with fail
     refine C2.out.mono ?_
     rintro e w6 ⟨rfl,h6⟩
     have y1:=tag_cell h6.2.2 1 _ rfl
     have C3:=hide (ws_bx w1 w6 wr.heap.size X1 X2 _ X2 h6 (by omega) (by have h1:=HWI.out;have h2:=HSZ.out;rw[List.length_append,List.length_append,List.length_append,bl_len,bl_len,bl_len,HAL.out];show _+2+_+2+_<=_;omega))
     clear C2 h6
     go_wp2_with fail
     refine C3.out.mono ?_
     rintro e w7 ⟨rfl,h7⟩
     have HR2:Hid (PB w1 w7 (outTo st (i+1))/\Below w1.heap.size w1 w7):=hide ⟨by rw[HE2.out];exact h7.1,h7.2.1⟩
     clear C3 h7 y1
     go_wp2_with fail
     go_roundg (gk - 1)
     case measure=>omega
     case rel=>exact⟨i+1,by omega,by first | rfl | simp,HR2⟩
   ·have hne:(c != (i:Int))=true:=by simpa using hc
    have HR2:Hid (PB w1 w2 (outTo st (i+1))/\Below w1.heap.size w1 w2):=hide ⟨by rw[HLK.out hlast];exact HX.out.1,HX.out.2.1⟩
    clear HLS HLE HLK hlast hc HX
    go_wp2_with fail
    go_roundg (gk - 1)
    case measure=>omega
    case rel=>exact⟨i+1,by omega,by first | rfl | simp,HR2⟩
  ·have hin:i=n:=by omega
   subst hin
   have HS:=hide (Tryz.Builder_String_any_k w1.heap.size w1.heap.size (outTo st i) wr HR.out.1 HR.out.2.size)
   go_wp2_with fail
   refine HS.out.mono ?_
   rintro e w3 ⟨rfl,_,m2,_⟩
   have HB3:=hide (HI.out.2.trans ((HR.out.2.trans m2).mono HI.out.2.size))
   clear m2 HS HR
   go_wp2_with fail
   go_ret
   exact⟨rfl,HB3.out⟩
end Go.Proofs.YtkiofbikkhhdfabGreatDoor.Sy
