import PyProof.Rows.All
import Wide.All
import OpenK.AllK
import Wide.FinOn
import Lean
import PyProof.EqAt
import PyProof.EqKinds
import PyProof.TupleCall
import PyProof.NeKinds
import PyProof.Rows.CountFlat
import PyProof.Rows.SumAny
import PyProof.Rows.Range3
import KE.KEqDict
import KE.KRevIter
import PyProof.DictIter
import PyProof.DictWalks
import PyProof.IsiH_list
import KE.KDictOf
import PyProof.Rows.SetFrom
import PyProof.Conv_int_bool
import PyProof.Rows.StrNews
import PyProof.CallStr
import PyProof.Rows.StrMeet
import PyProof.FitsReplace
import PyProof.MeetsStr3
import PyProof.Rows.StrSplitAre
import PyProof.StrLawsIn
import PyProof.ReprLen
import PyProof.StrLawsChain
import KE.IntTextLaws
import PyProof.Rows.StrClose5
import KE.KSortTup
import PyProof.Rows.SortKey
import PyProof.DictUpdate
import KE.KDictSum
import PyProof.WalksEnum
import PyProof.EnumMake
import PyProof.ZipIter
import PyProof.Rows.EnumRows
import PyProof.Rows.ZipForRows
import PyProof.Rows.FactsT2
import PyProof.Rows.SortStr
import PyProof.TupleIter
import KE.KLam
import PySem.Challenge.RW_fleetpath_k48_care
set_option compiler.extract_closed false
set_option bootstrap.genMatcherCode false
set_option genInjectivity false
set_option genSizeOf false
set_option genSizeOfSpec false
set_option Elab.async false
set_option linter.all false
set_option maxRecDepth 100000
noncomputable section
def f8:=@PySem.wpAny_bind
def u8:=@Option.map_eq_some_iff
def v0:=@List.length_map
def v4:=@List.length_cons
def L6:=@PySem.Heap.get?_push_of_some
def L7:=@decide_eq_false
def L8:=@decide_eq_true
def L9:=@List.mem_cons_of_mem
def M3:=@List.mem_cons_self
def M6:=@Bool.false_ne_true
def M7:=@Nat.le_refl
def M8:=@PySem.wpAny_pure
def M9:=@PySem.Heap.lt_size
def N4:=@List.getElem?_eq_getElem
def N5:=@List.getElem?_eq_some_iff
def N6:=@List.mem_map
def N7:=@Nat.lt_of_lt_of_le
def N8:=@Nat.ne_of_lt
def N9:=@List.mem_append_right
def O0:=@List.mem_cons
def O1:=@List.length_append
def O2:=@List.getElem?_map
def O3:=@List.size_toArray
def O4:=@Option.bind_eq_some_iff
def O5:=@PySem.Heap.get?_push_size
def O6:=@List.getElem?_set_ne
def O7:=@List.map_cons
def O8:=@Nat.le_trans
def O9:=@List.getElem?_set_self
def P6:=@PySem.Heap.get?_update_other
def P7:=@List.append_nil
def P8:=@List.map_map
def P9:=@Nat.le_of_ble_eq_true
def R4:=@List.map_append
def R7:=@List.getElem?_cons_succ
def R8:=@PySem.wpAny_mono
def R9:=@beq_iff_eq
def S4:=@List.length_set
def S5:=@List.mem_range
def S6:=@List.getElem?_append_left
def S7:=@Option.some.inj
def S8:=@List.lookup_cons
def S9:=@List.length_range
def T0:=@List.mem_singleton
def T1:=@congrArg
def T2:=@PySem.wpAny_holding
def T4:=@Classical.choose_spec
def T5:=@Nat.zero_le
def T6:=@List.getD_eq_getElem?_getD
def T7:=@List.append_assoc
def T8:=@PySem.Heap.get?_update_self
def T9:=@List.getElem?_append_right
def W1:=@Int.toNat_natCast
def a0a:=@Nat.ne_of_gt
def a0b:=@List.mem_append
def a0c:=@PySem.sizeLine_eq
def a0d:=@List.nodup_cons
def a0e:=@List.mem_append_left
def a0f:=@Bool.and_eq_true
def a0g:=@PySem.W.mg_none_of
def a0h:=@beq_eq_false_iff_ne
def a0i:=@Nat.lt_of_le_of_lt
def a0j:=@List.all_eq_true
def a0k:=@PySem.Paired.length
def a0l:=@Nat.lt_irrefl
def a0m:=@List.any_cons
def a0n:=@List.mem_filter
def a0o:=@PySem.mem_of_lookup
def a0p:=@List.replicate_succ
def a0q:=@List.getElem_map
def a0r:=@PySem.wpAny_Call_Name_kw
def a0s:=@List.drop_eq_getElem_cons
def a0t:=@Option.isSome_iff_exists
def a0u:=@List.nodup_append
def a0v:=@decide_eq_true_eq
def a0w:=@List.getElem?_replicate
def a0x:=@Bool.false_xor
def a0y:=@List.filter_cons
def a0z:=@Nat.le_of_lt
def a0A:=@List.length_replicate
def a0B:=@List.take_append_drop
def a0C:=@List.length_filter_le
def a0D:=@List.nodup_iff_pairwise_ne
def a0E:=@List.flatten_cons
def a0F:=@of_decide_eq_true
def a0G:=@PySem.wpAny_call
def a0H:=@List.mem_of_getElem?
def a0I:=@Nat.le_succ
def a0J:=@PySem.W.mg_of
def a0K:=@PySem.codeAny_mono
def a0L:=@List.length_take
def a0M:=@Array.length_toList
def a0N:=@List.map_congr_left
def a0O:=@PySem.F.plainAttrs_list
def a0P:=@PySem.wpAny_standAt
def a0Q:=@PySem.tupleKind_room_in1
def a0R:=@Nat.not_lt_zero
def a0S:=@List.take_of_length_le
def a0T:=@List.getLast?_eq_some_getLast
def a0U:=@PySem.wpAny_newObj_type
def a0V:=@Nat.lt_trans
def a0W:=@PySem.wpAny_typeOf
def a0X:=@PyProof.Rows.callWith_type1
def a0Y:=@PySem.codeAny_call_builtin
def a0Z:=@beq_self_eq_true
def a00:=@PySem.Around.under_plainId
def a01:=@List.getElem_mem
def a02:=@PySem.wpAny_attempt
def a03:=@Array.getElem?_eq_some_iff
def a04:=@PySem.wpAny_execs_nil
def a05:=@PySem.wpAny_passesOwn
def a06:=@List.getElem?_eq_none_iff
def a07:=@PySem.wpAny_updateSeq
def a08:=@Classical.byContradiction
def a09:=@PySem.W.callWith_K
def a1a:=@PySem.W.looks_findIn
def a1b:=@Nat.sub_self
def a1c:=@List.pairwise_cons
def a1d:=@PySem.wpAny_loadPart
def a1e:=@PySem.Heap.size_push
def a1f:=@Int.eq_ofNat_of_zero_le
def a1g:=@PySem.wpAny_truthy_bool
def a1h:=@Nat.lt_succ_of_lt
def a1i:=@Sum.inr.inj
def a1j:=@PySem.W.cellsFrom_some
def a1k:=@PySem.Calls.callWith_builtin
def a1l:=@List.all_cons
def a1m:=@Bool.true_xor
def a1n:=@Bool.true_and
def a1o:=@PySem.plainId_quiet
def a1p:=@Nat.lt_succ_self
def a1q:=@List.drop_length
def a1r:=@PySem.wpAny_isInstance
def a1s:=@List.take_length
def a1t:=@List.cons_ne_nil
def a1u:=@List.length_singleton
def a1v:=@PySem.F.slot_dict_get
def a1w:=@PySem.builtinLookup_eq_fast
def a1x:=@List.getElem?_eq_none
def a1y:=@List.of_mem_zip
def a1z:=@List.foldl_cons
def a1A:=@List.nil_append
def a1B:=@List.length_nil
def a1C:=@List.find?_cons
def a1D:=@List.getElem?_append
def a1E:=@PySem.codeAny_builtin
def a1F:=@Array.toArray_toList
def a1G:=@Nat.min_eq_left
def a1H:=@List.mem_of_mem_take
def a1I:=@List.filterMap_cons
def a1J:=@PySem.Heap.get?_update_ne
def a1K:=@Bool.and_false
def a1L:=@List.dropLast_cons_of_ne_nil
def a1M:=@Bool.decide_or
def a1N:=@List.nodup_nil
def a1O:=@PySem.W.looks_mroIn
def a1P:=@PySem.wpAny_field
def a1Q:=@Int.le_refl
def a1R:=@PySem.wpAny_of_eq
def a1S:=@List.getElem_range
def a1T:=@of_decide_eq_false
def a1U:=@Int.emod_lt_of_pos
def a1V:=@PySem.Calls.Name_function_global
def a1W:=@PySem.wpAny_newFunctionEnv_cells
def a1X:=@List.map_take
def a1Y:=@Array.perm_iff_toList_perm
def a1Z:=@PyProof.Rows.listUpdate_at
def a10:=@List.take_sublist
def a11:=@Option.isSome_map
def a12:=@Nat.le_of_succ_le
def a13:=@PySem.wpAny_pyIter_dict
def a14:=@List.pairwise_map
def a15:=@PySem.wpAny_load
def a16:=@PySem.call_meets
def a17:=@PySem.wpAny_rule
def a18:=@PySem.F.plain_extend_loop
def a19:=@List.pairwise_iff_getElem
def a2a:=@List.getLastD_eq_getLast?
def a2b:=@PySem.wpAny_execs_cons
def a2c:=@List.length_drop
def a2d:=@List.map_nil
def a2e:=@Bool.or_true
def a2f:=@PySem.wpAny_mkText
def a2g:=@Nat.le_of_eq
def a2h:=@PySem.wpAny_comprehension_free
def a2i:=@PySem.F.slot_list_append
def a2j:=@PySem.F.type_list_append
def a2k:=@Nat.succ_lt_succ
def a2l:=@PyProof.Rows.KeyOrd.kle_trans
def a2m:=@PyProof.Rows.KeyOrd.klt_asymm
def a2n:=@List.eq_of_mem_replicate
def a2o:=@List.Pairwise.imp_of_mem
def a2p:=@Nat.min_eq_right
def a2q:=@decide_eq_decide
def a2r:=@Int.ofNat_le
def a2s:=@PySem.F.args_dict_get_2
def a2t:=@PySem.F.slot_list_count
def a2u:=@PySem.F.plain_list_iadd
def a2v:=@List.mem_singleton_self
def a2w:=@PySem.pushCells_keeps
def a2x:=@PySem.typeLookup_type
def a2y:=@Int.emod_nonneg
def a2z:=@PyProof.Rows.subscriptTail_builtinR
def a2A:=@PySem.F.entry_dict_get
def a2B:=@Array.getElem?_eq_none
def a2C:=@List.length_pos_of_mem
def a2D:=@Bool.false_and
def a2E:=@PySem.codeAny_call_function
def a2F:=@Array.getElem?_toList
def a2G:=@PySem.wpAny_setField
def a2H:=@Iff.rfl
def a2I:=@List.set_getElem_self
def a2J:=@Array.mem_toList_iff
def a2K:=@PySem.Around.frames_deeper
def a2L:=@PySem.Calls.evalArgs_plain
def a2M:=@Bool.and_eq_true_iff
def a2N:=@PySem.codeAny_extend_loopS
def a2O:=@PyProof.Rows.size_push'
def a2P:=@List.mem_of_mem_drop
def a2Q:=@Bool.false_or
def a2R:=@PySem.Moved.eq_with
def a2S:=@PySem.wpAny_newList
def a2T:=@Nat.add_le_add_left
def a2U:=@List.filter_sublist
def a2V:=@PySem.SeqAt.EqAt.int_str
def a2W:=@PySem.SeqAt.EqAt.str_int
def a2X:=@List.mem_filterMap
def a2Y:=@Array.find?_toList
def a2Z:=@PySem.Calls.spliced_cons
def a20:=@PySem.W.codeRec_of
def a21:=@PySem.seqIndex_neg
def a22:=@PySem.Code.quiet_builtin
def a23:=@Array.forIn_toList
def a24:=@PySem.wpAny_evalAll_cons
def a25:=@List.filter_append
def a26:=@List.map_set
def a27:=@PySem.seqIndex_of
def a28:=@PySem.W.looks_clsIn
def a29:=@PySem.wpAny_throw
def a3a:=@PyProof.Rows.boot_sorted
section
open PySem PySem.Spec PyProof.Rows PySem.W
abbrev Ht:=List Nat
abbrev Hu:=(List (Addr×Obj))
abbrev Hv:=(Str->Option Value)
abbrev Hw:=(Value->Shared->Prop)
abbrev Hx:=List Str
abbrev Hy:=Shared
abbrev Hz:=(Addr->Prop)
abbrev HB:=List Value
abbrev HD:=List Expr
abbrev HI:=List Bool
abbrev HJ:=Expr
abbrev HK:=(Nat->Addr)
abbrev HN:=PySem.W.Frag
abbrev HQ:=Program
abbrev HU:=List (Option Nat)
abbrev HY:=List Int
abbrev H_:=World
abbrev Ia:=Around
abbrev Ib:=FuncData
abbrev Ie:=Array (Option Value)
abbrev Ig:=(List (Str×Addr))
abbrev Ih:=Frag
abbrev Ii:=(List (Str×Nat))
abbrev Ij:=List Stmt
abbrev Il:=(List (Str×NameKind))
abbrev Im:=Array Value
abbrev Io:=W.Frag
abbrev Iq:=Option Addr
abbrev Ir:=Stmt
abbrev Iu:=List Addr
abbrev Iv:=(List (Str×Value))
abbrev Iw:=Array Nat
abbrev Iy:=(Nat->Nat->Bool)
abbrev IA:=Option Int
abbrev IB:=(Str->Option NameKind)
abbrev ID:=(Nat->Prop)
abbrev IF:=Option Expr
abbrev IG:=(Value->Option Bool)
abbrev IH:=(Nat->Value)
end
abbrev II:List Nat:=[0,0,0,0,0,0,0]
abbrev IJ:List Nat:=[0,0,0,0,0,0]
abbrev IL:List Nat:=[0,0,0,0,0,0,0,0]
namespace L2
open PySem PySem.Spec PyProof.Rows
abbrev Key:=Sum Int Str
abbrev IC:=(List (Key×Value))
def ck:Key->Value->Bool
 |.inl k,v=>Value.isInt k v
 |.inr x,v=>Value.isStrOf x v
def GN(w:H_):Key->Int
 |.inl k=>hashInt k
 |.inr x=>hashStr w x
def ye:∀{k:Key}{v:Value},ck k v=true->(∃i t,k=Sum.inl i/\v=Value.int i t)\/(∃x t,k=Sum.inr x/\v=Value.str x t)
 |.inl i,v,h=>by obtain⟨t,e⟩:=Value.isInt_shape (k:=i) (v:=v) h;exact .inl ⟨i,t,rfl,e⟩
 |.inr x,v,h=>by obtain⟨t,e⟩:=Value.isStrOf_shape (x:=x) (v:=v) h;exact .inr ⟨x,t,rfl,e⟩
def iq(i:Int)(t:Tok):ck (.inl i) (.int i t)=true:=by simp[ck,Value.isInt]
def ir(x:Str)(t:Tok):ck (.inr x) (.str x t)=true:=by simp[ck,Value.isStrOf]
def Bv(a b:Int):decide ((Sum.inl a:Key)=Sum.inl b)=(a==b):=by
 by_cases e:a=b
 .subst e;simp
 .have h:¬(Sum.inl a:Key)=Sum.inl b:=λq=>e (Sum.inl.inj q);rw[L7 h];exact(a0h.mpr e).symm
def Bw(a b:Str):decide ((Sum.inr a:Key)=Sum.inr b)=decide (a=b):=by
 by_cases e:a=b
 .subst e;simp
 .have h:¬(Sum.inr a:Key)=Sum.inr b:=λq=>e (a1i q);rw[L7 h,L7 e]
def Bx(a:Int)(b:Str):decide ((Sum.inl a:Key)=Sum.inr b)=false:=L7 (λq=>nomatch q)
def By(a:Str)(b:Int):decide ((Sum.inr a:Key)=Sum.inl b)=false:=L7 (λq=>nomatch q)
def yw(prog:HQ)(w:H_):PySem.KeyKind prog w Key where
 is:=ck
 hash:=GN w
 inj:=λv a b ha hb=>by
  rcases ye ha with⟨i,t,rfl,rfl⟩|⟨x,t,rfl,rfl⟩
  .rcases ye hb with⟨j,u,rfl,e⟩|⟨y,u,rfl,e⟩
   .injection e with e1 _;rw[e1]
   .exact nomatch e
  .rcases ye hb with⟨j,u,rfl,e⟩|⟨y,u,rfl,e⟩
   .exact nomatch e
   .injection e with e1 _;rw[e1]
 byValue:=λk v h=>by rcases ye h with⟨i,t,rfl,rfl⟩|⟨x,t,rfl,rfl⟩<;>rfl
 pyHash:=λhv h=>by
  rcases ye hv with⟨i,t,rfl,rfl⟩|⟨x,t,rfl,rfl⟩
  .exact wpAny_pyHash_int h
  .exact wpAny_pyHash_str h
 eqBool:=λhu hv h=>by
  rcases ye hu with⟨i,t,rfl,rfl⟩|⟨x,t,rfl,rfl⟩
  .rcases ye hv with⟨j,u,rfl,rfl⟩|⟨y,u,rfl,rfl⟩
   .rw[Bv]at h;exact wpAny_eqBool_int h
   .rw[Bx]at h;exact a2V i t y u _ _ _ _ h
  .rcases ye hv with⟨j,u,rfl,rfl⟩|⟨y,u,rfl,rfl⟩
   .rw[By]at h;exact a2W x t j u _ _ _ _ h
   .rw[Bw]at h;exact wpAny_eqBool_str h
 «strs»:=λk x t v h=>by
  rcases ye h with⟨i,u,rfl,e⟩|⟨y,u,rfl,e⟩
  .exact nomatch e
  .injection e with e1 _
   subst e1;cases v<;>rfl
def JJ(prog:HQ)(w:H_)(k:Key)(v:Value):(yw prog w).is k v=ck k v:=rfl
def cq(prog:HQ)(w:H_)(i:Int)(t:Tok):(yw prog w).is (.inl i) (.int i t)=true:=iq i t
def cu(prog:HQ)(w:H_)(x:Str)(t:Tok):(yw prog w).is (.inr x) (.str x t)=true:=ir x t
inductive V where
 |non|bl (b:Bool)|int (i:Int)|str (x:Str)|byt (b:Array UInt8)|flt (b:UInt64)|ref (a:Addr)|ty (n:String)
 deriving DecidableEq
abbrev HF:=List V
abbrev HL:=(List (Key×V))
abbrev Ip:=(List (Str×V))
abbrev IE:=(List (List Key×V))
def RelV:V->Value->Prop
 |.non,u=>u=Value.none
 |.bl b,u=>u=Value.bool b
 |.int i,u=>∃t,u=Value.int i t
 |.str x,u=>∃t,u=Value.str x t
 |.byt b,u=>∃t,u=Value.bytes b t
 |.flt b,u=>∃t,u=Value.float b t
 |.ref a,u=>u=Value.ref a
 |.ty n,u=>u=Value.type n
abbrev Vals:List V->List Value->Prop:=Paired RelV
def Vals.length(r:Vals xs us):xs.length=us.length:=a0k r
def Vals.get:∀{xs:HF}{us:HB}{i:Nat}{x:V},Vals xs us->xs[i]?=some x->∃u,us[i]?=some u/\RelV x u
 |_,_,_,_,.nil,e=>by simp at e
 |_,_,0,_,.cons r _,e=>by simp at e;subst e;exact⟨_,rfl,r⟩
 |_,_,i+1,x,.cons _ t,e=>by obtain⟨u,h1,h2⟩:=Vals.get (i:=i) (x:=x) t (by simpa using e);exact⟨u,by simpa using h1,h2⟩
def Vals.set{x:V}{u:Value}(r:RelV x u):∀{xs:HF}{us:HB}(i:Nat),Vals xs us->Vals (xs.set i x) (us.set i u)
 |_,_,_,.nil=>.nil
 |_,_,0,.cons _ t=>.cons r t
 |_,_,i+1,.cons q t=>.cons q (Vals.set r i t)
def Vals.append:∀{xs ys:HF}{us ws:HB},Vals xs us->Vals ys ws->Vals (xs++ys) (us++ws)
 |_,_,_,_,.nil,s=>s
 |_,_,_,_,.cons r t,s=>.cons r (Vals.append t s)
def Vals.take:∀{xs:HF}{us:HB}(n:Nat),Vals xs us->Vals (xs.take n) (us.take n)
 |_,_,0,_=>.nil
 |_,_,_+1,.nil=>.nil
 |_,_,n+1,.cons r t=>.cons r (Vals.take n t)
def Vals.drop:∀{xs:HF}{us:HB}(n:Nat),Vals xs us->Vals (xs.drop n) (us.drop n)
 |_,_,0,r=>r
 |_,_,_+1,.nil=>.nil
 |_,_,n+1,.cons _ t=>Vals.drop n t
def Xe:Option V->Option Value->Prop
 |some v,some u=>RelV v u
 |none,none=>True
 |_,_=>False
def KV{κ:Type}:List (κ×V)->List (κ×Value)->Prop:=Paired λ(p:κ×V) (q:κ×Value)=>p.1=q.1/\RelV p.2 q.2
def kV:Key->V
 |.inl i=>.int i
 |.inr x=>.str x
inductive HO where
 |lst (xs:HF)
 |tup (xs:HF)
 |dK (kvs:HL)|dT (kvs:IE)
 |set (S:Int->Bool) (n:Nat)
 |ins (C dx:Addr) (fs:Ip)
 |own (x:Addr)
 |xd (fs:Ip)
 |met (f x:Addr)
 |rng (lo hi:Int)
 |frz (o:Obj) (u:HO)
 |tbl (ps:Im)
 |ext (φ:Heap->Prop)
abbrev Hp:=Addr->Option HO
def upd(H:Hp)(a:Addr)(o:HO):Hp:=λb=>if b=a then some o else H b
def zd:upd H a o a=some o:=by unfold upd;rw[if_pos rfl]
def zg(h:b≠a):upd H a o b=H b:=by unfold upd;rw[if_neg h]
def vH:upd (upd H a o) a u=upd H a u:=by
 funext b;unfold upd;split<;>rfl
def EU{H:Hp}{a b:Addr}{o u:HO}(h:H a=some o)(h':H b=some u)(d:o≠u):a≠b:=by intro e;subst e;rw[h]at h';exact d (S7 h')
def qp{H:Hp}{a b:Addr}{o:HO}(h:H a=some o)(h':H b=none):a≠b:=by intro e;subst e;rw[h]at h';cases h'
section
variable (P:HQ) (w:H_)
def yM(H:Hp)(h:Heap)(a:Addr):HO->Prop
 |.lst xs=>xs.length<=sizeLine/\∃(its:HB)(n:Nat),Vals xs its/\h.get? a=some { cls:=.type "list",data:=.seq its.toArray n }
 |.tup xs=>xs.length<=sizeLine/\∃its:List Value,Vals xs its/\IsTup h a its.toArray
 |.dK kvs=>kvs.length<=sizeLine/\(a==sysModules)=false/\∃vs,KV kvs vs/\h.DictOf (yw P w) a vs
 |.dT kvs=>kvs.length<=sizeLine/\(a==sysModules)=false/\∃xs:List (List Key×Addr×Value),
   Paired (λ(p:List Key×V) (q:List Key×Addr×Value)=>p.1=q.1/\H q.2.1=some (.tup (p.1.map kV))/\RelV p.2 q.2.2) kvs xs/\
   ∃o es ep,h.get? a=some o/\o.ExactDict/\o.data=.dict es ep/\es.toList=xs.map (entryOfKey (tupleKind (yw P w)))/\(xs.map (·.1)).Nodup
 |.set S n=>h.SetOf (intKind P w) a S n
 |.ins C dx fs=>H dx=some (.own a)/\fs.length<=1000/\dx≠a/\h.get? a=some (PySem.W.instObj C dx)/\
   ∃mA,h.Ns1 dx mA/\(∀f,Xe (fs.lookup f) (mA f))/\PySem.Within mA (fs.map (·.1))
 |.own _=>∃o,h.get? a=some o
 |.xd fs=>∃mA,h.Ns1 a mA/\∀f,Xe (fs.lookup f) (mA f)
 |.rng lo hi=>∃t u v,h.get? a=some { cls:=.type "range",data:=.fields #[.int lo t,.int hi u,.int 1 v] }
 |.frz o u=>h.get? a=some o/\yM H h a u
 |.tbl ps=>h.get? a=some { cls:=.none,data:=.fields ps }
 |.met f x=>h.get? a=some (PySem.W.methodObj (.ref f) (.ref x))
 |.ext φ=>φ h/\(∃o,h.get? a=some o)/\∀h1 h2:Heap,φ h1->(∀o,h1.get? a=some o->h2.get? a=some o)->φ h2
def HOk(H:Hp)(h:Heap):Prop:=∀a o,H a=some o->yM P w H h a o
end
section
variable {P:HQ}{w:H_}{H H':Hp}{h h':Heap}{a:Addr}{o:HO}
def yM.lt(x:yM P w H h a o):a<h.objs.size:=by
 cases o with
 |lst xs=>obtain⟨_,_,_,_,e⟩:=x;exact M9 e
 |tup xs=>obtain⟨_,_,_,p⟩:=x;exact p.lt
 |dK kvs=>obtain⟨_,_,_,_,o,_,_,e,_⟩:=x;exact M9 e
 |dT kvs=>obtain⟨_,_,_,_,o,_,_,e,_⟩:=x;exact M9 e
 |set S n=>obtain⟨o,_,_,_,e,_⟩:=x;exact M9 e
 |ins C dx fs=>obtain⟨_,_,_,e,_⟩:=x;exact M9 e
 |own y=>obtain⟨_,e⟩:=x;exact M9 e
 |xd fs=>obtain⟨_,⟨_,_,_,e,_⟩,_⟩:=x;exact M9 e
 |rng lo hi=>obtain⟨_,_,_,e⟩:=x;exact M9 e
 |frz ob u=>obtain⟨e,_⟩:=x;exact M9 e
 |tbl ps=>exact M9 (show h.get? a=some _ from x)
 |met f y=>exact M9 (show h.get? a=some _ from x)
 |ext φ=>obtain⟨_,⟨_,e⟩,_⟩:=x;exact M9 e
def Paired.EV{α β:Type}{F G:α->β->Prop}:∀{l₁:List α}{l₂:List β},Paired F l₁ l₂->(∀a b,F a b->G a b)->Paired G l₁ l₂
 |_,_,.nil,_=>.nil
 |_,_,.cons r t,f=>.cons (f _ _ r) (Paired.EV t f)
def yM.h_(x:yM P w H h a o)(k:∀b u,(b=a\/H b=some (.own a))->h.get? b=some u->h'.get? b=some u)
  (ho:∀b,H b=some (.own a)->H' b=some (.own a)) (ht:∀b xs,H b=some (.tup xs)->H' b=some (.tup xs)):yM P w H' h' a o:=by
 induction o with
 |lst xs=>obtain⟨z,its,n,r,e⟩:=x;exact⟨z,its,n,r,k _ _ (.inl rfl) e⟩
 |tup xs=>obtain⟨z,its,r,ob,e,c⟩:=x;exact⟨z,its,r,ob,k _ _ (.inl rfl) e,c⟩
 |dK kvs=>obtain⟨z,y,vs,r,ob,es,ep,e,c⟩:=x;exact⟨z,y,vs,r,ob,es,ep,k _ _ (.inl rfl) e,c⟩
 |dT kvs=>obtain⟨z,y,xs,r,ob,es,ep,e,c⟩:=x;exact⟨z,y,xs,Paired.EV r λp q z=>⟨z.1,ht _ _ z.2.1,z.2.2⟩,ob,es,ep,k _ _ (.inl rfl) e,c⟩
 |set S n=>obtain⟨ob,es,ep,t,e,c⟩:=x;exact⟨ob,es,ep,t,k _ _ (.inl rfl) e,c⟩
 |ins C dx fs=>obtain⟨d,z,ne,e,mA,⟨od,es,ep,e2,c⟩,r⟩:=x;exact⟨ho _ d,z,ne,k _ _ (.inl rfl) e,mA,⟨od,es,ep,k _ _ (.inr d) e2,c⟩,r⟩
 |own y=>obtain⟨ob,e⟩:=x;exact⟨ob,k _ _ (.inl rfl) e⟩
 |xd fs=>obtain⟨mA,⟨od,es,ep,e,c⟩,r⟩:=x;exact⟨mA,⟨od,es,ep,k _ _ (.inl rfl) e,c⟩,r⟩
 |rng lo hi=>obtain⟨t,u,v,e⟩:=x;exact⟨t,u,v,k _ _ (.inl rfl) e⟩
 |frz ob u ih=>obtain⟨e,q⟩:=x;exact⟨k _ _ (.inl rfl) e,ih q⟩
 |tbl ps=>have e:h.get? a=some { cls:=.none,data:=.fields ps }:=x;show h'.get? a=some { cls:=.none,data:=.fields ps };exact k a _ (.inl rfl) e
 |met f y=>have e:h.get? a=some (PySem.W.methodObj (.ref f) (.ref y)):=x;show h'.get? a=some (PySem.W.methodObj (.ref f) (.ref y));exact k a _ (.inl rfl) e
 |ext φ=>obtain⟨p,⟨o,e⟩,st⟩:=x;exact⟨st _ _ p λo q=>k _ _ (.inl rfl) q,⟨o,k _ _ (.inl rfl) e⟩,st⟩
def HOk.lt(x:HOk P w H h)(e:H a=some o):a<h.objs.size:=(x a o e).lt
def HOk.fresh(x:HOk P w H h)(e:h.objs.size<=a):H a=none:=by
 cases q:H a with
 |none=>rfl
 |some u=>exact absurd (N7 (x.lt q) e) (a0l _)
def HOk.kept(x:HOk P w H h)(k:∀b u,h.get? b=some u->h'.get? b=some u):HOk P w H h':=λa o e=>
 (x a o e).h_ (λb u _ q=>k b u q) (λ_ q=>q) λ_ _ q=>q
def HOk.laid(x:HOk P w H h)(k:∀b u,h.get? b=some u->h'.get? b=some u)(hp:h.objs.size<=a)(new:yM P w (upd H a o) h' a o):HOk P w (upd H a o) h':=λb u e=>by
 have hn:=x.fresh hp;by_cases hb:b=a
 .subst hb;rw[zd]at e;cases e;exact new
 .rw[zg hb]at e;exact(x b u e).h_ (λc v _ q=>k c v q) (λc q=>by rw[zg (qp q hn)];exact q) λc xs q=>by rw[zg (qp q hn)];exact q
end
def Rd(H:Hp)(a:Addr)(u:HO):Prop:=H a=some u\/∃o,H a=some (.frz o u)
def Rd.ok(r:Rd H a u)(x:HOk P w H h):yM P w H h a u:=by
 rcases r with r|⟨o,r⟩
 .exact x a u r
 .obtain⟨_,q⟩:=x a _ r;exact q
def Mut:Option HO->Prop
 |some (.lst _)=>True
 |some (.dK _)=>True
 |some (.dT _)=>True
 |some (.set _ _)=>True
 |some (.ins _ _ _)=>True
 |some (.ext _)=>True
 |_=>False
def HOk.write(ok:HOk P w H h)(mu:Mut (H x))(he:e=x\/H e=some (.own x))(k:∀b u,b≠e->h.get? b=some u->h'.get? b=some u)(heo:∃u,h'.get? e=some u)
  (new:yM P w (upd H x o') h' x o'):HOk P w (upd H x o') h':=λb u q=>by
 have nown:∀c y,H c=some (.own y)->c≠x:=λc y r z=>by subst z;rw[r]at mu;exact mu
 have ntup:∀c xs,H c=some (.tup xs)->c≠x:=λc xs r z=>by subst z;rw[r]at mu;exact mu
 by_cases hb:b=x
 .subst hb;rw[zd]at q;cases q;exact new
 .rw[zg hb]at q;by_cases hbe:b=e
  .have q':H b=some (.own x):=by
    rcases he with z|z
    .exact absurd (hbe.trans z) hb
    .rw[hbe];exact z
   rw[q]at q';cases q';obtain⟨v,hv⟩:=heo;exact⟨v,by rw[hbe];exact hv⟩
  .refine(ok b u q).h_ (λc v hc r=>k c v ?_ r) (λc r=>by rw[zg (nown c b r)];exact r) λc xs r=>by rw[zg (ntup c xs r)];exact r
   rcases hc with rfl|hc
   .exact hbe
   .rintro rfl
    rcases he with z|z
    .exact nown c b hc z
    .rw[hc]at z;cases z;exact hb rfl
structure Un(fs ex:Iu)(H H':Hp)(h h':Heap):Prop where
 keep:∀b o,h.get? b=some o->H b=none->b∉fs->b∉ex->h'.get? b=some o
 slot:∀b o,h.get? b=some o->H b=none->b∈fs->b∉ex->∃sl,h'.get? b=some { o with slots:=sl }
 free:∀b o,h.get? b=some o->H b=none->b∉ex->H' b=none
 there:∀b o,h.get? b=some o->b∉ex->∃o',h'.get? b=some o'
 oY:∀b xs,H b=some (.tup xs)->H' b=some (.tup xs)
 ip:∀b o u,H b=some (.frz o u)->H' b=some (.frz o u)
 oI:∀b ps,H b=some (.tbl ps)->∃more,H' b=some (.tbl (ps++more))
section
variable {fs fs' ex ex':Iu}{H H1 H2:Hp}{h h1 h2 h':Heap}{a x e:Addr}{o:HO}
def Un.any(u:Un fs ex H H1 h h1)(q:h.get? b=some ob)(n:H b=none)(hx:b∉ex):∃sl,h1.get? b=some { ob with slots:=sl }:=by
 by_cases hb:b∈fs
 .exact u.slot b ob q n hb hx
 .exact⟨ob.slots,u.keep b ob q n hb hx⟩
def Un.kept(k:∀b u,h.get? b=some u->h'.get? b=some u):Un fs ex H H h h':=
 ⟨λb ob q _ _ _=>k b ob q,λb ob q _ _ _=>⟨ob.slots,k b ob q⟩,λ_ _ _ n _=>n,λb ob q _=>⟨ob,k b ob q⟩,λ_ _ q=>q,λ_ _ _ q=>q,λ_ ps q=>⟨#[],by rw[q];simp⟩⟩
def Un.refl:Un fs ex H H h h:=Un.kept λ_ _ q=>q
def Un.laid(k:∀b u,h.get? b=some u->h'.get? b=some u)(hp:h.objs.size<=a)(hn:H a=none):Un fs ex H (upd H a o) h h' where
 keep:=λb u q _ _ _=>k b u q
 slot:=λb u q _ _ _=>⟨u.slots,k b u q⟩
 free:=λb u q n _=>by rw[zg (N8 (N7 (M9 q) hp))];exact n
 there:=λb u q _=>⟨u,k b u q⟩
 oY:=λb xs q=>by rw[zg (qp q hn)];exact q
 ip:=λb u xs q=>by rw[zg (qp q hn)];exact q
 oI:=λb ps q=>⟨#[],by rw[zg (qp q hn),q];simp⟩
def Un.write(mu:Mut (H x))(he:e=x\/H e=some (.own x))(k:∀b u,b≠e->h.get? b=some u->h'.get? b=some u)(heo:∃u,h'.get? e=some u):Un fs ex H (upd H x o) h h':=by
 have hx:∀b,H b=none->b≠x:=λb n z=>by subst z;rw[n]at mu;exact mu
 have hb:∀b,H b=none->b≠e:=λb n z=>by
  subst z;rcases he with r|r
  .exact hx b n r
  .rw[n]at r;cases r
 have hm:∀b u,H b=some u->¬Mut (some u)->b≠x:=λb u q nm z=>by subst z;rw[q]at mu;exact nm mu
 refine⟨λb u q n _ _=>k b u (hb b n) q,λb u q n _ _=>⟨u.slots,k b u (hb b n) q⟩,λb u q n _=>by rw[zg (hx b n)];exact n,λb u q _=>?_,
  λb xs q=>by rw[zg (hm b _ q λz=>z)];exact q,λb u xs q=>by rw[zg (hm b _ q λz=>z)];exact q,λb ps q=>⟨#[],by rw[zg (hm b _ q λz=>z),q];simp⟩⟩
 by_cases hbe:b=e
 .subst hbe;exact heo
 .exact⟨u,k b u hbe q⟩
end
def trk(h:Heap)(H:Hp):List Addr:=(List.range h.objs.size).filter λa=>(H a).isSome
def oN(h:Heap)(H:Hp):Heap:=PySem.W.hideAll h (trk h H)
def iu(h:Heap)(H:Hp):(oN h H).objs.size=h.objs.size:=PySem.W.hideAll_size _ _
def oZ(e:h.get? b=some o)(n:H b=none):(oN h H).get? b=some o:=
 PySem.W.hideAll_get _ e λhm=>by have q:(H b).isSome=true:=(a0n.mp hm).2;rw[n]at q;simp at q
def u5(e:(oN h H).get? b=some o):h.get? b=some o/\H b=none:=by
 have e':h.get? b=some o:=PySem.W.of_hideAll (trk h H) e;refine⟨e',?_⟩;cases q:H b with
 |none=>rfl
 |some x=>have hm:b∈trk h H:=a0n.mpr ⟨S5.mpr (M9 e'),by simp[q]⟩;have z:(oN h H).get? b=none:=PySem.W.hideAll_none (trk h H) hm;rw[z]at e;cases e
structure Mod(K:HN)(mg:Hv)(base:Heap):Prop where
 kin:K.In base
 glob:base.Ns mainGlobals mg
 blt:∃mb,base.Ns builtinsNs mb/\∀x:Str,x≠"__name__"->mb x=bootBuiltins x
 nolimit:base.NoLimit
structure Cx where
 prog:Program
 w:World
 K:PySem.W.Frag
 mg:Str->Option Value
 base:Heap
 A:Around
 N:List Str
 s₀:Shared
 H₀:Hp
 env:Env
 outer:List Env
 stack:List Env
 ex:List Addr
 fn:Str->Bool
 calm:Bool
 pn:List (Addr×Obj)
 xe:Value->Shared->Prop
abbrev IP(X:Cx):=model X.prog X.w
def frs(l:List Env):List Addr:=l.filterMap (·.frame)
abbrev Cx.fs(X:Cx):List Addr:=frs X.outer
def Vis(sc:Scope)(x:Str):Prop:=sc.names.lookup x=some .local\/sc.names.lookup x=some .cell\/sc.names.lookup x=some .free
def Loc(sc:Scope)(x:Str):Prop:=sc.names.lookup x=some .local\/sc.names.lookup x=some .cell
def Look(env:Env)(h:Heap)(m:Hv)(x:Str)(u:Value):Prop:=
 (env.kindOf x=some .local/\m x=some u)\/((env.kindOf x=some .cell\/env.kindOf x=some .free)/\∃c,env.cells.lookup x=some c/\h.IsCell c (some u))
structure Cx.Ok(X:Cx):Prop where
 mod:Mod X.K X.mg X.base
 kind:X.env.scope.kind=.function
 glob:X.env.globals=mainGlobals
 blt:X.env.builtins=builtinsNs
 above:X.s₀.heap.objs.size<=X.env.locals
 inj:∀x y c,X.env.cells.lookup x=some c->X.env.cells.lookup y=some c->x=y
 has:∀x,(X.env.kindOf x=some .cell\/X.env.kindOf x=some .free)->∃c,X.env.cells.lookup x=some c
 cab:∀x c,X.fn x=true->X.env.cells.lookup x=some c->X.s₀.heap.objs.size<=c
 hd:X.calm=true->X.A.handled=none
 frames:X.A.frames=some X.stack
 stk:X.stack=X.outer\/(X.stack=X.env::X.outer/\X.env.frame=some X.env.locals)
 exf:∀b∈X.ex,b≠X.env.locals/\∀x c,X.env.cells.lookup x=some c->c≠b
 bs:∀b o,X.base.get? b=some o->X.s₀.heap.get? b=some o/\X.H₀ b=none
 bsz:X.base.objs.size<=X.s₀.heap.objs.size
 Bd:∀b o,X.base.get? b=some o->b∉X.ex
 Be:∀b∈X.ex,b∉X.fs
 aa:X.s₀.heap.FunFrames X.base X.outer
 frf:∀b∈X.fs,X.H₀ b=none
structure Inv(X:Cx)(pins:Hu)(σ:List (Option V))(H:Hp)(s:Hy):Prop where
 ok:X.Ok
 os:s.os=X.s₀.os
 bare:AllBare s.gens
 base:Un X.fs X.ex X.H₀ H X.s₀.heap s.heap
 loc:∃m,s.heap.Ns X.env.locals m/\∀(i:Nat)(x:Str)(v:V),X.N[i]?=some x->σ[i]?=some (some v)->Vis X.env.scope x->∃u,RelV v u/\Look X.env s.heap m x u
 cell:∀x c,X.env.cells.lookup x=some c->∃v,s.heap.IsCell c v
 free:H X.env.locals=none
 Yv:∀x c,X.env.cells.lookup x=some c->H c=none
 pin:∀p∈X.pn++pins,s.heap.get? p.1=some p.2/\H p.1=none/\p.1≠X.env.locals/\p.1∉X.fs/\∀v,p.2.data≠.cell v
 hok:HOk X.prog X.w H s.heap
 len:σ.length=X.N.length
section
variable {X:Cx}{pins:Hu}{σ:List (Option V)}{H H':Hp}{s:Hy}{h':Heap}
def Cx.Ok.GO(ok:X.Ok)(e:X.base.get? b=some o):b∉X.fs:=λhb=>by have:=(ok.aa.mem hb).1;rw[e]at this;cases this
def Inv.bs(I:Inv X pins σ H s):∀b o,X.base.get? b=some o->s.heap.get? b=some o/\H b=none:=λb o e=>
 ⟨I.base.keep b o (I.ok.bs b o e).1 (I.ok.bs b o e).2 (I.ok.GO e) (I.ok.Bd b o e),I.base.free b o (I.ok.bs b o e).1 (I.ok.bs b o e).2 (I.ok.Bd b o e)⟩
def Inv.bk(I:Inv X pins σ H s):∀b o,X.base.get? b=some o->s.heap.get? b=some o:=λb o e=>(I.bs b o e).1
def Inv.mod(I:Inv X pins σ H s):Mod X.K X.mg X.base:=I.ok.mod
def Inv.kIn(I:Inv X pins σ H s):X.K.In s.heap:=I.ok.mod.kin.keeps I.bk
def Inv.lt(I:Inv X pins σ H s):X.env.locals<s.heap.objs.size:=let⟨_,hn,_⟩:=I.loc;hn.lt
def Inv.sz(I:Inv X pins σ H s):X.s₀.heap.objs.size<=s.heap.objs.size:=O8 I.ok.above (a0z I.lt)
def Inv.EW(I:Inv X pins σ H s)(h:s.heap.objs.size<=a):a∉X.fs:=λhb=>by obtain⟨_,o,ho,_⟩:=I.ok.aa.mem hb;exact absurd (N7 (M9 ho) (O8 I.sz h)) (a0l _)
def Inv.cne(I:Inv X pins σ H s):∀x c,X.env.cells.lookup x=some c->c≠X.env.locals:=λx c e z=>by obtain⟨v,o,ho,hd⟩:=I.cell x c e;obtain⟨m,⟨o',es,ep,ho',hd',_⟩,_⟩:=I.loc;rw[z,ho']at ho;cases ho;rw[hd']at hd;cases hd
def Inv.aa(I:Inv X pins σ H s):s.heap.FunFrames X.base X.outer:=by
 have all:∀(l:List Env),(∀b∈frs l,b∈X.fs)->X.s₀.heap.FunFrames X.base l->s.heap.FunFrames X.base l:=by
  intro l
  induction l with
  |nil=>intro _ _;trivial
  |cons env r ih=>intro hs hl;obtain⟨hk,⟨L,o,hf,hn,ho,hd⟩,hr⟩:=hl;have hL:L∈X.fs:=hs L (by unfold frs;rw[a1I,hf];exact M3);obtain⟨sl,e⟩:=I.base.slot L o ho (I.ok.frf L hL) hL λz=>I.ok.Be L z hL;exact⟨hk,⟨L,_,hf,hn,e,hd⟩,ih (λb hb=>hs b (by unfold frs;rw[a1I,hf];exact L9 _ hb)) hr⟩
 exact all X.outer (λ_ hb=>hb) I.ok.aa
def Inv.stack(I:Inv X pins σ H s):s.heap.FunFrames X.base X.stack:=by
 rcases I.ok.stk with e|⟨e,hf⟩
 .rw[e];exact I.aa
 .rw[e];obtain⟨m,hn,_⟩:=I.loc;refine .cons (by rw[I.ok.kind];decide) hf hn ?_ I.aa;exact Heap.get?_none_of_le (O8 I.ok.bsz I.ok.above)
def Inv.Xf(I:Inv X pins σ H s):∀b∈frs X.stack,b∈X.env.locals::X.fs:=λb hb=>by
 rcases I.ok.stk with e|⟨e,hf⟩
 .rw[e]at hb;exact L9 _ hb
 .rw[e]at hb;unfold frs at hb;rw[a1I,hf]at hb;exact hb
def Inv.XY(I:Inv X pins σ H s):∀b∈frs X.stack,H b=none:=λb hb=>by
 rcases O0.mp (I.Xf b hb)with e|hb
 .rw[e];exact I.free
 .obtain⟨_,o,ho,_⟩:=I.ok.aa.mem hb;exact I.base.free b o ho (I.ok.frf b hb) λz=>I.ok.Be b z hb
def Inv.step{g':Array GenState}{t':Nat}{d':Drawn}{ch:Iu}(I:Inv X pins σ H s)
  (hch:∀b∈ch,(b∈X.ex\/X.s₀.heap.objs.size<=b)/\b≠X.env.locals/\(∀x c,X.env.cells.lookup x=some c->c≠b)/\∀p∈X.pn++pins,p.1≠b)
  (keep:∀b o,b≠X.env.locals->b∉X.fs->b∉ch->s.heap.get? b=some o->H b=none->h'.get? b=some o)
  (slot:∀b o,b≠X.env.locals->b∈X.fs->b∉ch->s.heap.get? b=some o->H b=none->∃sl,h'.get? b=some { o with slots:=sl }) (free:∀b o,b∉ch->s.heap.get? b=some o->H b=none->H' b=none)
  (there:∀b o,b∉ch->s.heap.get? b=some o->∃o',h'.get? b=some o')
  (oY:∀b xs,H b=some (.tup xs)->H' b=some (.tup xs)) (ip:∀b o u,H b=some (.frz o u)->H' b=some (.frz o u)) (oI:∀b ps,H b=some (.tbl ps)->∃more,H' b=some (.tbl (ps++more)))
  (ns:∀m,s.heap.Ns X.env.locals m->h'.Ns X.env.locals m) (hok:HOk X.prog X.w H' h') (hg:AllBare g'):
  Inv X pins σ H' { s with heap:=h',gens:=g',drawn:=d',toks:=t' }:=by
 have neL:∀b o,X.s₀.heap.get? b=some o->b≠X.env.locals:=λb o e=>N8 (N7 (M9 e) I.ok.above);have neC:∀b o,X.s₀.heap.get? b=some o->b∉X.ex->b∉ch:=λb o e hx hb=>by
  rcases(hch b hb).1 with z|z
  .exact hx z
  .exact absurd (N7 (M9 e) z) (a0l _)
 have cellK:∀x c,X.env.cells.lookup x=some c->∀v,s.heap.IsCell c v->h'.IsCell c v:=λx c e v ⟨o,ho,hd⟩=>by
  have nch:c∉ch:=λz=>(hch c z).2.2.1 x c e rfl;by_cases hc:c∈X.fs
  .obtain⟨sl,q⟩:=slot c o (I.cne x c e) hc nch ho (I.Yv x c e);exact⟨_,q,hd⟩
  .exact⟨o,keep c o (I.cne x c e) hc nch ho (I.Yv x c e),hd⟩
 refine⟨I.ok,I.os,hg,⟨λb o e n hb hx=>?_,λb o e n hb hx=>?_,λb o e n hx=>?_,λb o e hx=>?_,λb xs e=>oY b xs (I.base.oY b xs e),λb o xs e=>ip b o xs (I.base.ip b o xs e),λb ps e=>?_⟩,?_,λx c e=>?_,?_,λx c e=>?_,λp hp=>?_,hok,I.len⟩
 .exact keep b o (neL b o e) hb (neC b o e hx) (I.base.keep b o e n hb hx) (I.base.free b o e n hx)
 .obtain⟨sl,e1⟩:=I.base.slot b o e n hb hx;obtain⟨sl',e2⟩:=slot b _ (neL b o e) hb (neC b o e hx) e1 (I.base.free b o e n hx);exact⟨sl',e2⟩
 .obtain⟨o',e1⟩:=I.base.there b o e hx;exact free b o' (neC b o e hx) e1 (I.base.free b o e n hx)
 .obtain⟨o',e1⟩:=I.base.there b o e hx;exact there b o' (neC b o e hx) e1
 .obtain⟨m1,e1⟩:=I.base.oI b ps e;obtain⟨m2,e2⟩:=oI b _ e1;exact⟨m1++m2,by rw[e2,Array.append_assoc]⟩
 .obtain⟨m,hn,hl⟩:=I.loc;refine⟨m,ns m hn,λi x v e1 e2 e3=>?_⟩;obtain⟨u,r,l⟩:=hl i x v e1 e2 e3;refine⟨u,r,?_⟩;rcases l with l|⟨k,c,e,z⟩
  .exact .inl l
  .exact .inr ⟨k,c,e,cellK x c e _ z⟩
 .obtain⟨v,z⟩:=I.cell x c e;exact⟨v,cellK x c e v z⟩
 .obtain⟨m,⟨o,_,_,ho,_⟩,_⟩:=I.loc;exact free _ o (λz=>(hch _ z).2.1 rfl) ho I.free
 .obtain⟨v,o,ho,hd⟩:=I.cell x c e;exact free c o (λz=>(hch c z).2.2.1 x c e rfl) ho (I.Yv x c e)
 .obtain⟨e,n,ne,nf,d⟩:=I.pin p hp;have nch:p.1∉ch:=λz=>(hch p.1 z).2.2.2 p hp rfl;exact⟨keep p.1 p.2 ne nf nch e n,free p.1 p.2 nch e n,ne,nf,d⟩
def Inv.un(I:Inv X pins σ H s)(u:Un X.fs [] H H' s.heap h')(hok:HOk X.prog X.w H' h'):Inv X pins σ H' { s with heap:=h',toks:=t' }:=by
 obtain⟨m,⟨o,es,ep,ho,r⟩,_⟩:=id I.loc;obtain⟨sl,hL⟩:=u.any ho I.free (by simp);exact I.step (g':=s.gens) (d':=s.drawn) (ch:=[]) (λ_ z=>nomatch z) (λb o _ hb _ e n=>u.keep b o e n hb (by simp)) (λb o _ hb _ e n=>u.slot b o e n hb (by simp)) (λb o _ e n=>u.free b o e n (by simp)) (λb o _ e=>u.there b o e (by simp)) u.oY u.ip u.oI (λm' hm=>by
  obtain⟨o',es',ep',ho',r'⟩:=hm;rw[ho]at ho';cases ho';exact⟨_,es',ep',hL,r'⟩) hok I.bare
def Inv.call(I:Inv X pins σ H s)(u:Un (frs X.stack) ch H H' s.heap h')(hok:HOk X.prog X.w H' h')(hg:AllBare g')
  (hch:∀b∈ch,(b∈X.ex\/X.s₀.heap.objs.size<=b)/\b≠X.env.locals/\(∀x c,X.env.cells.lookup x=some c->c≠b)/\∀p∈X.pn++pins,p.1≠b):
  Inv X pins σ H' { s with heap:=h',gens:=g',drawn:=d',toks:=t' }:=by
 obtain⟨m,⟨o,es,ep,ho,r⟩,_⟩:=id I.loc;obtain⟨sl,hL⟩:=u.any ho I.free λz=>(hch _ z).2.1 rfl;exact I.step (ch:=ch) hch (λb o hL hb hc e n=>u.keep b o e n (λz=>(O0.mp (I.Xf b z)).elim hL hb) hc) (λb o _ _ hc e n=>u.any e n hc) (λb o hc e n=>u.free b o e n hc) (λb o hc e=>u.there b o e hc) u.oY u.ip u.oI (λm' hm=>by
  obtain⟨o',es',ep',ho',r'⟩:=hm;rw[ho]at ho';cases ho';exact⟨_,es',ep',hL,r'⟩) hok hg
def Inv.turned(I:Inv X pins σ H s)(k:∀b o,b≠it->s.heap.get? b=some o->h'.get? b=some o)(hn:H it=none)(hL:it≠X.env.locals)
  (h1:it∈X.ex\/X.s₀.heap.objs.size<=it) (h2:∀x c,X.env.cells.lookup x=some c->c≠it) (h3:∀p∈X.pn++pins,p.1≠it):Inv X pins σ H { s with heap:=h',toks:=t' }:=by
 have nit:∀b u,H b=some u->b≠it:=λb u e z=>by rw[z,hn]at e;cases e
 refine I.step (g':=s.gens) (d':=s.drawn) (ch:=[it]) (λb hb=>?_) (λb o _ _ hc e _=>k b o (λz=>hc (by simp[z])) e) (λb o _ _ hc e _=>⟨o.slots,k b o (λz=>hc (by simp[z])) e⟩) (λ_ _ _ _ n=>n)
  (λb o hc e=>⟨o,k b o (λz=>hc (by simp[z])) e⟩) (λ_ _ e=>e) (λ_ _ _ e=>e) (λb ps e=>⟨#[],by rw[e];simp⟩) (λm hm=>?_) (λb u e=>?_) I.bare
 .have e:b=it:=by simpa using hb
  subst e;exact⟨h1,hL,h2,h3⟩
 .obtain⟨o,es,ep,ho,r⟩:=hm;exact⟨o,es,ep,k _ o (Ne.symm hL) ho,r⟩
 .refine(I.hok b u e).h_ (λc v hc q=>k c v ?_ q) (λ_ q=>q) λ_ _ q=>q;rcases hc with z|z
  .rw[z];exact nit b u e
  .exact nit c _ z
def Inv.tok(I:Inv X pins σ H s)(t:Nat):Inv X pins σ H { s with toks:=t }:=I.un (h':=s.heap) (t':=t) Un.refl I.hok
def Inv.kept(I:Inv X pins σ H s)(k:∀b u,s.heap.get? b=some u->h'.get? b=some u):Inv X pins σ H { s with heap:=h',toks:=t' }:=I.un (Un.kept k) (I.hok.kept k)
def Inv.laid(I:Inv X pins σ H s)(k:∀b u,s.heap.get? b=some u->h'.get? b=some u)(hp:s.heap.objs.size<=a)(new:yM X.prog X.w (upd H a o) h' a o):
  Inv X pins σ (upd H a o) { s with heap:=h',toks:=t' }:=I.un (Un.laid k hp (I.hok.fresh hp)) (I.hok.laid k hp new)
def Inv.write(I:Inv X pins σ H s)(mu:Mut (H x))(he:e=x\/H e=some (.own x))(k:∀b u,b≠e->s.heap.get? b=some u->h'.get? b=some u)(heo:∃u,h'.get? e=some u)
  (new:yM X.prog X.w (upd H x o) h' x o):Inv X pins σ (upd H x o) { s with heap:=h',toks:=t' }:=I.un (Un.write mu he k heo) (I.hok.write mu he k heo new)
def Inv.JK(I:Inv X pins σ H s)(h:∀p∈pins',s.heap.get? p.1=some p.2/\H p.1=none/\p.1≠X.env.locals/\p.1∉X.fs/\∀v,p.2.data≠.cell v):Inv X pins' σ H s:=
 ⟨I.ok,I.os,I.bare,I.base,I.loc,I.cell,I.free,I.Yv,λp hp=>(a0b.mp hp).elim (λz=>I.pin p (a0e _ z)) (h p),I.hok,I.len⟩
def d8{N:Hx}(hN:N.Nodup){i j:Nat}{x:Str}(a:N[i]?=some x)(b:N[j]?=some x):i=j:=by obtain⟨h1,e1⟩:=N5.mp a;obtain⟨h2,e2⟩:=N5.mp b;exact(List.getElem_inj hN).mp (e1.trans e2.symm)
def ag(I:Inv X pins σ H s)(hN:X.N.Nodup)(hi:X.N[i]?=some x)(hx:Loc X.env.scope x)(r:RelV v u)
  (h:∀s',Inv X pins (σ.set i (some v)) H s'->(∃a,Heap.SameBut a s.heap s'.heap/\(a=X.env.locals\/X.env.cells.lookup x=some a))->Q () s') (hf:X.fn x=true\/X.env.scope.names.lookup x=some .local:=by first|exact .inl rfl|exact .inr rfl|assumption):wpAny M A (storeName X.env x u) Q E s:=by
 obtain⟨m,hn,hl⟩:=id I.loc;have hcls:(X.env.scope.kind == .class||(X.env.scope.kind == .module&&X.env.locals != X.env.globals))=false:=by rw[I.ok.kind];rfl
 have hiσ:i<σ.length:=by rw[I.len];exact(N5.mp hi).1
 have cne:=I.cne;have tracked:∀{a:Addr}{h':Heap},(∃o,s.heap.get? a=some o/\H a=none)->Heap.SameBut a s.heap h'->HOk X.prog X.w H h':=λ{a h'} ha hs b ob e=>by
  obtain⟨_,_,hfree⟩:=ha;refine(I.hok b ob e).h_ (λc w' hc q=>(hs.2 c ?_).trans q) (λ_ q=>q) λ_ _ q=>q
  rintro rfl
  rcases hc with rfl|hc
  .rw[hfree]at e;cases e
  .rw[hfree]at hc;cases hc
 rcases hx with hk|hk
 .refine wpAny_storeName_local hk hn (λh' hn' hs=>?_) hcls;obtain⟨oL,_,_,hoL,_⟩:=id hn;refine h _ ⟨I.ok,I.os,I.bare,⟨λb o e n hb hx=>?_,λb o e n hb hx=>?_,I.base.free,λb o e hx=>?_,I.base.oY,I.base.ip,I.base.oI⟩,⟨_,hn',λj y v' e1 e2 e3=>?_⟩,λy c e=>?_,I.free,I.Yv,λp hp=>?_,tracked ⟨oL,hoL,I.free⟩ hs,by simpa using I.len⟩ ⟨_,hs,.inl rfl⟩
  .exact(hs.2 b (N8 (N7 (M9 e) I.ok.above))).trans (I.base.keep b o e n hb hx)
  .obtain⟨sl,e1⟩:=I.base.slot b o e n hb hx;exact⟨sl,(hs.2 b (N8 (N7 (M9 e) I.ok.above))).trans e1⟩
  .obtain⟨o',e1⟩:=I.base.there b o e hx;exact⟨o',(hs.2 b (N8 (N7 (M9 e) I.ok.above))).trans e1⟩
  .by_cases hj:j=i
   .subst hj;rw[hi]at e1;cases e1;rw[O9 hiσ]at e2;cases e2;exact⟨u,r,.inl ⟨hk,by simp⟩⟩
   .rw[O6 (Ne.symm hj)]at e2;obtain⟨u',r',q⟩:=hl j y v' e1 e2 e3;refine⟨u',r',?_⟩;rcases q with⟨k,e⟩|⟨k,c,e,z⟩
    .refine .inl ⟨k,?_⟩;have:y≠x:=λe=>hj (d8 hN e1 (e▸hi));simp[this,e]
    .exact .inr ⟨k,c,e,z.sameBut hs (cne y c e)⟩
  .obtain⟨w',z⟩:=I.cell y c e;exact⟨w',z.sameBut hs (cne y c e)⟩
  .obtain⟨e,n,ne,nf,d⟩:=I.pin p hp;exact⟨(hs.2 p.1 ne).trans e,n,ne,nf,d⟩
 .have hfn:X.fn x=true:=by
   rcases hf with z|z
   .exact z
   .rw[z]at hk;cases hk
  obtain⟨c,hc⟩:=I.ok.has x (.inl hk);obtain⟨w',z⟩:=I.cell x c hc;refine wpAny_storeName_cell I.ok.kind hk hc z (λh' hc' hs=>?_);obtain⟨oc,hoc,hocd⟩:=id z;refine h { s with heap:=h' } ⟨I.ok,I.os,I.bare,⟨λb o e n hb hx=>?_,λb o e n hb hx=>?_,I.base.free,λb o e hx=>?_,I.base.oY,I.base.ip,I.base.oI⟩,⟨m,hn.sameBut hs (Ne.symm (cne x c hc)),λj y v' e1 e2 e3=>?_⟩,λy c' e=>?_,I.free,I.Yv,λp hp=>?_,tracked ⟨oc,hoc,I.Yv x c hc⟩ hs,by simpa using I.len⟩ ⟨c,hs,.inr hc⟩
  .exact(hs.2 b (N8 (N7 (M9 e) (I.ok.cab x c hfn hc)))).trans (I.base.keep b o e n hb hx)
  .obtain⟨sl,e1⟩:=I.base.slot b o e n hb hx;exact⟨sl,(hs.2 b (N8 (N7 (M9 e) (I.ok.cab x c hfn hc)))).trans e1⟩
  .obtain⟨o',e1⟩:=I.base.there b o e hx;exact⟨o',(hs.2 b (N8 (N7 (M9 e) (I.ok.cab x c hfn hc)))).trans e1⟩
  .by_cases hj:j=i
   .subst hj;rw[hi]at e1;cases e1;rw[O9 hiσ]at e2;cases e2;exact⟨u,r,.inr ⟨.inl hk,c,hc,hc'⟩⟩
   .rw[O6 (Ne.symm hj)]at e2;obtain⟨u',r',q⟩:=hl j y v' e1 e2 e3;refine⟨u',r',?_⟩;rcases q with q|⟨k,c',e,z'⟩
    .exact .inl q
    .refine .inr ⟨k,c',e,z'.sameBut hs ?_⟩
     rintro rfl
     exact hj (d8 hN e1 (I.ok.inj _ _ _ e hc▸hi))
  .by_cases hcc:c'=c
   .subst hcc;exact⟨_,hc'⟩
   .obtain⟨w2,z2⟩:=I.cell y c' e;exact⟨w2,z2.sameBut hs hcc⟩
  .obtain⟨e,n,ne,nf,d⟩:=I.pin p hp;refine⟨(hs.2 p.1 ?_).trans e,n,ne,nf,d⟩;intro q;rw[q,hoc]at e;have q':oc=p.2:=S7 e;exact d w' (by rw[<- q'];exact hocd)
def Vg(I:Inv X pins σ H s)(hN:X.N.Nodup)(hi:X.N[i]?=some x)(hx:Loc X.env.scope x)(r:RelV v u)
  (h:∀s',Inv X pins (σ.set i (some v)) H s'->Q () s') (hf:X.fn x=true\/X.env.scope.names.lookup x=some .local:=by first|exact .inl rfl|exact .inr rfl|assumption):wpAny M A (storeName X.env x u) Q E s:=
 ag I hN hi hx r (λs' I' _=>h s' I') hf
def Inv.Bz(I:Inv X pins σ H s)(ho:s'.os=s.os)(u:Un (frs X.stack) ch H H' s.heap s'.heap)(hok:HOk X.prog X.w H' s'.heap)(hg:AllBare s'.gens)
  (hch:∀b∈ch,(b∈X.ex\/X.s₀.heap.objs.size<=b)/\b≠X.env.locals/\(∀x c,X.env.cells.lookup x=some c->c≠b)/\∀p∈X.pn++pins,p.1≠b):Inv X pins σ H' s':=by
 obtain⟨h',g',d',t',o'⟩:=s';have e:o'=s.os:=ho;subst e;exact I.call (g':=g') (t':=t') (d':=d') u hok hg hch
end
abbrev XK:=Value->Option Addr->Hp->Prop
abbrev St:=List (Option V)
abbrev VK:=V->Hp->Prop
abbrev TE:=St->Hp->VK->Prop
abbrev TT:=St->Hp->(Bool->Hp->Prop)->Prop
abbrev TA:=St->Hp->(List V->Hp->Prop)->Prop
structure Ends where
 nx:St->Hp->Prop
 rt:VK
 bk:St->Hp->Prop:=λ_ _=>False
 ct:St->Hp->Prop:=λ_ _=>False
abbrev TS:=Ends->St->Hp->Prop
def EP(X:Cx)(pins:Hu)(σ:St)(Q:VK)(u:Value)(s':Hy):Prop:=∃v H',Inv X pins σ H' s'/\RelV v u/\Q v H'
def TP(X:Cx)(pins:Hu)(σ:St)(Q:Bool->Hp->Prop)(b:Bool)(s':Hy):Prop:=∃H',Inv X pins σ H' s'/\Q b H'
def AP(X:Cx)(pins:Hu)(σ:St)(Q:List V->Hp->Prop)(us:HB)(s':Hy):Prop:=∃vs H',Inv X pins σ H' s'/\Vals vs us/\Q vs H'
def SP(X:Cx)(pins:Hu)(D:Ends)(f:Flow)(s':Hy):Prop:=
 match f with
 |.next=>∃σ' H',Inv X pins σ' H' s'/\D.nx σ' H'
 |.brk=>∃σ' H',Inv X pins σ' H' s'/\D.bk σ' H'
 |.cont=>∃σ' H',Inv X pins σ' H' s'/\D.ct σ' H'
 |.ret u=>∃v σ' H',Inv X pins σ' H' s'/\RelV v u/\D.rt v H'
def PE(X:Cx)(e:HJ)(t:TE):Prop:=
 ∀(pins:Hu)(s:Hy)(σ:St)(H:Hp)(Q:VK),Inv X pins σ H s->t σ H Q->wpAny (IP X) X.A (eval e X.env) (EP X pins σ Q) X.xe s
def PT(X:Cx)(e:HJ)(t:TT):Prop:=
 ∀(pins:Hu)(s:Hy)(σ:St)(H:Hp)(Q:Bool->Hp->Prop),Inv X pins σ H s->t σ H Q->wpAny (IP X) X.A (isTrue e X.env (eval e X.env)) (TP X pins σ Q) X.xe s
def PW(X:Cx)(e:HJ)(t:TT):Prop:=
 ∀(whole:Sem Value)(pins:Hu)(s:Hy)(σ:St)(H:Hp)(Q:Bool->Hp->Prop),Inv X pins σ H s->t σ H Q->wpAny (IP X) X.A (isTrue e X.env whole) (TP X pins σ Q) X.xe s
def PW.pt(h:PW X e t):PT X e t:=h _
def PA(X:Cx)(es:HD)(t:TA):Prop:=
 ∀(pos:Pos)(pins:Hu)(s:Hy)(σ:St)(H:Hp)(Q:List V->Hp->Prop),Inv X pins σ H s->t σ H Q->wpAny (IP X) X.A (spliced (backTo pos (starEach es X.env))) (AP X pins σ Q) X.xe s
def PS(X:Cx)(st:Ir)(t:TS):Prop:=
 ∀(pins:Hu)(s:Hy)(σ:St)(H:Hp)(D:Ends),Inv X pins σ H s->t D σ H->wpAny (IP X) X.A (exec st X.env) (SP X pins D) X.xe s
def PSs(X:Cx)(st:Ij)(t:TS):Prop:=
 ∀(pins:Hu)(s:Hy)(σ:St)(H:Hp)(D:Ends),Inv X pins σ H s->t D σ H->wpAny (IP X) X.A (execs st X.env) (SP X pins D) X.xe s
def thn{α:Type}{t:Sem α}{Q Q':α->Shared->Prop}(h:wpAny M A t Q E s)(hQ:∀a s,Q a s->Q' a s):wpAny M A t Q' E s:=R8 h hQ λ_ _ x=>x
section
variable {X:Cx}
def XZ(i:Nat):TE:=λσ H Q=>∃v,σ[i]?=some (some v)/\Q v H
def tC(v:V):TE:=λ_ H Q=>Q v H
def BA(hN:X.N[i]?=some x)(hv:Vis X.env.scope x)(hd:(x==("__debug__":Str))=false:=by decide)(hcd:(x==("__classdict__":Str))=false:=by decide):PE X (.Name x pos) (XZ i):=by
 intro pins s σ H Q I h;obtain⟨v,e,h⟩:=h;obtain⟨m,hn,hl⟩:=I.loc;obtain⟨u,r,l⟩:=hl i x v hN e hv;have fin:EP X pins σ Q u s:=⟨v,H,I,r,h⟩;rcases l with⟨hk,hm⟩|⟨hk,c,hc,hcell⟩
 .exact wpAny_Name (wpAny_loadName_local I.ok.kind hk hn hm fin) hd
 .rcases hk with hk|hk
  .exact wpAny_Name (wpAny_loadName_cell I.ok.kind hk hc hcell fin) hd
  .exact wpAny_Name (wpAny_loadName_free I.ok.kind hk hc hcell fin hcd) hd
def BB{i j pos}:PE X (.Constant (.int i) j pos) (tC (.int i)):=λ_ _ _ H _ I h=>wpAny_Constant_int ⟨.int i,H,I.tok _,⟨_,rfl⟩,h⟩
def QR{b j pos}:PE X (.Constant (.bool b) j pos) (tC (.bl b)):=λ_ _ _ H _ I h=>Constant_bool ⟨.bl b,H,I,rfl,h⟩
def Vz{j pos}:PE X (.Constant .none j pos) (tC .non):=λ_ _ _ H _ I h=>Constant_none ⟨.non,H,I,rfl,h⟩
def yC{x j pos}:PE X (.Constant (.str x) j pos) (tC (.str x)):=λ_ _ _ H _ I h=>Calls.Constant_str ⟨.str x,H,I.tok _,⟨_,rfl⟩,h⟩
def Gl(X:Cx)(x:Str):Prop:=X.env.kindOf x=some .globalImplicit
def JL(I:Inv X pins σ H s)(hg:Gl X x)(hm:X.mg x=some u)(h:Q u s)
  (hd:(x==("__debug__":Str))=false:=by decide):wpAny (IP X) X.A (eval (.Name x pos) X.env) Q E s:=
 a1V I.ok.kind hg (Calls.loadGlobal_global (by rw[I.ok.glob];exact I.mod.glob.keeps I.bk) hm h) hd
def Xg(I:Inv X pins σ H s)(hg:Gl X x)(hm:X.mg x=none)(hv:bootBuiltins x=some u)(h:Q u s)
  (hn:x≠"__name__":=by decide) (hd:(x==("__debug__":Str))=false:=by decide):wpAny (IP X) X.A (eval (.Name x pos) X.env) Q E s:=by
 obtain⟨mb,h1,h2⟩:=I.mod.blt;exact a1V I.ok.kind hg (Calls.loadGlobal_builtin (by rw[I.ok.glob];exact I.mod.glob.keeps I.bk) hm (by rw[I.ok.blt];exact h1.keeps I.bk) ((h2 x hn).trans hv) h) hd
def qS(hg:Gl X x)(hm:X.mg x=some u)(r:RelV v u)(hd:(x==("__debug__":Str))=false:=by decide):PE X (.Name x pos) (tC v):=
 λ_ _ _ H _ I h=>JL I hg hm ⟨v,H,I,r,h⟩ hd
def VA(hg:Gl X x)(hm:X.mg x=none)(hv:bootBuiltins x=some u)(r:RelV v u)(hn:x≠"__name__":=by decide)(hd:(x==("__debug__":Str))=false:=by decide):PE X (.Name x pos) (tC v):=
 λ_ _ _ H _ I h=>Xg I hg hm hv ⟨v,H,I,r,h⟩ hn hd
variable {a b:HJ}{ta tb:TE}{pos:Pos}
def X0(b:HJ)(h:op≠.In)(h2:op≠.NotIn):behindInMarks op b=false:=by
 have e1:(op==CmpOp.In)=false:=by cases op<;>first|rfl|exact absurd rfl h
 have e2:(op==CmpOp.NotIn)=false:=by cases op<;>first|rfl|exact absurd rfl h2
 cases b<;>simp[behindInMarks,e1,e2]
def tB(t:TE):TT:=λσ H Q=>t σ H λx H1=>∃c,x=.bl c/\Q c H1
def s_(h:PE X e t)(he:∀whole,isTrue e X.env whole=(do let v<-whole;standAt e.pos;holding [v] (truthy v)):=by intro _;rfl):PT X e (tB t):=by intro pins s σ H Q I hw;refine isTrue_plain (thn (h pins s σ H _ I hw) λv s1 ⟨x,H1,I1,r1,q1⟩=>?_) (he _);obtain⟨d,rfl,q⟩:=q1;cases r1;exact a1g ⟨H1,I1,q⟩
variable {tA tB':TT}{rest:HD}
def GP(t u:TT):TT:=λσ H Q=>t σ H λc H1=>if c=true then u σ H1 Q else Q false H1
def tOr(t u:TT):TT:=λσ H Q=>t σ H λc H1=>if c=true then Q true H1 else u σ H1 Q
def GQ(t:TT):TT:=λσ H Q=>t σ H λc H1=>Q (!c) H1
def pw_and1(ha:PT X a tA):PW X (.BoolOp .And [a] pos) tA:=by
 intro wh pins s σ H Q I h;refine isTrue_and (thn (ha pins s σ H Q I h) λc s1 e=>?_);cases c with
 |true=>exact isTrue_and_nil e
 |false=>exact e
def pw_or1(ha:PT X a tA):PW X (.BoolOp .Or [a] pos) tA:=by
 intro wh pins s σ H Q I h;refine isTrue_or (thn (ha pins s σ H Q I h) λc s1 e=>?_);cases c with
 |false=>exact isTrue_or_nil e
 |true=>exact e
def pw_and(ha:PT X a tA)(hb:PW X (.BoolOp .And (b::rest) pos) tB'):PW X (.BoolOp .And (a::b::rest) pos) (GP tA tB'):=by
 intro wh pins s σ H Q I h;refine isTrue_and (thn (ha pins s σ H _ I h) λc s1 ⟨H1,I1,q1⟩=>?_);cases c with
 |true=>exact hb wh pins s1 σ H1 Q I1 q1
 |false=>exact⟨H1,I1,q1⟩
def pw_or(ha:PT X a tA)(hb:PW X (.BoolOp .Or (b::rest) pos) tB'):PW X (.BoolOp .Or (a::b::rest) pos) (tOr tA tB'):=by
 intro wh pins s σ H Q I h;refine isTrue_or (thn (ha pins s σ H _ I h) λc s1 ⟨H1,I1,q1⟩=>?_);cases c with
 |true=>exact⟨H1,I1,q1⟩
 |false=>exact hb wh pins s1 σ H1 Q I1 q1
def tw(ha:PT X a tA):PT X (.UnaryOp .Not a pos) (GQ tA):=by intro pins s σ H Q I h;exact isTrue_not (ha pins s σ H (λc H1=>Q (!c) H1) I h)
def EX(ta tb:TE):TE:=λσ H Q=>ta σ H λx H1=>∃c,x=.bl c/\if c=true then tb σ H1 Q else Q (.bl false) H1
def EY(ta:TE):TE:=λσ H Q=>ta σ H λx H1=>∃c,x=.bl c/\Q (.bl (!c)) H1
def BC{op}(h:PE X a t):PE X (.BoolOp op [a] pos) t:=λpins s σ H Q I hw=>BoolOp_one (h pins s σ H Q I hw)
def BD(ha:PE X a ta)(hb:PE X (.BoolOp .And (b::rest) pos) tb):PE X (.BoolOp .And (a::b::rest) pos) (EX ta tb):=by
 intro pins s σ H Q I h;refine BoolOp_and (thn (ha pins s σ H _ I h) λv s1 ⟨x,H1,I1,r1,q1⟩=>?_);obtain⟨c,rfl,q1⟩:=q1;cases r1;refine a1g ?_;cases c with
 |true=>exact hb pins s1 σ H1 Q I1 q1
 |false=>exact⟨.bl false,H1,I1,rfl,q1⟩
def BE(ha:PE X a ta):PE X (.UnaryOp .Not a pos) (EY ta):=by intro pins s σ H Q I h;refine UnaryOp_ (thn (ha pins s σ H _ I h) λv s1 ⟨x,H1,I1,r1,q1⟩=>?_);obtain⟨c,rfl,q1⟩:=q1;cases r1;exact not_of (a1g ⟨.bl (!c),H1,I1,rfl,q1⟩)
end
def SqL(K:HN)(H:Hp)(a:Addr)(xs:HF):Prop:=
 Rd H a (.lst xs)\/
  ∃(o:Obj)(its:Im)(n:Nat),K.lookup a=some o/\o.cls=.type "list"/\o.dict=none/\o.data=.seq its n/\its.size<=sizeLine/\Vals xs its.toList
def SqT(K:HN)(H:Hp)(a:Addr)(xs:HF):Prop:=
 Rd H a (.tup xs)\/
  ∃(o:Obj)(its:Im)(n:Nat),K.lookup a=some o/\o.cls=.type "tuple"/\o.data=.seq its n/\its.size<=sizeLine/\Vals xs its.toList
def GR:Value->Option V
 |.none=>some .non
 |.bool b=>some (.bl b)
 |.int i _=>some (.int i)
 |.str x _=>some (.str x)
 |.bytes b _=>some (.byt b)
 |.float b _=>some (.flt b)
 |.ref a=>some (.ref a)
 |.type n=>some (.ty n)
 |_=>none
def RelV.abs(r:RelV x u):GR u=some x:=by
 cases x with
 |non=>cases r;rfl
 |bl _=>cases r;rfl
 |int _=>obtain⟨t,rfl⟩:=r;rfl
 |str _=>obtain⟨t,rfl⟩:=r;rfl
 |byt _=>obtain⟨t,rfl⟩:=r;rfl
 |flt _=>obtain⟨t,rfl⟩:=r;rfl
 |ref _=>cases r;rfl
 |ty _=>cases r;rfl
def RelV.inj(r:RelV x u)(q:RelV y u):x=y:=S7 (r.abs.symm.trans q.abs)
def Vals.inj:∀{xs ys:HF}{us:HB},Vals xs us->Vals ys us->xs=ys
 |_,_,_,.nil,.nil=>rfl
 |_,_,_,.cons r t,.cons r' t'=>by rw[r.inj r',Vals.inj t t']
def SqL.of{K:HN}(h:H a=some (.lst xs)):SqL K H a xs:=.inl (.inl h)
def SqT.of{K:HN}(h:H a=some (.tup xs)):SqT K H a xs:=.inl (.inl h)
def Inv.list(I:Inv X pins σ H s)(h:SqL X.K H a xs):∃its:List Value,Vals xs its/\PlainL s.heap a its.toArray/\xs.length<=sizeLine:=by
 rcases h with h|⟨o,its,n,hk,hc,hd,hs,hz,r⟩
 .obtain⟨z,its,n,r,e⟩:=h.ok I.hok;exact⟨its,r,⟨_,n,e,rfl,rfl,rfl⟩,z⟩
 .refine⟨its.toList,r,⟨o,n,I.kIn a o hk,hc,hd,by simpa using hs⟩,?_⟩;have e:=r.length;simp only[Array.length_toList]at e;omega
def Inv.tuple(I:Inv X pins σ H s)(h:SqT X.K H a xs):∃its:List Value,Vals xs its/\IsTup s.heap a its.toArray/\xs.length<=sizeLine:=by
 rcases h with h|⟨o,its,n,hk,hc,hs,hz,r⟩
 .obtain⟨z,its,r,p⟩:=h.ok I.hok;exact⟨its,r,p,z⟩
 .refine⟨its.toList,r,⟨o,I.kIn a o hk,hc,n,by simpa using hs⟩,?_⟩;have e:=r.length;simp only[Array.length_toList]at e;omega
def Inv.o6(I:Inv X pins σ H s)(h:SqL X.K H a xs)(h':SqL X.K H a ys):xs=ys:=by
 obtain⟨its,r,⟨o,n,e,_,_,d⟩,_⟩:=I.list h;obtain⟨its',r',⟨o',n',e',_,_,d'⟩,_⟩:=I.list h';rw[e]at e';cases e';rw[d]at d';injection d' with d1 _
 have:its=its':=by simpa using T1 Array.toList d1
 subst this;exact r.inj r'
def Inv.ah(I:Inv X pins σ H s)(h:SqT X.K H a xs)(h':SqT X.K H a ys):xs=ys:=by
 obtain⟨its,r,⟨o,e,_,n,d⟩,_⟩:=I.tuple h;obtain⟨its',r',⟨o',e',_,n',d'⟩,_⟩:=I.tuple h';rw[e]at e';cases e';rw[d]at d';injection d' with d1 _
 have:its=its':=by simpa using T1 Array.toList d1
 subst this;exact r.inj r'
abbrev Cx.Vh(X:Cx)(E:Hw):Cx:={ X with xe:=E }
abbrev Cx.nox(X:Cx):Cx:=X.Vh λ_ _=>False
def Cx.Ok.Vh{X:Cx}(ok:X.Ok)(E:Hw):(X.Vh E).Ok:=
 ⟨ok.mod,ok.kind,ok.glob,ok.blt,ok.above,ok.inj,ok.has,ok.cab,ok.hd,ok.frames,ok.stk,ok.exf,ok.bs,ok.bsz,ok.Bd,ok.Be,ok.aa,ok.frf⟩
def Cx.Ok.jV{X:Cx}{E:Hw}(ok:(X.Vh E).Ok):X.Ok:=
 ⟨ok.mod,ok.kind,ok.glob,ok.blt,ok.above,ok.inj,ok.has,ok.cab,ok.hd,ok.frames,ok.stk,ok.exf,ok.bs,ok.bsz,ok.Bd,ok.Be,ok.aa,ok.frf⟩
def Inv.Vh(I:Inv X pins σ H s)(E:Hw):Inv (X.Vh E) pins σ H s:=⟨I.ok.Vh E,I.os,I.bare,I.base,I.loc,I.cell,I.free,I.Yv,I.pin,I.hok,I.len⟩
def Inv.jV(I:Inv (X.Vh E) pins σ H s):Inv X pins σ H s:=⟨I.ok.jV,I.os,I.bare,I.base,I.loc,I.cell,I.free,I.Yv,I.pin,I.hok,I.len⟩
def SP.jV(h:SP (X.Vh E) pins D f s'):SP X pins D f s':=by
 cases f with
 |next=>obtain⟨σ',H',I,q⟩:=h;exact⟨σ',H',I.jV,q⟩
 |brk=>obtain⟨σ',H',I,q⟩:=h;exact⟨σ',H',I.jV,q⟩
 |cont=>obtain⟨σ',H',I,q⟩:=h;exact⟨σ',H',I.jV,q⟩
 |ret u=>obtain⟨v,σ',H',I,r,q⟩:=h;exact⟨v,σ',H',I.jV,r,q⟩
section
variable {X:Cx}{st:Ir}{rest:Ij}{t u:TS}{e:HJ}{te:TE}{pos:Pos}
def EZ:TS:=λD σ H=>D.nx σ H
def E1(t u:TS):TS:=λD σ H=>t { D with nx:=u D } σ H
def iw:PSs X [] EZ:=λ_ _ σ H _ I h=>a04 ⟨σ,H,I,h⟩
def Vi(h1:PS X st t)(h2:PSs X rest u):PSs X (st::rest) (E1 t u):=by
 intro pins s σ H D I h;refine a2b (thn (h1 pins s σ H { D with nx:=u D } I h) λf s1 q=>?_);cases f with
 |next=>obtain⟨σ',H',I',q⟩:=q;exact h2 pins s1 σ' H' D I' q
 |ret v=>exact q
 |brk=>exact q
 |cont=>exact q
def ZQ(h1:PS X st t):PSs X [st] t:=by
 intro pins s σ H D I h;refine a2b (thn (h1 pins s σ H D I h) λf s1 q=>?_);cases f with
 |next=>exact a04 q
 |ret v=>exact q
 |brk=>exact q
 |cont=>exact q
def Inv.quiet(I:Inv X pins σ H s):interactive X.env=false:=by simp[interactive,I.ok.kind]
def E2(te:TE):TS:=λD σ H=>te σ H λ_ H1=>D.nx σ H1
def X2(he:PE X e te)(hs:swapsWith e none pos.line X.env=pure false:=by rfl):PS X (.Expr e pos) (E2 te):=by intro pins s σ H D I h;exact wpAny_Expr_any (thn (he pins s σ H _ I h) λv s1 ⟨x,H1,I1,r1,q1⟩=>⟨σ,H1,I1,q1⟩) I.quiet hs
def GS(te:TE):TS:=λD σ H=>te σ H D.rt
def d9(he:PE X e te):PS X (.Return (some e) pos) (GS te):=by intro pins s σ H D I h;exact wpAny_Return_some (thn (he pins s σ H _ I h) λv s1 ⟨x,H1,I1,r1,q1⟩=>⟨x,σ,H1,I1,r1,q1⟩)
def GU(c:TT)(t u:TS):TS:=λD σ H=>c σ H λb H1=>if b=true then t D σ H1 else u D σ H1
def BF(hc:PT X c tc)(ha:PSs X a t)(hb:PSs X b u):PS X (.If c a b pos) (GU tc t u):=by
 intro pins s σ H D I h;refine wpAny_If (thn (hc pins s σ H _ I h) λd s1 ⟨H1,I1,q1⟩=>?_);cases d with
 |true=>exact ha pins s1 σ H1 D I1 q1
 |false=>exact hb pins s1 σ H1 D I1 q1
end
abbrev TG:=V->St->Hp->(St->Hp->Prop)->Prop
abbrev TGs:=List V->St->Hp->(St->Hp->Prop)->Prop
def PG(X:Cx)(target:HJ)(t:TG):Prop:=
 ∀(pins:Hu)(s:Hy)(σ:St)(H:Hp)(v:V)(u:Value)(Q:St->Hp->Prop),Inv X pins σ H s->RelV v u->t v σ H Q->
  wpAny (IP X) X.A (assign target X.env u) (λ_ s'=>∃σ' H',Inv X pins σ' H' s'/\Q σ' H') X.xe s
def PGs(X:Cx)(ts:HD)(t:TGs):Prop:=
 ∀(pins:Hu)(s:Hy)(σ:St)(H:Hp)(vs:HF)(us:HB)(Q:St->Hp->Prop),Inv X pins σ H s->Vals vs us->t vs σ H Q->
  wpAny (IP X) X.A (assignInOrder ((assignEach ts X.env).map (·.2)) us) (λ_ s'=>∃σ' H',Inv X pins σ' H' s'/\Q σ' H') X.xe s
abbrev Ga:=V->V->V->Hp->(Hp->Prop)->Prop
def Gb(X:Cx)(t:Ga):Prop:=
 ∀(pins:Hu)(s:Hy)(σ:St)(H:Hp)(o i v:V)(ov iv u:Value)(Q:Hp->Prop),Inv X pins σ H s->RelV o ov->RelV i iv->RelV v u->t o i v H Q->
  wpAny (IP X) X.A (setItem ov iv u) (λ_ s'=>∃H',Inv X pins σ H' s'/\Q H') X.xe s
section
variable {X:Cx}{pos:Pos}
def X3(i:Nat):TG:=λv σ H Q=>Q (σ.set i (some v)) H
def iy(hN:X.N.Nodup)(hi:X.N[i]?=some x)(hx:Loc X.env.scope x)(hf:X.fn x=true\/X.env.scope.names.lookup x=some .local:=by first|exact .inl rfl|exact .inr rfl|assumption):PG X (.Name x pos) (X3 i):=by intro pins s σ H v u Q I r h;exact wpAny_assign_Name (Vg I hN hi hx r (λs' I'=>⟨_,H,I',h⟩) hf)
def GV:TGs:=λvs σ H Q=>vs=[]/\Q σ H
def E3(t:TG)(u:TGs):TGs:=λvs σ H Q=>∃v r,vs=v::r/\t v σ H λσ' H'=>u r σ' H' Q
def iz:PGs X [] GV:=by intro pins s σ H vs us Q I r h;obtain⟨e,h⟩:=h;subst e;cases r;exact assignInOrder_nil ⟨σ,H,I,h⟩
def d_(h1:PG X e t)(h2:PGs X es u)
  (hs:(assignEach (e::es) X.env).map (·.2)=assign e X.env::(assignEach es X.env).map (·.2):=by rfl):PGs X (e::es) (E3 t u):=by
 intro pins s σ H vs us Q I r h;obtain⟨v,vr,e1,h⟩:=h;subst e1;cases r with
 |cons r rr=>rw[hs];refine assignInOrder_cons (thn (h1 pins s σ H _ _ _ I r h) λ_ s1 ⟨σ1,H1,I1,q1⟩=>?_);exact h2 pins s1 σ1 H1 _ _ Q I1 rr q1
def GW(K:HN)(n:Nat)(t:TGs):TG:=λv σ H Q=>∃a xs,v=.ref a/\SqT K H a xs/\xs.length=n/\t xs σ H Q
def tD(hc:X.calm=true)(h:PGs X es t)
  (hn:(assignEach es X.env).length=n:=by rfl) (hst:(assignEach es X.env).findIdx? (·.1)=none:=by rfl):PG X (.Tuple es k pos) (GW X.K n t):=by
 intro pins s σ H v u Q I r hw;obtain⟨a,xs,e1,hq,hl,hw⟩:=hw;subst e1;cases r;obtain⟨its,rv,ht,hz⟩:=I.tuple hq;refine assign_Tuple_tuple (I.ok.hd hc) ht (by simp[hn,<- hl,rv.length]) hst λh' hx=>?_;have I1:Inv X pins σ H { s with heap:=h' }:=I.kept (t':=s.toks) λb o e=>hx b o (N8 (M9 e)) e;exact h pins _ σ H xs _ Q I1 (by simpa using rv) hw
def GX(to ti:TE)(t:Ga):TG:=λv σ H Q=>to σ H λo H1=>ti σ H1 λi H2=>t o i v H2 λH3=>Q σ H3
def BG(ho:PE X o to)(hi:PE X i ti)(hs:Gb X t)
  (ha:∀v,assign (.Subscript o i pos) X.env v=(do
   let ov<-holding [v] (eval o X.env)
   let iv<-holding [v,ov] (eval i X.env)
   standAt pos
   holding [v,ov,iv] (setItem ov iv v)
   release [v,ov,iv] []):=by intro _;rfl):PG X (.Subscript o i pos) (GX to ti t):=by
 intro pins s σ H v u Q I r h;rw[ha];refine f8 (T2 (thn (ho pins s σ H _ I h) λov s1 ⟨x,H1,I1,r1,q1⟩=>?_));refine f8 (T2 (thn (hi pins s1 σ H1 _ I1 q1) λiv s2 ⟨y,H2,I2,r2,q2⟩=>?_));refine f8 (a0P (f8 (T2 (thn (hs pins s2 σ H2 x y v ov iv u _ I2 r1 r2 r q2) λ_ s3 ⟨H3,I3,q3⟩=>?_))));exact wpAny_release ⟨σ,H3,I3,q3⟩
def tE(te:TE)(g:TG):TS:=λD σ H=>te σ H λx H1=>g x σ H1 D.nx
def iA(he:PE X e te)(hg:PG X tg g)(hs:swapsWithSole [tg] e pos.line X.env=pure false:=by rfl)(hw:swappedStores [tg] e X.env=pure none:=by rfl)
  (h1:(assignEach [tg] X.env).map (·.2)=[assign tg X.env]:=by rfl):PS X (.Assign [tg] e pos) (tE te g):=by
 intro pins s σ H D I h;refine wpAny_Assign_stores (thn (he pins s σ H _ I h) λv s1 ⟨x,H1,I1,r1,q1⟩=>?_) hs hw;rw[h1];exact thn (hg pins s1 σ H1 x v _ I1 r1 q1) λ_ s2 q=>q
def ef(hN:X.N.Nodup)(hi:X.N[i]?=some x)(hx:Loc X.env.scope x)(he:PE X e te)(hs:swapsWith e (some (.Name x pos')) pos.line X.env=pure false:=by rfl)(hf:X.fn x=true\/X.env.scope.names.lookup x=some .local:=by first|exact .inl rfl|exact .inr rfl|assumption):
  PS X (.Assign [.Name x pos'] e pos) (tE te (X3 i)):=by
 intro pins s σ H D I h;refine wpAny_Assign_Name (thn (he pins s σ H _ I h) λv s1 ⟨y,H1,I1,r1,q1⟩=>?_) hs;exact Vg I1 hN hi hx r1 (λs2 I2=>⟨_,H1,I2,q1⟩) hf
end
section
variable {X:Cx}{pos:Pos}
end
structure It where
 go:Nat->Hp->Prop
 yld:Nat->Hp->V->Hp->Prop
 stop:Nat->Hp->Prop
def oO(X:Cx)(pins:Hu)(H:Hp)(b:Addr):Prop:=
 H b=none/\b≠X.env.locals/\b∉X.fs/\(b∈X.ex\/X.s₀.heap.objs.size<=b)/\(∀x c,X.env.cells.lookup x=some c->c≠b)/\∀p∈X.pn++pins,p.1≠b
def Inv.Bh(I:Inv X pins σ H s)(hb:s.heap.objs.size<=b)(hn:H' b=none):oO X pins H' b:=by
 refine⟨hn,a0a (N7 I.lt hb),I.EW hb,.inr (O8 I.sz hb),λx c e z=>?_,λp hp z=>?_⟩
 .obtain⟨v,q⟩:=I.cell x c e;exact absurd (N7 q.lt (by rw[z];exact hb)) (a0l _)
 .exact absurd (N7 (M9 (I.pin p hp).1) (by rw[z];exact hb)) (a0l _)
structure Turn(P:HQ)(w:H_)(K:HN)(tg:HJ)(J:It)(fp:Iu)(it:Addr)(tn:Nat->Heap->Prop):Prop where
 mem:it∈fp
 obj:∀i h,tn i h->∀b∈fp,∃o,h.get? b=some o/\∀v,o.data≠.cell v
 keep:∀i h h',tn i h->(∀b∈fp,∀o,h.get? b=some o->h'.get? b=some o)->tn i h'
 item:∀(X:Cx),X.prog=P->X.w=w->X.K=K->X.calm=true->∀(i:Nat)(pins:Hu)(s:Hy)(σ:St)(H:Hp)(E:Hw),Inv X pins σ H s->(∀b∈fp,oO X pins H b)->tn i s.heap->J.go i H->
  wpAny (model P w) X.A (pyNext (.ref it)) (λr s1=>∃u,r=some u/\
   wpAny (model P w) X.A (letOwnedTupleGo tg (.ref it) u) (λ_ s2=>∃x H',Inv X pins σ H' s2/\RelV x u/\J.yld i H x H'/\tn (i+1) s2.heap/\∀b∈fp,H' b=none) E s1) E s
 done:∀(X:Cx),X.prog=P->X.w=w->X.K=K->X.calm=true->∀(i:Nat)(pins:Hu)(s:Hy)(σ:St)(H:Hp)(E:Hw),Inv X pins σ H s->(∀b∈fp,oO X pins H b)->tn i s.heap->J.stop i H->
  wpAny (model P w) X.A (pyNext (.ref it)) (λr s1=>r=none/\Inv X pins σ H s1) E s
 self:∀(A:Ia)(i:Nat)(s:Hy)(Q:Hw)(E:Hw),tn i s.heap->Q (.ref it) s->wpAny (model P w) A (pyIter (.ref it)) Q E s
abbrev TI:=St->Hp->(It->Hp->Prop)->Prop
def PIE(X:Cx)(pins:Hu)(σ:St)(tg:HJ)(R:It->Hp->Prop)(itv:Value)(s2:Hy):Prop:=
 ∃(it:Addr)(fp:Iu)(tn:Nat->Heap->Prop)(J:It)(H':Hp),itv=.ref it/\Inv X pins σ H' s2/\Turn X.prog X.w X.K tg J fp it tn/\tn 0 s2.heap/\(∀b∈fp,oO X pins H' b)/\R J H'
def PI(X:Cx)(tg y9:HJ)(wi:TI):Prop:=
 ∀(pins:Hu)(s:Hy)(σ:St)(H:Hp)(R:It->Hp->Prop),Inv X pins σ H s->wi σ H R->
  wpAny (IP X) X.A (eval y9 X.env) (λv s1=>wpAny (IP X) X.A (pyIter v) (PIE X pins σ tg R) X.xe s1) X.xe s
def o7(ho:s.heap.get? it=some o)(hc:o.cls=.type n)(hd:o.data=.fields vs)
    (hn:["enumerate","zip","dict_itemiterator","dict_reverseitemiterator","odict_iterator","itertools.zip_longest","itertools.pairwise"].contains n=false) (hQ:Q () s):wpAny M A (letOwnedTupleGo tg (.ref it) u) Q E s:=by
  unfold letOwnedTupleGo;cases tg<;>first
    |exact M8 hQ
    | (cases u<;>first
        |exact M8 hQ
        | (refine f8 (a15 ho ?_)
           rw[hc,hd];show wpAny M A (if(["enumerate","zip","dict_itemiterator","dict_reverseitemiterator","odict_iterator","itertools.zip_longest","itertools.pairwise"].contains n&&vs[0]?==some (rawInt _))=true then _ else _) Q E s;rw[if_neg (by intro h;rw[hn,a2D]at h;cases h)];exact M8 hQ))
def Itl(K:HN)(a:Addr):It:=
 ⟨λi H=>∃xs x,SqL K H a xs/\xs[i]?=some x,λi H x H'=>H'=H/\∀xs,SqL K H a xs->xs[i]?=some x,λi H=>∃xs,SqL K H a xs/\xs.length<=i⟩
def Itt(K:HN)(a:Addr):It:=
 ⟨λi H=>∃xs x,SqT K H a xs/\xs[i]?=some x,λi H x H'=>H'=H/\∀xs,SqT K H a xs->xs[i]?=some x,λi H=>∃xs,SqT K H a xs/\xs.length<=i⟩
def Itr(lo:Int)(n:Nat):It:=⟨λi _=>i<n,λi H x H'=>H'=H/\x=.int (lo+i),λi _=>n<=i⟩
def iB{P:HQ}{w:H_}{K:HN}{tg:HJ}(a it:Addr):Turn P w K tg (Itl K a) [it] it (λi h=>h.IsListIter it a i)where
 mem:=by simp
 obj:=λi h st b hb=>by
  have e:b=it:=by simpa using hb
  subst e;obtain⟨o,e,c,d⟩:=st;exact⟨o,e,λv z=>by rw[d]at z;cases z⟩
 keep:=λi h h' st k=>st.at λo e=>k it (by simp) o e
 item:=by intro X hP hw hK hc i pins s σ H E I hf st hg;subst hP hw hK;obtain⟨xs,x,hq,hx⟩:=hg;obtain⟨its,rv,p,hz⟩:=I.list hq;obtain⟨u,hu,ru⟩:=rv.get hx;obtain⟨f0,f1,f2,f3,f4,f5⟩:=hf it (by simp);refine wpAny_pyNext_list_item st p.isList (x:=u) (by simpa using hu) λh' st' sb=>?_;have I1:Inv X pins σ H { s with heap:=h' }:=I.turned (t':=s.toks) (λb o hb e=>(sb.2 b hb).trans e) f0 f1 f3 f4 f5;obtain⟨o,e,c,d⟩:=id st';exact⟨u,rfl,o7 (s:={ s with heap:=h' }) e c d (by decide) ⟨x,H,I1,ru,⟨rfl,λys hy=>by rw[I.o6 hy hq];exact hx⟩,st',λb hb=>(hf b hb).1⟩⟩
 done:=by intro X hP hw hK hc i pins s σ H E I hf st hg;subst hP hw hK;obtain⟨xs,hq,hx⟩:=hg;obtain⟨its,rv,p,hz⟩:=I.list hq;obtain⟨f0,f1,f2,f3,f4,f5⟩:=hf it (by simp);have hl:=rv.length;exact wpAny_pyNext_list_end (I.ok.hd hc) st p.isList (by simp;omega) λh' eb=>⟨rfl,I.turned (t':=s.toks) (λb o hb e=>eb b o hb e) f0 f1 f3 f4 f5⟩
 self:=λ_ _ _ _ _ st h=>wpAny_pyIter_listiter st h
def gf{P:HQ}{w:H_}{K:HN}{tg:HJ}(a it:Addr):Turn P w K tg (Itt K a) [it] it (λi h=>h.IsTupleIter it a i)where
 mem:=by simp
 obj:=λi h st b hb=>by
  have e:b=it:=by simpa using hb
  subst e;obtain⟨o,e,c,d⟩:=st;exact⟨o,e,λv z=>by rw[d]at z;cases z⟩
 keep:=λi h h' st k=>st.at λo e=>k it (by simp) o e
 item:=by intro X hP hw hK hc i pins s σ H E I hf st hg;subst hP hw hK;obtain⟨xs,x,hq,hx⟩:=hg;obtain⟨its,rv,p,hz⟩:=I.tuple hq;obtain⟨u,hu,ru⟩:=rv.get hx;obtain⟨f0,f1,f2,f3,f4,f5⟩:=hf it (by simp);refine wpAny_pyNext_tuple_item st (show s.heap.IsTuple a its.toArray from p) (x:=u) (by simpa using hu) λh' st' sb=>?_;have I1:Inv X pins σ H { s with heap:=h' }:=I.turned (t':=s.toks) (λb o hb e=>(sb.2 b hb).trans e) f0 f1 f3 f4 f5;obtain⟨o,e,c,d⟩:=id st';exact⟨u,rfl,o7 (s:={ s with heap:=h' }) e c d (by decide) ⟨x,H,I1,ru,⟨rfl,λys hy=>by rw[I.ah hy hq];exact hx⟩,st',λb hb=>(hf b hb).1⟩⟩
 done:=by intro X hP hw hK hc i pins s σ H E I hf st hg;subst hP hw hK;obtain⟨xs,hq,hx⟩:=hg;obtain⟨its,rv,p,hz⟩:=I.tuple hq;obtain⟨f0,f1,f2,f3,f4,f5⟩:=hf it (by simp);have hl:=rv.length;exact wpAny_pyNext_tuple_end (I.ok.hd hc) st (show s.heap.IsTuple a its.toArray from p) (by simp;omega) λh' eb=>⟨rfl,I.turned (t':=s.toks) (λb o hb e=>eb b o hb e) f0 f1 f3 f4 f5⟩
 self:=λ_ _ _ _ _ st h=>wpAny_pyIter_tupleiter st h
def gh{P:HQ}{w:H_}{K:HN}{tg:HJ}(it:Addr)(lo:Int)(n:Nat):Turn P w K tg (Itr lo n) [it] it (λi h=>IsRangeIter h it (lo+(i:Nat)*1) ((n:Int)-(i:Nat)) 1)where
 mem:=by simp
 obj:=λi h st b hb=>by
  have e:b=it:=by simpa using hb
  subst e;exact⟨_,st,λv z=>by
   have z':Data.fields _=Data.cell v:=z;cases z'⟩
 keep:=λi h h' st k=>k it (by simp) _ st
 item:=by intro X hP hw hK hc i pins s σ H E I hf st hg;subst hP hw hK;obtain⟨f0,f1,f2,f3,f4,f5⟩:=hf it (by simp);have W:=Walks.range (prog:=X.prog) (w:=X.w) (I.ok.hd hc) it lo 1 n;refine W.item i s _ _ hg st λv h' tk hv st' kk=>?_;obtain⟨t,rfl⟩:=hv;have I1:Inv X pins σ H { s with heap:=h',toks:=tk }:=I.turned (λb o hb e=>kk b o (by simpa using hb) e) f0 f1 f3 f4 f5;refine⟨_,rfl,o7 (s:={ s with heap:=h',toks:=tk }) (n:="range_iterator") st' rfl rfl (by decide) ⟨.int (lo+i),H,I1,⟨t,?_⟩,⟨rfl,rfl⟩,st',λb hb=>(hf b hb).1⟩⟩;rw[Int.mul_one]
 done:=by intro X hP hw hK hc i pins s σ H E I hf st hg;subst hP hw hK;obtain⟨f0,f1,f2,f3,f4,f5⟩:=hf it (by simp);exact wpAny_pyNext_range_end (I.ok.hd hc) st (by have:n<=i:=hg;omega) λh' eb=>⟨rfl,I.turned (t':=s.toks) (λb o hb e=>eb b o hb e) f0 f1 f3 f4 f5⟩
 self:=λ_ _ _ _ _ st h=>wpAny_pyIter_rangeiter st h
section
variable {X:Cx}{tg:HJ}
def eg{pins:Hu}{σ:St}{H:Hp}{s:Hy}{R:It->Hp->Prop}{E:Hw}{lo hi:Int}{t u v:Tok}{tk:Nat}(I:Inv X pins σ H s)(h1:-(2 ^ 62)<=lo)(h2:lo<2 ^ 62)(h3:-(2 ^ 62)<=hi)(h4:hi<2 ^ 62)
  (q:R (Itr lo (hi-lo).toNat) H):wpAny (IP X) X.A (pyIter (.ref s.heap.objs.size)) (PIE X pins σ tg R) E { s with heap:=s.heap.push { cls:=.type "range",data:=.fields #[.int lo t,.int hi u,.int 1 v] },toks:=tk }:=by
 refine wpAny_pyIter_range (IsRange.new ..) (small_one h1 h2 h3 h4) ?_;have I1:Inv X pins σ H { s with heap:=s.heap.push { cls:=.type "range",data:=.fields #[.int lo t,.int hi u,.int 1 v] },toks:=tk }:=I.kept λb o e=>L6 _ e;refine⟨(s.heap.push { cls:=.type "range",data:=.fields #[.int lo t,.int hi u,.int 1 v] }).objs.size,[(s.heap.push { cls:=.type "range",data:=.fields #[.int lo t,.int hi u,.int 1 v] }).objs.size],_,_,H,rfl,
  I1.kept (t':=tk) λb o e=>L6 _ e,gh _ lo (hi-lo).toNat,?_,λb hb=>?_,q⟩
 .have e1:lo+((0:Nat):Int)*1=lo:=by simp
  have e2:(((hi-lo).toNat:Nat):Int)-((0:Nat):Int)=Builtin.Range.rangeSize lo hi 1:=by rw[rangeSize_one];split<;>omega
  show IsRangeIter _ _ (lo+((0:Nat):Int)*1) ((((hi-lo).toNat:Nat):Int)-((0:Nat):Int)) 1;rw[e1,e2];exact O5 _ rfl
 .have e:b=(s.heap.push { cls:=.type "range",data:=.fields #[.int lo t,.int hi u,.int 1 v] }).objs.size:=by simpa using hb
  subst e;exact I1.Bh (M7 _) (I1.hok.fresh (M7 _))
def E4(ta:TA):TI:=λσ H R=>ta σ H λvs H1=>∃j:Int,vs=[.int j]/\-(2 ^ 62)<=j/\j<2 ^ 62/\R (Itr 0 j.toNat) H1
def E5(ta:TA):TI:=λσ H R=>ta σ H λvs H1=>∃i j:Int,vs=[.int i,.int j]/\(-(2 ^ 62)<=i/\i<2 ^ 62/\-(2 ^ 62)<=j/\j<2 ^ 62)/\R (Itr i (j-i).toNat) H1
def iC(hg:Gl X "range")(hm:X.mg "range"=none)(ha:PA X [a] ta)(hs:starEach [a] X.env=[(false,eval a X.env)]:=by rfl):PI X tg (.Call (.Name "range" p) [a] [] pos) (E4 ta):=by
 intro pins s σ H R I h;refine Call_ (Xg I hg hm boot_range (a0X (thn (ha pos pins s σ H _ I h) λus s1 ⟨vs,H1,I1,r1,q1⟩=>?_) hs rfl));obtain⟨j,e,q1,q2,q⟩:=q1;subst e;cases r1 with
 |cons r rr=>cases rr;obtain⟨t,rfl⟩:=r;exact call_range_1 (eg I1 (by omega) (by omega) q1 q2 (by simpa using q))
def iD(hg:Gl X "range")(hm:X.mg "range"=none)(ha:PA X [a,b] ta)(hs:starEach [a,b] X.env=[(false,eval a X.env),(false,eval b X.env)]:=by rfl)(hs2:starEach [b] X.env=[(false,eval b X.env)]:=by rfl):
  PI X tg (.Call (.Name "range" p) [a,b] [] pos) (E5 ta):=by
 intro pins s σ H R I h;refine Call_ (Xg I hg hm boot_range (a0X (thn (ha pos pins s σ H _ I h) λus s1 ⟨vs,H1,I1,r1,q1⟩=>?_) (by rw[hs,hs2]) (by rw[hs2];rfl)));obtain⟨i,j,e,⟨q1,q2,q3,q4⟩,q⟩:=q1;subst e;cases r1 with
 |cons r rr=>
  cases rr with
  |cons r' rr=>cases rr;obtain⟨t,rfl⟩:=r;obtain⟨t',rfl⟩:=r';exact call_range_2 (eg I1 q1 q2 q3 q4 q)
def Bi(wi:TI)(g:TG)(tb:TS):TS:=λD σ H=>wi σ H λJ H1=>∃W:Nat->Nat->St->Hp->Prop,(∃m,W 0 m σ H1)/\∀i m σ H,W i m σ H->
 (J.stop i H/\D.nx σ H)\/(J.go i H/\∃N:St->Hp->Prop,(∀σ' H',N σ' H'->∃m',m'<m/\W (i+1) m' σ' H')/\∀x H',J.yld i H x H'->g x σ H' λσ2 H2=>tb { D with nx:=N,ct:=N,bk:=D.nx } σ2 H2)
def ai(fp:Iu)(h:Heap):List (Addr×Obj):=fp.filterMap λb=>(h.get? b).map λo=>(b,o)
def YE(hb:b∈fp)(e:h.get? b=some o):(b,o)∈ai fp h:=a2X.mpr ⟨b,hb,by rw[e];rfl⟩
def iE(hp:p∈ai fp h):p.1∈fp/\h.get? p.1=some p.2:=by
 obtain⟨b,hb,e⟩:=a2X.mp hp;cases q:h.get? b with
 |none=>rw[q]at e;cases e
 |some o=>rw[q]at e;have e':(b,o)=p:=S7 e;subst e';exact⟨hb,q⟩
def Inv.pinned(I:Inv X pins σ H s)(hf:∀b∈fp,oO X pins H b)(ho:∀b∈fp,∃o,s.heap.get? b=some o/\∀v,o.data≠.cell v):Inv X (pins++ai fp s.heap) σ H s:=
 I.JK λp hp=>(a0b.mp hp).elim (λz=>I.pin p (N9 _ z)) λz=>by obtain⟨hb,e⟩:=iE z;obtain⟨f0,f1,f2,_⟩:=hf p.1 hb;obtain⟨o,e',d⟩:=ho p.1 hb;rw[e]at e';cases e';exact⟨e,f0,f1,f2,d⟩
def Inv.jN(I:Inv X (pins++pl) σ H s):Inv X pins σ H s:=I.JK λp hp=>I.pin p (N9 _ (a0e _ hp))
def aj(hp:PassesOwn (IP X) X.A X.env X.xe)(hc:X.calm=true)(hi:PI X tg y9 wi)(hg:PG X tg g)(hb:PSs X body tb)
  (hs:∀x,foldedSetIterable y9 X.env x=pure x:=by intro _;rfl):PS X (.For tg y9 body [] pos) (Bi wi g tb):=by
 intro pins s σ H D I h;refine wpAny_For (thn (hi pins s σ H _ I h) λv s1 h1=>thn h1 λitv s2 h2=>?_) hs;obtain⟨it,fp,tn,J,H2,e,I2,T,st2,f2,W,⟨m0,w0⟩,turn⟩:=h2;subst e
 -- what stays true of the iterator's objects through the loop
 have stat:∀{H':Hp},(∀b∈fp,H' b=none)->∀b∈fp,oO X pins H' b:=λhn b hb=>⟨hn b hb,(f2 b hb).2⟩;refine codeAny_forLoop_any (λn s'=>∃i σ' H',Inv X pins σ' H' s'/\tn i s'.heap/\(∀b∈fp,H' b=none)/\W i n σ' H') ?_ m0 ⟨0,σ,H2,I2,st2,λb hb=>(f2 b hb).1,w0⟩
 rintro n s3 ⟨i,σ3,H3,I3,st3,fr3,w3⟩
 rcases turn i n σ3 H3 w3 with⟨stop,qn⟩|⟨go,N,hN,step⟩
 .refine a05 hp (thn (T.done X rfl rfl rfl hc i pins s3 σ3 H3 X.xe I3 (stat fr3) st3 stop) λr s4 ⟨hr,I4⟩=>?_);subst hr;exact a04 ⟨σ3,H3,I4,qn⟩
 .refine a05 hp (thn (T.item X rfl rfl rfl hc i pins s3 σ3 H3 X.xe I3 (stat fr3) st3 go) λr s4 ⟨u,hr,h4⟩=>?_);subst hr;refine a05 hp (thn h4 λ_ s5 ⟨x,H5,I5,r5,y5,st5,fr5⟩=>?_);have I5':=I5.pinned (stat fr5) (T.obj _ _ st5);refine a05 hp (thn (hg _ s5 σ3 H5 x u _ I5' r5 (step x H5 y5)) λ_ s6 ⟨σ6,H6,I6,q6⟩=>?_);refine a05 hp (thn (hb _ s6 σ6 H6 _ I6 q6) λf s7 q7=>?_);have again:∀{σ7:St}{H7:Hp},Inv X (pins++ai fp s5.heap) σ7 H7 s7->N σ7 H7->∃m,m<n/\∃i σ' H',Inv X pins σ' H' s7/\tn i s7.heap/\(∀b∈fp,H' b=none)/\W i m σ' H':=λ{σ7 H7} I7 n7=>by obtain⟨m',hm,w7⟩:=hN σ7 H7 n7;refine⟨m',hm,i+1,σ7,H7,I7.jN,T.keep _ _ _ st5 λb hb o e=>(I7.pin (b,o) (N9 _ (N9 _ (YE hb e)))).1,λb hb=>?_,w7⟩;obtain⟨o,e,d⟩:=T.obj _ _ st5 b hb;exact(I7.pin (b,o) (N9 _ (N9 _ (YE hb e)))).2.1
  cases f with
  |next=>obtain⟨σ7,H7,I7,n7⟩:=q7;exact again I7 n7
  |cont=>obtain⟨σ7,H7,I7,n7⟩:=q7;exact again I7 n7
  |brk=>obtain⟨σ7,H7,I7,q7⟩:=q7;exact⟨σ7,H7,I7.jN,q7⟩
  |ret v=>obtain⟨x7,σ7,H7,I7,r7,q7⟩:=q7;exact⟨x7,σ7,H7,I7.jN,r7,q7⟩
end
abbrev R2:=V->V->Hp->VK->Prop
def OpR(X:Cx)(f:Value->Value->Sem Value)(r:R2):Prop:=
 ∀(pins:Hu)(s:Hy)(σ:St)(H:Hp)(x y:V)(v u:Value)(Q:VK),Inv X pins σ H s->RelV x v->RelV y u->r x y H Q->
  wpAny (IP X) X.A (f v u) (EP X pins σ Q) X.xe s
def UnR(X:Cx)(f:Value->Sem Value)(r:V->Hp->VK->Prop):Prop:=
 ∀(pins:Hu)(s:Hy)(σ:St)(H:Hp)(x:V)(v:Value)(Q:VK),Inv X pins σ H s->RelV x v->r x H Q->
  wpAny (IP X) X.A (f v) (EP X pins σ Q) X.xe s
def j0(X:Cx)(f:Value)(r:List V->Hp->VK->Prop):Prop:=
 ∀(pins:Hu)(s:Hy)(σ:St)(H:Hp)(xs:HF)(us:HB)(Q:VK),Inv X pins σ H s->Vals xs us->r xs H Q->
  wpAny (IP X) X.A (call f us) (EP X pins σ Q) X.xe s
def tOp(r:R2)(ta tb:TE):TE:=λσ H Q=>ta σ H λx H1=>tb σ H1 λy H2=>r x y H2 Q
def tUn(r:V->Hp->VK->Prop)(ta:TE):TE:=λσ H Q=>ta σ H λx H1=>r x H1 Q
def rI(C:Int->Int->Prop)(g:Int->Int->V):R2:=λx y H Q=>∃i j,x=.int i/\y=.int j/\C i j/\Q (g i j) H
def rI0(g:Int->Int->V):R2:=λx y H Q=>∃i j,x=.int i/\y=.int j/\Q (g i j) H
def rU(g:Int->V):V->Hp->VK->Prop:=λx H Q=>∃i,x=.int i/\Q (g i) H
section
variable {X:Cx}{a b c:HJ}{ta tb tc:TE}{pos:Pos}
def E6(ha:PE X a ta)(hb:PE X b tb){pins:Hu}{s:Hy}{σ:St}{H:Hp}{R:V->V->Hp->Prop}(I:Inv X pins σ H s)
  (h:ta σ H λx H1=>tb σ H1 λy H2=>R x y H2) {Q:Hw}{f:Value->Value->Sem Value}
  (hf:∀v u s2 x y H2,Inv X pins σ H2 s2->RelV x v->RelV y u->R x y H2->wpAny (IP X) X.A (f v u) Q X.xe s2):
  wpAny (IP X) X.A (eval a X.env) (λv s₁=>wpAny (IP X) X.A (eval b X.env) (λu s₂=>wpAny (IP X) X.A (f v u) Q X.xe s₂) X.xe s₁) X.xe s:=by
 refine thn (ha pins s σ H _ I h) λv s1 ⟨x,H1,I1,r1,q1⟩=>?_;refine thn (hb pins s1 σ H1 _ I1 q1) λu s2 ⟨y,H2,I2,r2,q2⟩=>?_;exact hf v u s2 x y H2 I2 r1 r2 q2
def E7(ho:OpR X (binaryOp op) r)(ha:PE X a ta)(hb:PE X b tb):PE X (.BinOp a op b pos) (tOp r ta tb):=by intro pins s σ H Q I h;exact wpAny_BinOp (E6 ha hb I h λv u s2 x y H2 I2 rx ry q=>ho pins s2 σ H2 x y v u Q I2 rx ry q)
def E8(ho:UnR X (unaryOp op) r)(ha:PE X a ta):PE X (.UnaryOp op a pos) (tUn r ta):=by intro pins s σ H Q I h;exact UnaryOp_ (thn (ha pins s σ H _ I h) λv s1 ⟨x,H1,I1,r1,q1⟩=>ho pins s1 σ H1 x v Q I1 r1 q1)
def opI{f:Value->Value->Sem Value}{C:Int->Int->Prop}{g:Int->Int->Int}
  (rule:∀(i j:Int)(t u:Tok)(s:Hy)(Q:Hw)(E:Hw),C i j->Q (.int (g i j) s.toks) { s with toks:=s.toks+1 }->wpAny (IP X) X.A (f (.int i t) (.int j u)) Q E s):
  OpR X f (rI C λi j=>.int (g i j)):=by
 intro pins s σ H x y v u Q I rx ry h;obtain⟨i,j,rfl,rfl,hc,q⟩:=h;obtain⟨t,rfl⟩:=rx;obtain⟨t',rfl⟩:=ry;exact rule i j t t' s _ _ hc ⟨.int (g i j),H,I.tok _,⟨_,rfl⟩,q⟩
def Gd{f:Value->Value->Sem Value}{g:Int->Int->Int}
  (rule:∀(i j:Int)(t u:Tok)(s:Hy)(Q:Hw)(E:Hw),Q (.int (g i j) s.toks) { s with toks:=s.toks+1 }->wpAny (IP X) X.A (f (.int i t) (.int j u)) Q E s):
  OpR X f (rI0 λi j=>.int (g i j)):=by
 intro pins s σ H x y v u Q I rx ry h;obtain⟨i,j,rfl,rfl,q⟩:=h;obtain⟨t,rfl⟩:=rx;obtain⟨t',rfl⟩:=ry;exact rule i j t t' s _ _ ⟨.int (g i j),H,I.tok _,⟨_,rfl⟩,q⟩
def E9{f:Value->Value->Sem Value}{g:Int->Int->Bool}
  (rule:∀(i j:Int)(t u:Tok)(s:Hy)(Q:Hw)(E:Hw),Q (.bool (g i j)) s->wpAny (IP X) X.A (f (.int i t) (.int j u)) Q E s):
  OpR X f (rI0 λi j=>.bl (g i j)):=by
 intro pins s σ H x y v u Q I rx ry h;obtain⟨i,j,rfl,rfl,q⟩:=h;obtain⟨t,rfl⟩:=rx;obtain⟨t',rfl⟩:=ry;exact rule i j t t' s _ _ ⟨.bl (g i j),H,I,rfl,q⟩
def Bj(i j:Int):Prop:=0<j/\j<1073741824
def Bk(i j:Int):Prop:=0<=j/\j<=1000000/\i.natAbs<2 ^ 64
def o8(i j:Int):Prop:=(-(2 ^ 64)<i/\i<2 ^ 64)\/(-(2 ^ 64)<j/\j<2 ^ 64)
def o8.ok(h:o8 i j):IntMulOk i j:=by
 rcases h with⟨h1,h2⟩|⟨h1,h2⟩
 .exact .of_left (intBits_le_64 h1 h2)
 .exact .of_right (intBits_le_64 h1 h2)
def BH:OpR X (binaryOp .Add) (rI0 λi j=>.int (i+j)):=Gd λ_ _ _ _ _ _ _ q=>add_int q
def Kg:OpR X (binaryOp .Sub) (rI0 λi j=>.int (i-j)):=Gd λ_ _ _ _ _ _ _ q=>sub_int q
def BI:OpR X (binaryOp .Mult) (rI o8 λi j=>.int (i*j)):=opI λ_ _ _ _ _ _ _ hc q=>mul_int q hc.ok
def u6:OpR X (binaryOp .FloorDiv) (rI Bj λi j=>.int (i / j)):=opI λi j _ _ _ _ _ hc q=>by have h1:(0:Int)<j:=hc.1;have h2:j<1073741824:=hc.2;exact floordiv_int (by omega) (by rw[Int.fdiv_eq_ediv_of_nonneg i (by omega)];exact q) (.inl (PyProof.noPylong_small (by omega)))
def BJ:OpR X (binaryOp .Mod) (rI (λ_ j=>0<j) λi j=>.int (i % j)):=opI λi j _ _ _ _ _ hc q=>by have h1:(0:Int)<j:=hc;exact mod_int' (by omega) (by rw[Int.fmod_eq_emod_of_nonneg i (by omega)];exact q)
def u7:OpR X (binaryOp .Mod) (rI (λ_ j=>j≠0) λi j=>.int (i.fmod j)):=opI λ_ _ _ _ _ _ _ hc q=>mod_int' hc q
def QS:OpR X (binaryOp .Pow) (rI Bk λi j=>.int (i ^ j.toNat)):=opI λ_ _ _ _ _ _ _ hc q=>pow_int_small hc.1 hc.2.1 hc.2.2 q
def unI{f:Value->Sem Value}{g:Int->Int}
  (rule:∀(i:Int)(t:Tok)(s:Hy)(Q:Hw)(E:Hw),Q (.int (g i) s.toks) { s with toks:=s.toks+1 }->wpAny (IP X) X.A (f (.int i t)) Q E s):
  UnR X f (rU λi=>.int (g i)):=by
 intro pins s σ H x v Q I rx h;obtain⟨i,rfl,q⟩:=h;obtain⟨t,rfl⟩:=rx;exact rule i t s _ _ ⟨.int (g i),H,I.tok _,⟨_,rfl⟩,q⟩
def ao:UnR X (unaryOp .USub) (rU λi=>.int (-i)):=unI λ_ _ _ _ _ q=>neg_int q
end
section
variable {X:Cx}{a b c:HJ}{ta tb tc:TE}{pos:Pos}
def iF(I:Inv X pins σ H s)(q:Q (.bl k) H)(e:k=k'):EP X pins σ Q (.bool k') s:=by subst e;exact⟨.bl k,H,I,rfl,q⟩
def cz:OpR X (compareOp .Lt) (rI0 λi j=>.bl (decide (i<j))):=E9 λ_ _ _ _ _ _ _ q=>lt_int q
def aq:OpR X (compareOp .LtE) (rI0 λi j=>.bl (decide (i<=j))):=E9 λ_ _ _ _ _ _ _ q=>le_int q
def YR:OpR X (compareOp .Gt) (rI0 λi j=>.bl (decide (j<i))):=E9 λ_ _ _ _ _ _ _ q=>gt_int q
def iG:OpR X (compareOp .In) (λx y H Q=>∃i j,x=.str i/\y=.str j/\Q (.bl (!(Builtin.Str.occurrences j i 0 j.length 1).isEmpty)) H):=by intro pins s σ H x y v u Q I rx ry h;obtain⟨i,j,rfl,rfl,q⟩:=h;obtain⟨t,rfl⟩:=rx;obtain⟨t',rfl⟩:=ry;exact in_str (iF I q rfl)
def BK:OpR X (compareOp .Is) (λx y H Q=>y=.non/\Q (.bl (decide (x=.non))) H):=by
 intro pins s σ H x y v u Q I rx ry h;obtain⟨rfl,q⟩:=h;cases ry;refine is_none_gen (iF I q ?_);cases x<;>first
  | (cases rx;rfl)
  | (obtain⟨t,rfl⟩:=rx;rfl)
def cA:OpR X (compareOp .IsNot) (λx y H Q=>y=.non/\Q (.bl (!decide (x=.non))) H):=by
 intro pins s σ H x y v u Q I rx ry h;obtain⟨rfl,q⟩:=h;cases ry;refine isnot_none_gen (iF I q ?_);cases x<;>first
  | (cases rx;rfl)
  | (obtain⟨t,rfl⟩:=rx;rfl)
def OpR.or(h:OpR X f r)(h':OpR X f r'):OpR X f (λx y H Q=>r x y H Q\/r' x y H Q):=by
 intro pins s σ H x y v u Q I rx ry q;rcases q with q|q
 .exact h pins s σ H x y v u Q I rx ry q
 .exact h' pins s σ H x y v u Q I rx ry q
def z8(b:HJ)(h:op≠.In:=by decide)(h2:op≠.NotIn:=by decide):behindInMarks op b=false:=by
 have e1:(op==CmpOp.In)=false:=by cases op<;>first|rfl|exact absurd rfl h
 have e2:(op==CmpOp.NotIn)=false:=by cases op<;>first|rfl|exact absurd rfl h2
 cases b<;>simp[behindInMarks,e1,e2]
def u9(ho:OpR X (compareOp op) r)(ha:PE X a ta)(hb:PE X b tb)(hm:behindInMarks op b=false):PE X (.Compare a [op] [b] pos) (tOp r ta tb):=by intro pins s σ H Q I h;exact wpAny_Compare1 (E6 ha hb I h λv u s2 x y H2 I2 rx ry q=>ho pins s2 σ H2 x y v u Q I2 rx ry q) hm
def BL(t:TE):TT:=λσ H Q=>t σ H λx H'=>∃k,x=.bl k/\Q k H'
def u_(ho:OpR X (compareOp op) r)(ha:PE X a ta)(hb:PE X b tb)(hm:behindInMarks op b=false):PT X (.Compare a [op] [b] pos) (BL (tOp r ta tb)):=by
 intro pins s σ H Q I h;refine wpAny_isTrue_Compare1 (thn (ha pins s σ H _ I h) λv s1 ⟨x,H1,I1,r1,q1⟩=>thn (hb pins s1 σ H1 _ I1 q1) λu s2 ⟨y,H2,I2,r2,q2⟩=>
  thn (ho pins s2 σ H2 x y v u _ I2 r1 r2 q2) λc s3 ⟨z,H3,I3,r3,k,e,q3⟩=>?_) hm
 subst e;cases r3;exact a1g ⟨H3,I3,q3⟩
def ar:(sizeLine:Nat)<2 ^ 63:=by rw[a0c];decide
def gi:OpR X (binaryOp .Add) (λx y H Q=>∃i j,x=.str i/\y=.str j/\i.length+j.length<=sizeLine/\Q (.str (i++j)) H):=by intro pins s σ H x y v u Q I rx ry h;obtain⟨i,j,rfl,rfl,hz,q⟩:=h;obtain⟨t,rfl⟩:=rx;obtain⟨t',rfl⟩:=ry;exact add_str (λt' tk=>⟨.str (i++j),H,I.tok _,⟨_,rfl⟩,q⟩) hz
def vals1(r:Vals [x] us):∃u,us=[u]/\RelV x u:=by
 cases r with
 |cons r1 r2=>cases r2;exact⟨_,rfl,r1⟩
def vals2(r:Vals [x,y] us):∃u w',us=[u,w']/\RelV x u/\RelV y w':=by
 cases r with
 |cons r1 r2=>
  cases r2 with
  |cons r3 r4=>cases r4;exact⟨_,_,rfl,r1,r3⟩
def iH(hc:X.calm=true):j0 X (.builtin "max") (λxs H Q=>∃i j,xs=[.int i,.int j]/\Q (.int (if j>i then j else i)) H):=by
 intro pins s σ H xs us Q I r h;obtain⟨i,j,rfl,q⟩:=h;obtain⟨u,w',rfl,⟨t,rfl⟩,⟨t',rfl⟩⟩:=vals2 r;refine max_two_ints (I.ok.hd hc) λh' tk k=>⟨_,H,I.kept k,?_,q⟩;by_cases hj:j>i
 .rw[if_pos hj,if_pos hj];exact⟨_,rfl⟩
 .rw[if_neg hj,if_neg hj];exact⟨_,rfl⟩
def iI(hc:X.calm=true):j0 X (.builtin "min") (λxs H Q=>∃i j,xs=[.int i,.int j]/\Q (.int (if j<i then j else i)) H):=by
 intro pins s σ H xs us Q I r h;obtain⟨i,j,rfl,q⟩:=h;obtain⟨u,w',rfl,⟨t,rfl⟩,⟨t',rfl⟩⟩:=vals2 r;refine min_two_ints (I.ok.hd hc) λh' tk k=>⟨_,H,I.kept k,?_,q⟩;by_cases hj:j<i
 .rw[if_pos hj,if_pos hj];exact⟨_,rfl⟩
 .rw[if_neg hj,if_neg hj];exact⟨_,rfl⟩
def Ge(K:HN)(x:V)(H:Hp)(n:Nat):Prop:=
 match x with
 |.str y=>y.length<=sizeLine/\n=y.length
 |.byt y=>y.size<=sizeLine/\n=y.size
 |.ref p=>(∃xs,SqL K H p xs/\n=xs.length)\/∃xs,SqT K H p xs/\n=xs.length
 |_=>False
def o9:j0 X (.builtin "len") (λxs H Q=>∃x n,xs=[x]/\Ge X.K x H n/\Q (.int n) H):=by
 intro pins s σ H xs us Q I r h;obtain⟨x,n,rfl,e,q⟩:=h;obtain⟨u,rfl,rx⟩:=vals1 r;have hl:=ar;have hs:sizeLine=16777216:=a0c;cases x with
 |str y=>obtain⟨t,rfl⟩:=rx;obtain⟨hy,e'⟩:y.length<=sizeLine/\n=y.length:=e;subst e';exact len_str (by omega) ⟨.int _,H,I.tok _,⟨_,rfl⟩,q⟩
 |byt y=>obtain⟨t,rfl⟩:=rx;obtain⟨hy,e'⟩:y.size<=sizeLine/\n=y.size:=e;subst e';exact PySem.W.len_bytes (by omega) ⟨.int _,H,I.tok _,⟨_,rfl⟩,q⟩
 |ref p=>
  cases rx;have e':(∃xs,SqL X.K H p xs/\n=xs.length)\/∃xs,SqT X.K H p xs/\n=xs.length:=e;rcases e' with⟨xs,hx,e'⟩|⟨xs,hx,e'⟩
  .subst e';obtain⟨its,r',pl,hz⟩:=I.list hx;have hlen:=r'.length;exact Calls.call_len_list pl.isList (by simp only[List.size_toArray];omega) ⟨.int xs.length,H,I.tok _,⟨_,by simp only[List.size_toArray];rw[hlen]⟩,q⟩
  .subst e';obtain⟨its,r',pl,hz⟩:=I.tuple hx;have hlen:=r'.length;exact len_tuple pl (by simp only[List.size_toArray];omega) ⟨.int xs.length,H,I.tok _,⟨_,by simp only[List.size_toArray];rw[hlen]⟩,q⟩
 |_=>exact(show False from e).elim
end
structure E_(h:Heap)(x dx C:Addr)(mA:Hv):Prop where
 obj:h.get? x=some (PySem.W.instObj C dx)
 ns:h.Ns1 dx mA
 ne:dx≠x
def QT{h:Heap}{dx:Addr}{mA:Hv}(n:h.Ns1 dx mA):∃od,h.get? dx=some od/\∀name,PySem.W.lookIn name od=some (mA name):=by
 obtain⟨o,es,ep,ho,hd,hk,_,hm⟩:=n;refine⟨o,ho,λname=>?_⟩;have e:=hm name;unfold nsFind findBy at e;rw[<- a2Y]at e;unfold PySem.W.lookIn;rw[hd];dsimp only;split
 .rename_i y q;rw[q]at e;exact T1 some e
 .rename_i q;rw[q]at e;have a:es.toList.any (·.refKey)=false:=by rw[List.any_eq_false];intro y hy;obtain⟨z,t,hkey⟩:=hk y (a2J.mp hy);simp[DictEntry.refKey,hkey]
  have a':¬es.toList.any (·.refKey)=true:=by rw[a];exact M6
  rw[if_neg a'];exact T1 some e
def E_.look(I:E_ h x dx C mA):∃od,PySem.W.InstAt h x (PySem.W.instObj C dx) C (some od)/\∀name,PySem.W.lookIn name od=some (mA name):=
 let⟨od,ho,hl⟩:=QT I.ns
 ⟨od,⟨I.obj,rfl,rfl,ho⟩,hl⟩
section
variable {prog:HQ}{w:H_}{A:Ia}{E:Hw}{s:Hy}{K:HN}{x dx C f:Addr}{mA:Hv}{name:Str}{v:Value}
end
def cb(f:Str)(v:V):List (Str×V)->List (Str×V)
 |[]=>[(f,v)]
 | (g,x)::r=>if g=f then(g,v)::r else(g,x)::cb f v r
def VB(f g:Str)(v:V):∀fs:List (Str×V),(cb f v fs).lookup g=if g=f then some v else fs.lookup g
 |[]=>by
  show List.lookup g [(f,v)]=_;by_cases h:g=f
  .have hb:(g==f)=true:=R9.mpr h;simp only[List.lookup,hb,if_pos h]
  .have hb:(g==f)=false:=a0h.mpr h;simp only[List.lookup,hb,if_neg h]
 | (k,x)::r=>by
  have ih:=VB f g v r;rw[show cb f v ((k,x)::r)=(if k=f then(k,v)::r else(k,x)::cb f v r)from rfl];by_cases hk:k=f
  .rw[if_pos hk];by_cases h:g=k
   .have hb:(g==k)=true:=R9.mpr h;simp only[List.lookup,hb,if_pos (h.trans hk)]
   .have hb:(g==k)=false:=a0h.mpr h;simp only[List.lookup,hb,if_neg (λe:g=f=>h (e.trans hk.symm))]
  .rw[if_neg hk];by_cases h:g=k
   .have hb:(g==k)=true:=R9.mpr h;simp only[List.lookup,hb,if_neg (λe:g=f=>hk (h.symm.trans e))]
   .have hb:(g==k)=false:=a0h.mpr h;simp only[List.lookup,hb];exact ih
def VC(f:Str)(v:V):∀fs:List (Str×V),f∈(cb f v fs).map (·.1)/\∀g,g∈fs.map (·.1)->g∈(cb f v fs).map (·.1)
 |[]=>⟨by simp[cb],λg h=>by simp at h⟩
 | (k,x)::r=>by
  obtain⟨i1,i2⟩:=VC f v r;rw[show cb f v ((k,x)::r)=(if k=f then(k,v)::r else(k,x)::cb f v r)from rfl];by_cases hk:k=f
  .rw[if_pos hk];subst hk;exact⟨by simp,λg h=>by simpa using h⟩
  .rw[if_neg hk];refine⟨?_,λg h=>?_⟩
   .rw[O7];exact L9 _ i1
   .rw[O7]at h ⊢;rcases O0.mp h with e|e
    .exact O0.mpr (.inl e)
    .exact L9 _ (i2 g e)
def VD(f:Str)(v:V):∀fs:List (Str×V),(cb f v fs).length<=fs.length+1
 |[]=>by simp[cb]
 | (k,x)::r=>by
  have ih:=VD f v r;rw[show cb f v ((k,x)::r)=(if k=f then(k,v)::r else(k,x)::cb f v r)from rfl];by_cases hk:k=f
  .rw[if_pos hk,v4,v4];omega
  .rw[if_neg hk,v4,v4];omega
def Xe.some_of(r:Xe (some v) o):∃u,o=some u/\RelV v u:=by
 cases o with
 |none=>exact(show False from r).elim
 |some u=>exact⟨u,rfl,r⟩
def iJ(r:RelV v u):PySem.W.handedIn u=true:=by
 cases v with
 |non=>cases(show u=Value.none from r);rfl
 |bl b=>cases(show u=Value.bool b from r);rfl
 |int i=>obtain⟨t,e⟩:=(show ∃t,u=Value.int i t from r);cases e;rfl
 |str x=>obtain⟨t,e⟩:=(show ∃t,u=Value.str x t from r);cases e;rfl
 |byt b=>obtain⟨t,e⟩:=(show ∃t,u=Value.bytes b t from r);cases e;rfl
 |flt b=>obtain⟨t,e⟩:=(show ∃t,u=Value.float b t from r);cases e;rfl
 |ref a=>cases(show u=Value.ref a from r);rfl
 |ty n=>cases(show u=Value.type n from r);rfl
def xa(hok:HOk P w H h)(e:H a=some (.ins C dx fs)):∃mA,E_ h a dx C mA/\(∀f,Xe (fs.lookup f) (mA f))/\PySem.Within mA (fs.map (·.1))/\fs.length<=1000/\H dx=some (.own a):=by obtain⟨d,z,ne,ob,mA,n,r,q⟩:=(show yM P w H h a (.ins C dx fs)from hok a _ e);exact⟨mA,⟨ob,n,ne⟩,r,q,z,d⟩
structure Cls(K:HN)(C:Addr):Prop where
 pg:PySem.W.plainGet K C Str.empty=true
 hd:PySem.W.hasDictIn K C=true
 po:PySem.W.plainOver K C=true
 sa:PySem.W.findIn K (.ref C) "__setattr__"=some (some (.builtin "object.__setattr__"))
def Cls.get{K:HN}{C:Addr}(c:Cls K C)(f:Str):PySem.W.plainGet K C f=true:=c.pg
def xb(hb:attributeBase e f env (eval e env)=eval e env)
  (h:wpAny (model prog w) A (eval e env) (λo s₁=>wpAny (model prog w) A (getAttr o f true) Q E s₁) E s):wpAny (model prog w) A (eval (.Attribute e f pos) env) Q E s:=
 Attribute_any_ h (by rw[arm_eval_Attribute,hb])
section
variable {X:Cx}{o e value:HJ}{f:Str}{pos pos' tpos:Pos}{ta tv:TE}
end
section
variable {X:Cx}{pins:Hu}{σ:St}{H:Hp}{s:Hy}{A:Ia}{E:Hw}{Q:Hw}{c:Value}{b:Bool}
inductive ia(K:HN)(H:Hp):V->Value->Prop where
 |non:ia K H .non (.type "NoneType")
 |bl (x:Bool):ia K H (.bl x) (.type "bool")
 |int (i:Int):ia K H (.int i) (.type "int")
 |str (x:Str):ia K H (.str x) (.type "str")
 |flt (x:UInt64):ia K H (.flt x) (.type "float")
 |lst {a:Addr}{xs:HF}(e:H a=some (.lst xs)):ia K H (.ref a) (.type "list")
 |frz {a:Addr}{o:Obj}{xs:HF}(e:H a=some (.frz o (.lst xs))):ia K H (.ref a) (.type "list")
 |tup {a:Addr}{xs:HF}(e:H a=some (.tup xs)):ia K H (.ref a) (.type "tuple")
 |dK {a:Addr}{kvs:HL}(e:H a=some (.dK kvs)):ia K H (.ref a) (.type "dict")
 |dT {a:Addr}{kvs:IE}(e:H a=some (.dT kvs)):ia K H (.ref a) (.type "dict")
 |ins {a C dx:Addr}{fs:Ip}(e:H a=some (.ins C dx fs)) (cl:Cls K C) (ha:PySem.W.findIn K (.ref C) "__class__"=some (some (.builtin "object.__class__")))
   (hn:PySem.W.specialIn K (.builtin "object.__class__") "__get__"=some (some (.builtin "getset_descriptor.__get__"))) (htk:PySem.W.takesIn K (.builtin "object.__class__")=some true)
   (hm:PySem.W.mroIn K C (.type "object")=some true):ia K H (.ref a) (.ref C)
end
structure jO(k:Nat)(A:Ia):Prop where
 hd:A.handled=none
 dp:A.depth+3*k+5<recursionLimit
 un:A.units+16*k+200<cLine
def jO.mono(r:jO k A)(h:j<=k):jO j A:=⟨r.hd,by have:=r.dp;omega,by have:=r.un;omega⟩
def jO.deeper(r:jO (k+1) A)(env:Env):jO k (A.deeper env):=
 ⟨r.hd,by have:=r.dp;show A.depth+1+3*k+5<_;omega,by have:=r.un;show A.units+3+16*k+200<_;omega⟩
def jO.in1(r:jO (k+1) A):jO k A.in1:=
 ⟨r.hd,by have:=r.dp;show A.depth+3*k+5<_;omega,by have:=r.un;show A.units+1+16*k+200<_;omega⟩
def gj{A:Ia}{C:Addr}{us:HB}{kw:Iv}:(A.under (.builtin "type.__call__" ⟨.ref C::us,kw⟩)).depth=A.depth+1:=by
 first|rfl|simp[Around.under,Code.weight,Code.isCreation,Code.isGuard,Code.isCaller,Code.frames,Code.isFrame,guardIds]
def gk{A:Ia}{C:Addr}{us:HB}{kw:Iv}:(A.under (.builtin "type.__call__" ⟨.ref C::us,kw⟩)).units=A.units+1:=by
 first|rfl|simp[Around.under,Code.cUnits,Code.frames,Code.isFrame]
def jO.make(r:jO (k+1) A)(C:Addr)(us:HB)(kw:Iv):jO k (A.under (.builtin "type.__call__" ⟨.ref C::us,kw⟩)):=
 ⟨r.hd,by have:=r.dp;rw[gj];omega,by have:=r.un;rw[gk];omega⟩
def jO.depth(r:jO k A):A.depth<recursionLimit:=by have:=r.dp;omega
def jO.units(r:jO k A):A.units+64<cLine:=by have:=r.un;omega
def GY:TA:=λ_ H Q=>Q [] H
def Fb(ta:TE)(tr:TA):TA:=λσ H Q=>ta σ H λx H1=>tr σ H1 λxs H2=>Q (x::xs) H2
section
variable {X:Cx}{e:HJ}{es:HD}{te:TE}{t:TA}{pos:Pos}
def Xh:PA X [] GY:=λ_ _ _ _ H Q I h=>Calls.spliced_nil ⟨[],H,I,.nil,h⟩
def Qn(ha:PE X e te)(hr:PA X es t)(hs:starEach (e::es) X.env=(false,eval e X.env)::starEach es X.env:=by rfl):PA X (e::es) (Fb te t):=by intro pos pins s σ H Q I h;rw[hs];show wpAny _ _ (spliced ((false,eval e X.env)::backTo pos (starEach es X.env))) _ _ s;refine a2Z (thn (ha pins s σ H _ I h) λu s1 ⟨x,H1,I1,r1,q1⟩=>?_);exact thn (hr pos pins s1 σ H1 _ I1 q1) λus s2 ⟨xs,H2,I2,r2,q2⟩=>⟨x::xs,H2,I2,.cons r1 r2,q2⟩
def GZ(t:TA):TE:=λσ H Q=>t σ H λxs H1=>xs.length<=sizeLine/\∀p,H1 p=none->Q (.ref p) (upd H1 p (.tup xs))
def G0(t:TA):TE:=λσ H Q=>t σ H λxs H1=>xs.length<=sizeLine/\∀p,H1 p=none->Q (.ref p) (upd H1 p (.lst xs))
def tF{x1}(h:PA X es t):PE X (.Tuple es x1 pos) (GZ t):=by intro pins s σ H Q I hq;refine wpAny_Tuple_spliced (thn (h pos pins s σ H _ I hq) λus s1 ⟨xs,H1,I1,r,z,q⟩=>⟨by rw[<- r.length];exact z,?_⟩);have hf:H1 s1.heap.objs.size=none:=I1.hok.fresh (M7 _);refine⟨.ref s1.heap.objs.size,upd H1 s1.heap.objs.size (.tup xs),I1.laid (t':=s1.toks) (λb u e=>L6 _ e) (M7 _) ?_,rfl,q _ hf⟩;exact⟨z,us,r,⟨_,O5 _ rfl,rfl,_,rfl⟩⟩
def BM(h:PA X es t):PE X (.List es pos) (G0 t):=by intro pins s σ H Q I hq;refine wpAny_List_spliced (thn (h pos pins s σ H _ I hq) λus s1 ⟨xs,H1,I1,r,z,q⟩=>⟨by rw[<- r.length];exact z,?_⟩);have hf:H1 s1.heap.objs.size=none:=I1.hok.fresh (M7 _);refine⟨.ref s1.heap.objs.size,upd H1 s1.heap.objs.size (.lst xs),I1.laid (t':=s1.toks) (λb u e=>L6 _ e) (M7 _) ?_,rfl,q _ hf⟩;exact⟨z,us,0,r,O5 _ rfl⟩
end
abbrev Sp:=List V->Hp->VK->XK->Prop
abbrev CXT:=List Env->Hp->Shared->XK->Value->Shared->Prop
structure ib(P:HQ)(w:H_)(K:HN)(mg:Hv)(base:Heap)(A:Ia)(outer:List Env)(s:Hy)(H:Hp):Prop where
 frames:A.frames=some outer
 mod:Mod K mg base
 bs:∀b o,base.get? b=some o->s.heap.get? b=some o/\H b=none
 bsz:base.objs.size<=s.heap.objs.size
 aa:s.heap.FunFrames base outer
 frf:∀b∈frs outer,H b=none
 hok:HOk P w H s.heap
 bare:AllBare s.gens
def CE(outer:List Env)(P:HQ)(w:H_)(H:Hp)(s:Hy)(Q:VK)(u:Value)(s':Hy):Prop:=
 ∃v H',s'.os=s.os/\AllBare s'.gens/\Un (frs outer) [] H H' s.heap s'.heap/\HOk P w H' s'.heap/\RelV v u/\Q v H'
def CR(CX:CXT)(outer:List Env)(P:HQ)(w:H_)(H:Hp)(s:Hy)(Q:VK)(E:XK)(r:Result)(s':Hy):Prop:=
 match r with
 |.ok (.ret u)=>CE outer P w H s Q u s'
 |.ok _=>False
 |.error e=>CX outer H s E e s'
structure jr(P:HQ)(w:H_)(K:HN)(mg:Hv)(base:Heap)(CX:CXT)(k:Nat)(f:Addr)(fd:Ib)(ps:Hx)(sp:Sp):Prop where
 len:∀vs H Q E,sp vs H Q E->vs.length=ps.length
 run:∀(A:Ia)(outer:List Env)(s:Hy)(H:Hp)(args:Args)(us:HB)(vs:HF) (Q:VK) (E:XK),jO k A->ib P w K mg base A outer s H->BindsTo s fd args (ps.zip us)->Vals vs us->sp vs H Q E->
  codeAny (model P w) A (.call (.ref f) args) (CR CX outer P w H s Q E) s
def jr.imp{P:HQ}{w:H_}{K:HN}{mg:Hv}{base:Heap}{CX:CXT}{k:Nat}{f:Addr}{fd:Ib}{ps:Hx}{sp sp':Sp}(F:jr P w K mg base CX k f fd ps sp)
  (h:∀vs H Q E,sp' vs H Q E->sp vs H Q E):jr P w K mg base CX k f fd ps sp':=
 ⟨λvs H Q E q=>F.len vs H Q E (h _ _ _ _ q),λA outer s H args us vs Q E hr he hb hv hs=>F.run A outer s H args us vs Q E hr he hb hv (h _ _ _ _ hs)⟩
def ib.make{P:HQ}{w:H_}{K:HN}{mg:Hv}{base:Heap}{A:Ia}{outer:List Env}{s:Hy}{H:Hp}(e:ib P w K mg base A outer s H)(C:Addr)(us:HB)(kw:Iv):
  ib P w K mg base (A.under (.builtin "type.__call__" ⟨.ref C::us,kw⟩)) outer s H:=⟨by first|exact e.frames|(simpa[Around.under,Code.envs,Code.isFrame,pushEnvs]using e.frames),e.mod,e.bs,e.bsz,e.aa,e.frf,e.hok,e.bare⟩
def Inv.ic(I:Inv X pins σ H s):ib X.prog X.w X.K X.mg X.base X.A X.stack s H:=
 ⟨I.ok.frames,I.ok.mod,I.bs,O8 I.ok.bsz I.sz,I.stack,I.XY,I.hok,I.bare⟩
def Inv.after(I:Inv X pins σ H s)(h:CE X.stack X.prog X.w H s Q u s'):EP X pins σ Q u s':=by obtain⟨v,H',os,bare,un,hok,r,q⟩:=h;obtain⟨hh,g,d,t,os'⟩:=s';obtain rfl:os'=s.os:=os;exact⟨v,H',I.call (h':=hh) (g':=g) (d':=d) (t':=t) (ch:=[]) un hok bare (λb z=>absurd z (by simp)),r,q⟩
def Fc(sp:Sp)(dvs:HF)(E:XK)(t:TA):TE:=λσ H Q=>t σ H λvs H1=>sp (vs++dvs) H1 Q E
def Binds(K:HN)(fd:Ib)(ps:Hx)(ds:HB):Prop:=
 ∀(s:Hy)(us:HB),K.In s.heap->(us++ds).length=ps.length->BindsTo s fd ⟨us,[]⟩ (ps.zip (us++ds))
def Binds.all{K:HN}{fd:Ib}{ps:Hx}(h:∀us:List Value,us.length=ps.length->bindArgs fd ⟨us,[]⟩=pure (ps.zip us)):Binds K fd ps []:=λs us _ hl=>by rw[P7]at hl ⊢;exact .of_eq (h us hl)
def Passes(CX:CXT)(X:Cx)(E:XK):Prop:=∀(pins:Hu)(σ:St)(H:Hp)(s:Hy)(e:Value)(s':Hy),Inv X pins σ H s->CX X.stack H s E e s'->X.xe e s'
def BO(F:jr X.prog X.w X.K X.mg X.base CX k f fd ps sp)(hr:jO k X.A)(hb:Binds X.K fd ps ds)(hd:Vals dvs ds)(hx:Passes CX X E)
  (I:Inv X pins σ H s) (r:Vals vs us) (h:sp (vs++dvs) H Q E):wpAny (IP X) X.A (call (.ref f) us) (EP X pins σ Q) X.xe s:=by
 have r2:Vals (vs++dvs) (us++ds):=r.append hd;have hl:(us++ds).length=ps.length:=by rw[<- r2.length];exact F.len _ _ _ _ h
 refine a0G (a0K (F.run X.A X.stack s H ⟨us,[]⟩ (us++ds) (vs++dvs) Q E hr I.ic (hb s us I.kIn hl) r2 h) λr s' hq=>?_);cases r with
 |error e=>exact hx pins σ H s e s' I hq
 |ok fl=>
  cases fl with
  |ret u=>exact I.after hq
  |next=>exact False.elim hq
  |brk=>exact False.elim hq
  |cont=>exact False.elim hq
def X4(F:jr X.prog X.w X.K X.mg X.base CX k f fd ps sp)(hr:jO k X.A)(hg:Gl X x)(hm:X.mg x=some (.ref f))(hk:PySem.W.keepIn X.K (.ref f)=true)(hb:Binds X.K fd ps ds)(hd:Vals dvs ds)(hx:Passes CX X E)
  (ha:PA X (e::es) t) (hdb:(x==("__debug__":Str))=false:=by decide) (he:starEach (e::es) X.env=(false,eval e X.env)::starEach es X.env:=by rfl) (hpl:(backTo pos (starEach es X.env)).any (·.1)=false:=by rfl):
  PE X (.Call (.Name x p) (e::es) [] pos) (Fc sp dvs E t):=by
 intro pins s σ H Q I h;refine a0r (JL I hg hm ?_ hdb);refine a09 (h₀:=X.base) I.ok.mod.kin hk (thn (ha pos pins s σ H _ I h) λus s1 ⟨vs,H1,I1,r,q⟩=>⟨I1.kIn,?_⟩) he hpl;exact BO F hr hb hd hx I1 r q
section
variable {X:Cx}{CX:CXT}{k:Nat}{f C:Addr}{fd:Ib}{ps ks:Hx}{sp:Sp}{E:XK}{x m:Str}{p pos vq kpos:Pos}{e o:HJ}{es:HD}{kws:List Keyword}{te ta:TE}{t tk:TA}{nm:Option Str}
variable {g:List Value->List Value->List Value}{gV:List V->List V->List V}
end
structure zv(N P:Hx)(sc:Scope):Prop where
 kind:sc.kind=.function
 co:sc.isCoroutine=false
 gen:sc.isGenerator=false
 nd:N.Nodup
 pre:N.take P.length=P
 par:∀x∈P,sc.names.lookup x=some .local\/sc.names.lookup x=some .cell
 Et:∀y∈sc.names,y.2≠.free
def au{kindOf:IB}{x:Str}:∀{binds:Iv}{m:Hv},(∀v,(x,v)∉binds)->bindL kindOf binds m x=m x
 |[],_,_=>rfl
 | (n,v)::r,m,h=>by
  unfold bindL;rw[au λw hw=>h w (L9 _ hw)];split
  .have:x≠n:=by rintro rfl;exact h v M3
   simp[this]
  .rfl
def aw{kindOf:IB}{x:Str}:∀{binds:Iv}{m:Hv},(∀v,(x,v)∉binds)->bindC kindOf binds m x=m x
 |[],_,_=>rfl
 | (n,v)::r,m,h=>by
  unfold bindC;rw[aw λw hw=>h w (L9 _ hw)];split
  .rfl
  .have:x≠n:=by rintro rfl;exact h v M3
   simp[this]
def ax{kindOf:IB}{x:Str}{v:Value}:∀{P:Hx}{vs:HB}{i:Nat}{m:Hv},P.Nodup->P[i]?=some x->vs[i]?=some v->kindOf x=some .local->
  bindL kindOf (P.zip vs) m x=some v
 |[],_,_,_,_,h,_,_=>by simp at h
 |_::_,[],_,_,_,_,h,_=>by simp at h
 |p::P,w::vs,0,m,nd,h1,h2,hk=>by simp at h1 h2;subst h1;subst h2;show bindL kindOf ((p,w)::P.zip vs) m p=_;unfold bindL;rw[au λv hv=>(a0d.mp nd).1 (a1y hv).1,if_pos hk];simp
 |p::P,w::vs,i+1,m,nd,h1,h2,hk=>by show bindL kindOf ((p,w)::P.zip vs) m x=_;unfold bindL;exact ax (i:=i) (a0d.mp nd).2 (by simpa using h1) (by simpa using h2) hk
def ay{kindOf:IB}{x:Str}{v:Value}:∀{P:Hx}{vs:HB}{i:Nat}{m:Hv},P.Nodup->P[i]?=some x->vs[i]?=some v->kindOf x≠some .local->
  bindC kindOf (P.zip vs) m x=some v
 |[],_,_,_,_,h,_,_=>by simp at h
 |_::_,[],_,_,_,_,h,_=>by simp at h
 |p::P,w::vs,0,m,nd,h1,h2,hk=>by simp at h1 h2;subst h1;subst h2;show bindC kindOf ((p,w)::P.zip vs) m p=_;unfold bindC;rw[aw λv hv=>(a0d.mp nd).1 (a1y hv).1,if_neg hk];simp
 |p::P,w::vs,i+1,m,nd,h1,h2,hk=>by show bindC kindOf ((p,w)::P.zip vs) m x=_;unfold bindC;exact ay (i:=i) (a0d.mp nd).2 (by simpa using h1) (by simpa using h2) hk
def start(N:Hx)(vs:HF):St:=vs.map some++List.replicate (N.length-vs.length) none
def Xi(CX:CXT)(P:HQ)(w:H_)(K:HN)(mg:Hv)(base:Heap)(N:Hx)(qual:Str)(scope:Scope)(f:Addr)(cd:Value)(A:Ia)(outer:List Env)(s:Hy)(H:Hp)(E:XK):Cx where
 prog:=P
 w:=w
 K:=K
 mg:=mg
 base:=base
 A:=A.deeper (envOfC qual scope s.heap.objs.size f cd)
 N:=N
 s₀:=s
 H₀:=H
 env:=envOfC qual scope s.heap.objs.size f cd
 outer:=outer
 stack:=envOfC qual scope s.heap.objs.size f cd::outer
 ex:=[]
 calm:=true
 fn:=λ_=>true
 pn:=[]
 xe:=λe s'=>wpAny (model P w) (A.deeper (envOfC qual scope s.heap.objs.size f cd)) (leaving (envOfC qual scope s.heap.objs.size f cd) e) (λ_ s''=>CX outer H s E e s'') (λe' s''=>CX outer H s E e' s'') s'
def eh{sc:Scope}{n:Nat}{x:Str}(h:sc.names.lookup x=some .cell):∃c,(cellsFrom n sc.names []).lookup x=some c:=by have q:=a1j sc.names n [] (.inl h);exact a0t.mp q
def az{CX:CXT}{P:HQ}{w:H_}{K:HN}{mg:Hv}{base:Heap}{N ps:Hx}{qual:Str}{scope:Scope}{f:Addr}{cd:Value}{A:Ia}{outer:List Env}{s s1:Hy}{H:Hp}{E:XK}{us:HB}{vs:HF}
  (S:zv N ps scope) (hd:A.handled=none) (e0:ib P w K mg base A outer s H) (hl:vs.length=ps.length) (r:Vals vs us)
  (x:InCallC s s.heap.objs.size (bindL (envOfC qual scope s.heap.objs.size f cd).kindOf (ps.zip us) λ_=>none) (cellsFrom (s.heap.objs.size+1) scope.names []) (bindC (envOfC qual scope s.heap.objs.size f cd).kindOf (ps.zip us) λ_=>none) s1):
  Inv (Xi CX P w K mg base N qual scope f cd A outer s H E) [] (start N vs) H s1:=by
 have hpl:ps.length<=N.length:=by have:=T1 List.length S.pre;rw[a0L]at this;omega
 obtain⟨h1,tk,rfl,hk⟩:=x.done;have noA:∀b:Addr,b∉(Xi CX P w K mg base N qual scope f cd A outer s H E).ex:=λb z=>absurd (show b∈([]:List Addr)from z) (by simp);refine⟨⟨e0.mod,S.kind,rfl,rfl,M7 _,λy z c h1 h2=>?_,λy hy=>?_,λy c _ h=>?_,λ_=>hd,a2K e0.frames,.inr ⟨rfl,rfl⟩,λb z=>absurd z (noA b),e0.bs,e0.bsz,λb _ _=>noA b,λb z=>absurd z (noA b),e0.aa,e0.frf⟩,
  rfl,e0.bare,Un.kept hk,⟨_,x.toInCall.ns,λi y v h1 h2 h3=>?_⟩,λy c h=>⟨_,x.cell y c h⟩,e0.hok.fresh (M7 _),λy c h=>?_,λp hp=>absurd (show p∈([]:List (Addr×Obj))from hp) (by simp),e0.hok.kept hk,?_⟩
 .exact name_of_addr x.apart (a0o h1) (a0o h2)
 .have hy:scope.names.lookup y=some .cell\/scope.names.lookup y=some .free:=hy;rcases hy with hy|hy
  .exact eh hy
  .exact absurd rfl (S.Et _ (a0o hy))
 .exact a0z (x.above y c (a0o h))
 .have hi:i<vs.length:=by
   unfold start at h2;by_cases hi:i<vs.length
   .exact hi
   .rw[T9 (by simpa using hi)]at h2;rw[a0w]at h2;split at h2<;>cases h2
  have ha:vs[i]?=some v:=by
   unfold start at h2;rw[S6 (by simpa using hi),O2]at h2;cases e:vs[i]? with
   |none=>rw[e]at h2;cases h2
   |some a=>rw[e]at h2;cases h2;rfl
  obtain⟨u,hu,rv⟩:=r.get ha;have hp:ps[i]?=some y:=by rw[<- S.pre,List.getElem?_take_of_lt (by omega)];exact h1
  have ndP:ps.Nodup:=by rw[<- S.pre];exact S.nd.sublist (a10 _ _)
  refine⟨u,rv,?_⟩;rcases S.par y (a0H hp)with k|k
  .exact .inl ⟨k,ax ndP hp hu k⟩
  .obtain⟨c,e⟩:=eh (n:=s.heap.objs.size+1) k;refine .inr ⟨.inl k,c,e,?_⟩;have q:=x.cell y c e;rw[ay ndP hp hu (by show scope.names.lookup y≠_;rw[k];decide)]at q;exact q
 .exact e0.hok.fresh (a0z (x.above y c (a0o h)))
 .unfold start;show _=N.length;rw[O1,v0,a0A];omega
def BP{CX:CXT}{P:HQ}{w:H_}{K:HN}{mg:Hv}{base:Heap}{k:Nat}{f:Addr}{name qual:Str}{params:Arguments}{body:Ij}{scope:Scope}{dV kV doc pm cdv ct oc:Value}{an od:Iq}
  {osl:Ie}{N ps:Hx}{sp:Sp}(lk:K.lookup f=some ⟨oc,od,.func (PySem.W.fnOf name qual params body scope dV kV doc pm an cdv ct),osl⟩) (hcd:PySem.W.codeIn K cdv qual=true) (S:zv N ps scope)
  (len:∀vs H Q E,sp vs H Q E->vs.length=ps.length)
  (Zn:∀(A:Ia)(outer:List Env)(s:Hy)(H:Hp)(vs:HF)(Q:VK)(E:XK),jO k (A.deeper (envOfC qual scope s.heap.objs.size f cdv))->sp vs H Q E->
   ∃t,PSs (Xi CX P w K mg base N qual scope f cdv A outer s H E) body t/\t { nx:=λ_ H'=>Q .non H',rt:=Q } (start N vs) H):
  jr P w K mg base CX (k+1) f (PySem.W.fnOf name qual params body scope dV kV doc pm an cdv ct) ps sp:=by
 refine⟨len,λA outer s H args us vs Q E hr e0 hb r hsp=>?_⟩;have hl:=len _ _ _ _ hsp;have KX:K.In s.heap:=e0.mod.kin.keeps λb o e=>(e0.bs b o e).1;have lim:s.heap.NoLimit:=e0.mod.nolimit.keeps λb o e=>(e0.bs b o e).1;have hkind:∀y∈ps.zip us,scope.names.lookup y.1=some .local\/(scope.names.lookup y.1=some .cell/\((cellsFrom (s.heap.objs.size+1) scope.names []).lookup y.1).isSome=true):=λ⟨n,v⟩ hy=>by
  rcases S.par n (a1y hy).1 with q|q
  .exact .inl q
  .exact .inr ⟨q,a1j _ _ _ (.inl q)⟩
 refine a2E hr.depth (KX _ _ lk) rfl S.co S.gen rfl (a20 KX hcd) (hb _ _ _ _ ?_);refine a1W S.kind hkind λenv he s1 x=>?_;subst he;refine⟨lim.keeps x.toInCall.keep,codeAny_func ?_⟩;obtain⟨t,ht,hq⟩:=Zn A outer s H vs Q E (hr.deeper _) hsp;have I:Inv (Xi CX P w K mg base N qual scope f cdv A outer s H E) [] (start N vs) H s1:=az S hr.hd e0 hl r x;refine R8 (ht [] s1 (start N vs) H _ I hq) (λfl s' hs=>?_) λe s' hs=>hs;have fin:∀{σ':St}{H':Hp}{v:V}{u:Value},Inv (Xi CX P w K mg base N qual scope f cdv A outer s H E) [] σ' H' s'->RelV v u->Q v H'->CE outer P w H s Q u s':=
  λ{σ' H' v u} J rv q=>⟨v,H',J.os,J.bare,J.base,J.hok,rv,q⟩
 cases fl with
 |ret u=>obtain⟨v,σ',H',J,rv,q⟩:=hs;exact fin J rv q
 |next=>obtain⟨σ',H',J,q⟩:=hs;exact fin (v:=V.non) (u:=Value.none) J rfl q
 |brk=>obtain⟨_,_,_,q⟩:=hs;exact False.elim q
 |cont=>obtain⟨_,_,_,q⟩:=hs;exact False.elim q
section
variable {X:Cx}{x:Str}{p pos:Pos}{e:HJ}{es:HD}{t:TA}{id T:String}{r:List V->Hp->VK->Prop}
def tCB(r:List V->Hp->VK->Prop)(t:TA):TE:=λσ H Q=>t σ H λvs H1=>r vs H1 Q
def X5(hc:j0 X (.builtin id) r)(hg:Gl X x)(hm:X.mg x=none)(hv:bootBuiltins x=some (.builtin id))(ha:PA X (e::es) t)(hn:x≠"__name__":=by decide)(hdb:(x==("__debug__":Str))=false:=by decide)
  (he:starEach (e::es) X.env=(false,eval e X.env)::starEach es X.env:=by rfl) (hpl:(backTo pos (starEach es X.env)).any (·.1)=false:=by rfl):PE X (.Call (.Name x p) (e::es) [] pos) (tCB r t):=by
 intro pins s σ H Q I h;refine a0r (Xg I hg hm hv ?_ hn hdb);exact PyProof.Rows.callWith_builtin1 (thn (ha pos pins s σ H _ I h) λus s1 ⟨vs,H1,I1,r1,q1⟩=>hc pins s1 σ H1 vs us Q I1 r1 q1) he hpl
def aA(hc:j0 X (.type T) r)(hg:Gl X x)(hm:X.mg x=none)(hv:bootBuiltins x=some (.type T))(ha:PA X (e::es) t)(hn:x≠"__name__":=by decide)(hdb:(x==("__debug__":Str))=false:=by decide)
  (he:starEach (e::es) X.env=(false,eval e X.env)::starEach es X.env:=by rfl) (hpl:(backTo pos (starEach es X.env)).any (·.1)=false:=by rfl):PE X (.Call (.Name x p) (e::es) [] pos) (tCB r t):=by
 intro pins s σ H Q I h;refine a0r (Xg I hg hm hv ?_ hn hdb);exact a0X (thn (ha pos pins s σ H _ I h) λus s1 ⟨vs,H1,I1,r1,q1⟩=>hc pins s1 σ H1 vs us Q I1 r1 q1) he hpl
end
end L2
namespace HT
open PySem PyProof.Rows
section
open PySem.SeqAt
open PySem.AutoSeq1 (wpAny_loadPart')
open PySem.MeetsSeq PySem.MeetsSeq2 PySem.MeetsSeq3
end
section
variable {prog:HQ}{w:H_}{A:Ia}{E:Hw}{s:Hy}
def sIx(n d:Nat):Option Int->Nat
 |none=>d
 |some v=>if v<0 then(v+(n:Int)).toNat else min v.toNat n
def X6(n d:Nat):sIx n d none=d:=rfl
def xf(n d k:Nat):sIx n d (some (k:Int))=min k n:=by show(if(k:Int)<0 then((k:Int)+(n:Int)).toNat else min (k:Int).toNat n)=min k n;rw[if_neg (by omega),W1]
end
end HT
namespace L2
open PySem PySem.Spec PyProof.Rows
abbrev TO:=St->Hp->(Option Int->Hp->Prop)->Prop
def PO(X:Cx)(e:IF)(t:TO):Prop:=
 ∀(pins:Hu)(s:Hy)(σ:St)(H:Hp)(Q:Option Int->Hp->Prop),Inv X pins σ H s->t σ H Q->
  wpAny (IP X) X.A (evalPart e X.env) (λu s'=>∃o H',Inv X pins σ H' s'/\IsPart u o/\Q o H') X.xe s
def xg:TO:=λ_ H Q=>Q none H
def Fd(t:TE):TO:=λσ H Q=>t σ H λx H1=>∃i,x=.int i/\Q (some i) H1
section
variable {X:Cx}{e:HJ}{te:TE}{lo hi:IF}{tl th:TO}{pos p2:Pos}
def iK:PO X none xg:=by intro pins s σ H Q I h;rw[evalPart_none];exact M8 ⟨none,H,I,.none,h⟩
def iL(h:PE X e te):PO X (some e) (Fd te):=by intro pins s σ H Q I hw;rw[evalPart_some];refine thn (h pins s σ H _ I hw) λu s1 ⟨x,H1,I1,r1,q1⟩=>?_;obtain⟨i,rfl,q⟩:=q1;obtain⟨t,rfl⟩:=r1;exact⟨some i,H1,I1,.int i t,q⟩
def SlR(X:Cx)(r:V->Option Int->Option Int->Hp->VK->Prop):Prop:=
 ∀(pins:Hu)(s:Hy)(σ:St)(H:Hp)(x:V)(v vl vu:Value)(lo hi:IA) (sl:Addr) (Q:VK),Inv X pins σ H s->RelV x v->s.heap.IsSliceOf sl vl vu .none->IsPart vl lo->IsPart vu hi->r x lo hi H Q->
  ∃T id,typeLookup (.type T) "__getitem__"=pure (some (.builtin id))/\s.TypeIs v T/\wpAny (IP X) X.A (getItem v (.ref sl)) (EP X pins σ Q) X.xe s
def SlR.or(h:SlR X r)(h':SlR X r'):SlR X (λx lo hi H Q=>r x lo hi H Q\/r' x lo hi H Q):=by
 intro pins s σ H x v vl vu lo hi sl Q I rx hs pl pu q;rcases q with q|q
 .exact h pins s σ H x v vl vu lo hi sl Q I rx hs pl pu q
 .exact h' pins s σ H x v vl vu lo hi sl Q I rx hs pl pu q
def tSl(r:V->Option Int->Option Int->Hp->VK->Prop)(te:TE)(tl th:TO):TE:=λσ H Q=>te σ H λx H1=>tl σ H1 λl H2=>th σ H2 λu H3=>r x l u H3 Q
def ej(hr:SlR X r)(he:PE X e te)(hl:PO X lo tl)(hu:PO X hi th):PE X (.Subscript e (.Slice lo hi none p2) pos) (tSl r te tl th):=by intro pins s σ H Q I h;refine Subscript_ (thn (he pins s σ H _ I h) λv s1 ⟨x,H1,I1,r1,q1⟩=>?_);refine wpAny_Slice (thn (hl pins s1 σ H1 _ I1 q1) λvl s2 ⟨l,H2,I2,pl,q2⟩=>thn (hu pins s2 σ H2 _ I2 q2) λvu s3 ⟨u,H3,I3,pu,q3⟩=>?_);rw[evalPart_none];refine M8 ?_;have I4:Inv X pins σ H3 { s3 with heap:=s3.heap.push { cls:=.type "slice",data:=.fields #[vl,vu,.none] } }:=I3.kept (t':=s3.toks) λb ob q=>L6 _ q;obtain⟨T,id,hT,ht,hg⟩:=hr pins { s3 with heap:=s3.heap.push { cls:=.type "slice",data:=.fields #[vl,vu,.none] } } σ H3 x v vl vu l u s3.heap.objs.size Q I4 r1 (Heap.IsSliceOf.new ..) pl pu q3;show wpAny (IP X) X.A (subscriptTail e (.Slice lo hi none p2) v (.ref s3.heap.objs.size)) (EP X pins σ Q) X.xe { s3 with heap:=s3.heap.push { cls:=.type "slice",data:=.fields #[vl,vu,.none] } };exact tail_any (ops:=[.ref s3.heap.objs.size,v]) ht hT hg (by with_unfolding_all rfl)
def o_(xs:HF)(lo hi:IA):List V:=(xs.drop (HT.sIx xs.length 0 lo)).take (HT.sIx xs.length xs.length hi-HT.sIx xs.length 0 lo)
def cB(xs:HF)(lo hi:IA):(o_ xs lo hi).length<=xs.length:=by unfold o_;rw[a0L,a2c];omega
end
def ixN(n:Nat)(i:Int):Option Nat:=if 0<=i then(if i<n then some i.toNat else none)else if -(n:Int)<=i then some (i+n).toNat else none
def atI{α:Type}(xs:List α)(i:Int):Option α:=(ixN xs.length i).bind λj=>xs[j]?
def iM(h:ixN n i=some j):seqIndex? i n=some j/\j<n/\-(n:Int)<=i/\i<n:=by
 unfold ixN at h;by_cases h0:0<=i
 .rw[if_pos h0]at h;by_cases h1:i<n
  .rw[if_pos h1]at h;have e:i.toNat=j:=S7 h;exact⟨by rw[a27 h0 h1,e],by omega,by omega,h1⟩
  .rw[if_neg h1]at h;cases h
 .rw[if_neg h0]at h;by_cases h1:-(n:Int)<=i
  .rw[if_pos h1]at h;have e:(i+n).toNat=j:=S7 h;exact⟨by rw[a21 (by omega) h1,e],by omega,h1,by omega⟩
  .rw[if_neg h1]at h;cases h
def cC{α:Type}{xs:List α}{v:α}(h:atI xs i=some v):∃j,seqIndex? i xs.length=some j/\xs[j]?=some v/\j<xs.length/\-(xs.length:Int)<=i/\i<xs.length:=by
 unfold atI at h;cases e:ixN xs.length i with
 |none=>rw[e]at h;cases h
 |some j=>rw[e]at h;obtain⟨h1,h2,h3,h4⟩:=iM e;exact⟨j,h1,h,h2,h3,h4⟩
def X7(b:HJ):Prop:=∀o i,subscripted b false o i=operate [o,i] (getItem o i)
def IxR(X:Cx)(r:R2):Prop:=
 ∀(value slice:HJ)(pins:Hu)(s:Hy)(σ:St)(H:Hp)(x y:V)(v u:Value) (Q:VK),Inv X pins σ H s->RelV x v->RelV y u->r x y H Q->
  subscripted slice false v u=operate [v,u] (getItem v u)->wpAny (IP X) X.A (subscriptTail value slice v u) (EP X pins σ Q) X.xe s
def MtR(X:Cx)(id:String)(r:V->List V->Hp->VK->Prop):Prop:=
 ∀(pins:Hu)(s:Hy)(σ:St)(H:Hp)(x:V)(xs:HF)(v:Value) (us:HB) (Q:VK),Inv X pins σ H s->RelV x v->Vals xs us->r x xs H Q->
  wpAny (IP X) X.A (call (.builtin id) (v::us)) (EP X pins σ Q) X.xe s
section
variable {X:Cx}{a b:HJ}{ta tb:TE}{pos:Pos}
def IxR.or(h:IxR X r)(h':IxR X r'):IxR X (λx y H Q=>r x y H Q\/r' x y H Q):=by
 intro value slice pins s σ H x y v u Q I rx ry q hs;rcases q with q|q
 .exact h value slice pins s σ H x y v u Q I rx ry q hs
 .exact h' value slice pins s σ H x y v u Q I rx ry q hs
def BQ(hr:IxR X r)(ha:PE X a ta)(hb:PE X b tb)(hs:X7 b):PE X (.Subscript a b pos) (tOp r ta tb):=by intro pins s σ H Q I h;exact Subscript_ (E6 ha hb I h λv u s2 x y H2 I2 rx ry q=>hr a b pins s2 σ H2 x y v u Q I2 rx ry q (hs _ _))
def Gf(K:HN):R2:=λx y H Q=>∃p xs i v,x=.ref p/\y=.int i/\SqL K H p xs/\atI xs i=some v/\Q v H
def Gg(K:HN):R2:=λx y H Q=>∃p xs i v,x=.ref p/\y=.int i/\SqT K H p xs/\atI xs i=some v/\Q v H
def Gh:R2:=λx y H Q=>∃z i c,x=.str z/\y=.int i/\z.length<=sizeLine/\atI z.cps.toList i=some c/\Q (.str ⟨#[c]⟩) H
def xh:IxR X (Gf X.K):=by
 intro value slice pins s σ H x y v u Q I rx ry h hs;obtain⟨p,xs,i,z,rfl,rfl,hq,he,q⟩:=h;cases rx;obtain⟨t,rfl⟩:=ry;obtain⟨its,r,pl,hz⟩:=I.list hq;obtain⟨j,h1,h2,h3,h4,h5⟩:=cC he;obtain⟨w,ew,rw'⟩:=r.get h2;have hl:=r.length;have hn:=ar;have fin:EP X pins σ Q w s:=⟨z,H,I,rw',q⟩;by_cases h0:0<=i
 .have hj:i.toNat=j:=by rw[a27 h0 h5]at h1;exact S7 h1
  exact item_listR pl.isList h0 (by omega) (by rw[hj];simpa using ew) fin hs
 .have hj:(i+(its.toArray.size:Int)).toNat=j:=by rw[a21 (by omega) h4]at h1;rw[O3,<- hl];exact S7 h1
  exact a2z (x:=w) pl.isList.typeIs slot_list_getitem.lookup
   (wpAny_getItem_list_neg (Q:=λr s'=>r=w/\EP X pins σ Q r s') pl.isList (by omega) (by rw[O3]<;>omega) (by omega) (by rw[hj];simpa using ew) ⟨rfl,fin⟩) hs
def BR:IxR X (Gg X.K):=by
 intro value slice pins s σ H x y v u Q I rx ry h hs;obtain⟨p,xs,i,z,rfl,rfl,hq,he,q⟩:=h;cases rx;obtain⟨t,rfl⟩:=ry;obtain⟨its,r,pl,hz⟩:=I.tuple hq;obtain⟨j,h1,h2,h3,h4,h5⟩:=cC he;obtain⟨w,ew,rw'⟩:=r.get h2;have hl:=r.length;have hn:=ar;have fin:EP X pins σ Q w s:=⟨z,H,I,rw',q⟩;exact a2z (x:=w) pl.typeIs slot_tuple_getitem.lookup
  (getItem_tuple (j:=j) (Q:=λr s'=>r=w/\EP X pins σ Q r s') pl (by omega) (by omega) (by rw[O3,<- hl];exact h1) (by simpa using ew) ⟨rfl,fin⟩) hs
def iN:IxR X Gh:=by
 intro value slice pins s σ H x y v u Q I rx ry h hs;obtain⟨z,i,c,rfl,rfl,hz,he,q⟩:=h;obtain⟨t,rfl⟩:=rx;obtain⟨t',rfl⟩:=ry;obtain⟨j,h1,h2,h3,h4,h5⟩:=cC he;have hl:z.cps.toList.length=z.length:=by simp[Str.length]
 rw[hl]at h1 h4 h5;have hn:=ar;exact tail_any (typeIs_str s z t) slot_str_getitem.lookup (getItem_str (c:=c) (by
  have e1:decide (i < -(2 ^ 63:Int))=false:=L7 (by omega);have e2:decide (i ≥ 2 ^ 63)=false:=L7 (by omega);rw[e1,e2,Bool.or_false]) (by rw[h1];simpa using h2) ⟨.str ⟨#[c]⟩,H,I.tok _,⟨_,rfl⟩,q⟩) hs
def rIx(K:HN):R2:=λx y H Q=>Gf K x y H Q\/Gg K x y H Q\/Gh x y H Q
def tG:IxR X (rIx X.K):=xh.or (BR.or iN)
def gm(its:HB)(n j:Nat)(u:Value):Obj.mapSeq (·.setIfInBounds j u) { cls:=.type "list",data:=.seq its.toArray n }={ cls:=.type "list",data:=.seq (its.set j u).toArray n }:=by simp[Obj.mapSeq]
def Inv.lst(I:Inv X pins σ H s)(h:H p=some (.lst xs)):
  ∃(its:HB)(n:Nat),Vals xs its/\s.heap.get? p=some { cls:=.type "list",data:=.seq its.toArray n }/\xs.length<=sizeLine:=by
 obtain⟨z,its,n,r,e⟩:=I.hok p _ h;exact⟨its,n,r,e,z⟩
def Inv.BS{pins:Hu}{σ:St}{H:Hp}{s:Hy}{p:Addr}{xs ys:HF}{its its':HB}{n n':Nat}{f:Obj->Obj}(I:Inv X pins σ H s)(h:H p=some (.lst xs))
  (ho:s.heap.get? p=some { cls:=.type "list",data:=.seq its.toArray n }) (hf:f { cls:=.type "list",data:=.seq its.toArray n }={ cls:=.type "list",data:=.seq its'.toArray n' }) (r:Vals ys its') (hz:ys.length<=sizeLine) (t:Nat):
  Inv X pins σ (upd H p (.lst ys)) { s with heap:=s.heap.update p f,toks:=t }:=by
 have e:(s.heap.update p f).get? p=some { cls:=.type "list",data:=.seq its'.toArray n' }:=by rw[T8 f ho (by rw[hf]<;>rfl),hf]
 refine I.write (x:=p) (e:=p) (by rw[h];trivial) (.inl rfl) (λb u hb q=>(P6 _ _ (Ne.symm hb)).trans q) ⟨_,e⟩ ?_;exact⟨hz,its',n',r,e⟩
def Fe:V->V->V->Hp->(Hp->Prop)->Prop:=λo i v H Q=>∃p xs k j,o=.ref p/\i=.int k/\H p=some (.lst xs)/\ixN xs.length k=some j/\Q (upd H p (.lst (xs.set j v)))
def set_list:Gb X Fe:=by
 intro pins s σ H o i v ov iv u Q I ro ri rv h;obtain⟨p,xs,k,j,rfl,rfl,hp,hj,q⟩:=h;cases ro;obtain⟨t,rfl⟩:=ri;obtain⟨its,n,r,ho,hz⟩:=I.lst hp;obtain⟨h1,h2,h3,h4⟩:=iM hj;have hl:=r.length;have hn:=ar;have I':Inv X pins σ (upd H p (.lst (xs.set j v))) { s with heap:=s.heap.update p (Obj.mapSeq (·.setIfInBounds j u)) }:=
  I.BS hp ho (gm its n j u) (r.set rv j) (by rw[S4];exact hz) s.toks
 by_cases h0:0<=k
 .have hk:k.toNat=j:=by rw[a27 h0 h4]at h1;exact S7 h1
  exact PySem.W.ki_setAt ho h0 (by omega) (by rw[O3,<- hl];exact h4) (by rw[hk];exact⟨_,I',q⟩)
 .have hk:(k+(its.toArray.size:Int)).toNat=j:=by rw[a21 (by omega) h3]at h1;rw[O3,<- hl];exact S7 h1
  exact PySem.W.ki_setBack ho (by omega) (by rw[O3,<- hl];exact h3) (by omega) (by rw[hk];exact⟨_,I',q⟩)
def aB(lo hi:IA)(n:Nat):(sliceBounds lo hi none n).1=((HT.sIx n 0 lo:Nat):Int)/\(sliceBounds lo hi none n).2.1=((HT.sIx n n hi:Nat):Int)/\(sliceBounds lo hi none n).2.2=1:=by
 refine⟨?_,?_,rfl⟩
 .cases lo with
  |none=>simp[sliceBounds,HT.sIx]
  |some i=>
   simp only[sliceBounds,HT.sIx,Option.getD_none,show(1:Int)>0 by decide,if_true];by_cases h:i<0
   .simp only[h,if_true]<;>omega
   .simp only[h,if_false]<;>omega
 .cases hi with
  |none=>simp[sliceBounds,HT.sIx]
  |some i=>
   simp only[sliceBounds,HT.sIx,Option.getD_none,show(1:Int)>0 by decide,if_true];by_cases h:i<0
   .simp only[h,if_true]<;>omega
   .simp only[h,if_false]<;>omega
def X8(its:HB)(lo hi:IA):slicePick its.toArray lo hi none=((its.drop (HT.sIx its.length 0 lo)).take (HT.sIx its.length its.length hi-HT.sIx its.length 0 lo)).toArray:=by obtain⟨h1,h2,h3⟩:=aB lo hi its.toArray.size;unfold slicePick;rw[h1,h2,h3];simp only[sliceRange_one,pick_run,List.size_toArray]<;>rfl
def G4(K:HN):V->Option Int->Option Int->Hp->VK->Prop:=λx lo hi H Q=>∃a xs,x=.ref a/\SqL K H a xs/\∀p,H p=none->Q (.ref p) (upd H p (.lst (o_ xs lo hi)))
def iO:SlR X (G4 X.K):=by intro pins s σ H x v vl vu lo hi sl Q I rx hs pl pu h;obtain⟨a,xs,rfl,hx,q⟩:=h;cases rx;obtain⟨its,r,ht,hz⟩:=I.list hx;have hlen:=r.length;refine⟨"list",_,slot_list_getitem.lookup,ht.isList.typeIs,?_⟩;refine wpAny_getItem_list_slice ht.isList hs pl pu .none (by simp) ?_ (by rw[List.size_toArray]<;>omega);rw[X8,<- hlen];refine⟨.ref s.heap.objs.size,_,I.laid (t':=s.toks) (o:=.lst (o_ xs lo hi)) (λb ob q=>L6 _ q) (M7 _) ?_,rfl,q _ (I.hok.fresh (M7 _))⟩;exact⟨O8 (cB xs lo hi) hz,_,0,(r.drop (HT.sIx xs.length 0 lo)).take (HT.sIx xs.length xs.length hi-HT.sIx xs.length 0 lo),O5 _ rfl⟩
def KW:V->Bool
 |.non=>true
 |.bl _=>true
 |.int _=>true
 |.str _=>true
 |_=>false
def eqV:V->V->Bool
 |.non,.non=>true
 |.bl a,.bl b=>a==b
 |.bl a,.int b=>(if a then 1 else 0)==b
 |.int a,.bl b=>a==(if b then 1 else 0)
 |.int a,.int b=>a==b
 |.str a,.str b=>a==b
 |_,_=>false
def tH(ry:RelV y u)(rx:RelV x v)(fy:KW y=true)(fx:KW x=true):SeqAt.EqAt A s u v (eqV y x):=by
 cases y with
 |non=>
  cases ry;cases x with
  |non=>cases rx;exact SeqAt.EqAt.same _
  |bl b=>cases rx;exact SeqAt.EqAt.none_bool b
  |int b=>obtain⟨t,rfl⟩:=rx;exact SeqAt.EqAt.none_int b t
  |str b=>obtain⟨t,rfl⟩:=rx;exact SeqAt.EqAt.none_str b t
  |_=>exact absurd (show false=true from fx) M6
 |bl a=>
  cases ry;cases x with
  |non=>cases rx;exact SeqAt.EqAt.bool_none a
  |bl b=>cases rx;exact SeqAt.EqAt.bool_bool a b
  |int b=>obtain⟨t,rfl⟩:=rx;exact SeqAt.EqAt.bool_int a b t
  |str b=>obtain⟨t,rfl⟩:=rx;exact SeqAt.EqAt.bool_str a b t
  |_=>exact absurd (show false=true from fx) M6
 |int a=>
  obtain⟨t',rfl⟩:=ry;cases x with
  |non=>cases rx;exact SeqAt.EqAt.int_none a t'
  |bl b=>cases rx;exact SeqAt.EqAt.int_bool a t' b
  |int b=>obtain⟨t,rfl⟩:=rx;exact SeqAt.EqAt.int_int a t' b t
  |str b=>obtain⟨t,rfl⟩:=rx;exact a2V a t' b t
  |_=>exact absurd (show false=true from fx) M6
 |str a=>
  obtain⟨t',rfl⟩:=ry;cases x with
  |non=>cases rx;exact SeqAt.EqAt.str_none a t'
  |bl b=>cases rx;exact SeqAt.EqAt.str_bool a t' b
  |int b=>obtain⟨t,rfl⟩:=rx;exact a2W a t' b t
  |str b=>obtain⟨t,rfl⟩:=rx;exact SeqAt.EqAt.str_str a t' b t
  |_=>exact absurd (show false=true from fx) M6
 |_=>exact absurd (show false=true from fy) M6
def eqU(x:V)(u:Value):Bool:=match u with
 |.none=>eqV .non x
 |.bool b=>eqV (.bl b) x
 |.int i _=>eqV (.int i) x
 |.str z _=>eqV (.str z) x
 |_=>false
def tI(r:RelV y u)(f:KW y=true):eqU x u=eqV y x:=by
 cases y with
 |non=>cases r;rfl
 |bl b=>cases r;rfl
 |int i=>obtain⟨t,rfl⟩:=r;rfl
 |str z=>obtain⟨t,rfl⟩:=r;rfl
 |_=>exact absurd (show false=true from f) M6
def VE{x:V}:∀{xs:HF}{us:HB},Vals xs us->xs.all KW=true->us.any (eqU x)=xs.any λy=>eqV y x
 |_,_,.nil,_=>rfl
 |y::xs,u::us,.cons r t,f=>by rw[a1l,a0f]at f;rw[a0m,a0m,tI r f.1,VE t f.2]
def QU{A:Ia}{s:Hy}{x:V}{v:Value}(rx:RelV x v)(fx:KW x=true):∀{xs:HF}{us:HB},Vals xs us->xs.all KW=true->∀u∈us,SeqAt.EqAt A s u v (eqU x u)
 |_,_,.nil,_=>λu hu=>by cases hu
 |y::xs,u::us,.cons r t,f=>λu' hu=>by
  rw[a1l,a0f]at f;rcases O0.mp hu with rfl|hu
  .rw[tI r f.1];exact tH r rx f.1 fx
  .exact QU rx fx t f.2 u' hu
def inV(x:V)(xs:HF):Bool:=xs.any λy=>eqV y x
def rIn(K:HN)(neg:Bool):R2:=λx y H Q=>∃p xs,y=.ref p/\(SqL K H p xs\/SqT K H p xs)/\KW x=true/\xs.all KW=true/\Q (.bl (if neg then !inV x xs else inV x xs)) H
def iP:OpR X (compareOp .In) (rIn X.K false):=by
 intro pins s σ H x y v u Q I rx ry h;obtain⟨p,xs,rfl,hq,fx,fs,q⟩:=h;cases ry;rcases hq with hq|hq
 .obtain⟨its,r,pl,hz⟩:=I.list hq;refine SeqAt.in_listAt (eqU x) pl.isList (λw hw=>QU rx fx r fs w (by simpa using hw)) ⟨.bl _,H,I,rfl,?_⟩;rw[show its.toArray.any (eqU x)=its.any (eqU x) by simp,VE r fs];exact q
 .obtain⟨its,r,pl,hz⟩:=I.tuple hq;refine SeqAt.in_tupleAt (eqU x) pl (λw hw=>QU rx fx r fs w (by simpa using hw)) ⟨.bl _,H,I,rfl,?_⟩;rw[show its.toArray.any (eqU x)=its.any (eqU x) by simp,VE r fs];exact q
def aC:OpR X (compareOp .NotIn) (rIn X.K true):=by
 intro pins s σ H x y v u Q I rx ry h;obtain⟨p,xs,rfl,hq,fx,fs,q⟩:=h;cases ry;rcases hq with hq|hq
 .obtain⟨its,r,pl,hz⟩:=I.list hq;refine SeqAt.notIn_listAt (eqU x) pl.isList (λw hw=>QU rx fx r fs w (by simpa using hw)) ⟨.bl _,H,I,rfl,?_⟩;rw[show its.toArray.any (eqU x)=its.any (eqU x) by simp,VE r fs];exact q
 .obtain⟨its,r,pl,hz⟩:=I.tuple hq;refine SeqAt.notIn_tupleAt (eqU x) pl (λw hw=>QU rx fx r fs w (by simpa using hw)) ⟨.bl _,H,I,rfl,?_⟩;rw[show its.toArray.any (eqU x)=its.any (eqU x) by simp,VE r fs];exact q
def aE:OpR X (compareOp .NotIn) (λx y H Q=>∃i j,x=.str i/\y=.str j/\Q (.bl (!(!(Builtin.Str.occurrences j i 0 j.length 1).isEmpty))) H):=by intro pins s σ H x y v u Q I rx ry h;obtain⟨i,j,rfl,rfl,q⟩:=h;obtain⟨t,rfl⟩:=rx;obtain⟨t',rfl⟩:=ry;exact notIn_str ⟨.bl _,H,I,rfl,q⟩
def j0.or(h:j0 X f r)(h':j0 X f r'):j0 X f (λxs H Q=>r xs H Q\/r' xs H Q):=by
 intro pins s σ H xs us Q I rs q;rcases q with q|q
 .exact h pins s σ H xs us Q I rs q
 .exact h' pins s σ H xs us Q I rs q
def aF:j0 X (.type "list") (λxs H Q=>∃p ys,xs=[.ref p]/\(SqL X.K H p ys\/SqT X.K H p ys)/\∀l,H l=none->Q (.ref l) (upd H l (.lst ys))):=by
 intro pins s σ H xs us Q I r h;obtain⟨p,ys,rfl,hq,q⟩:=h;obtain⟨u,rfl,rx⟩:=vals1 r;cases rx;have fin:∀(its:HB),Vals ys its->ys.length<=sizeLine->∀(h':Heap)(c':Nat),(∀b o',s.heap.get? b=some o'->h'.get? b=some o')->
   h'.get? s.heap.objs.size=some { cls:=.type "list",dict:=none,data:=.seq its.toArray c',slots:=#[] }->EP X pins σ Q (.ref s.heap.objs.size) { s with heap:=h' }:=λits r' hz h' c' kp e=>
  ⟨.ref s.heap.objs.size,_,I.laid (t':=s.toks) kp (M7 _) (show yM X.prog X.w _ h' _ (.lst ys)from⟨hz,its,c',r',e⟩),rfl,q _ (I.hok.fresh (M7 _))⟩
 rcases hq with hq|hq
 .obtain⟨its,r',pl,hz⟩:=I.list hq;have hlen:=r'.length;obtain⟨o,ho,hc,n,hd⟩:=pl.isList;exact call_list_seq p (.inl rfl) ho hc hd (λh' c' kp e=>fin its r' hz h' c' kp e) (by simp only[List.size_toArray]<;>omega)
 .obtain⟨its,r',pl,hz⟩:=I.tuple hq;have hlen:=r'.length;obtain⟨o,ho,hc,n,hd⟩:=pl;exact call_list_seq p (.inr rfl) ho hc hd (λh' c' kp e=>fin its r' hz h' c' kp e) (by simp only[List.size_toArray]<;>omega)
def tyV(K:HN)(T:String)(x:V)(H:Hp):Prop:=match x with
 |.str _=>T="str"
 |.int _=>T="int"
 |.ref p=>(T="list" /\ ∃xs,SqL K H p xs)\/(T="tuple" /\ ∃o,K.lookup p=some o/\o.cls=.type "tuple"/\o.dict=none)\/
   (T="dict"/\((∃kvs,H p=some (.dK kvs))\/∃kvs,H p=some (.dT kvs)))\/(T="set" /\ ∃S n,H p=some (.set S n))
 |_=>False
def tJ(I:Inv X pins σ H s)(r:RelV x v)(ty:tyV X.K T x H):
  s.TypeIs v T/\∀a,v=.ref a->∃ob,s.heap.get? a=some ob/\ob.dict=none:=by
 cases x with
 |str z=>obtain⟨t,rfl⟩:=r;cases(show T="str" from ty);exact⟨typeIs_str s z t,λ_ e=>nomatch e⟩
 |int i=>obtain⟨t,rfl⟩:=r;cases(show T="int" from ty);exact⟨typeIs_int s i t,λ_ e=>nomatch e⟩
 |ref p=>
  cases r;rcases ty with⟨rfl,xs,hq⟩|⟨rfl,o,hk,hc,hd⟩|⟨rfl,hk⟩|⟨rfl,S,n,hk⟩
  .obtain⟨its,_,pl,_⟩:=I.list hq;refine⟨pl.isList.typeIs,λa e=>?_⟩;cases e;obtain⟨o,n,e,c,hd,_⟩:=pl;exact⟨o,e,hd⟩
  .refine⟨⟨o,I.kIn p o hk,hc⟩,λa e=>?_⟩;cases e;exact⟨o,I.kIn _ o hk,hd⟩
  .have z:∃o,s.heap.get? p=some o/\o.ExactDict:=by
    rcases hk with⟨kvs,hk⟩|⟨kvs,hk⟩
    .obtain⟨_,_,_,_,o,_,_,e,ex,_⟩:=I.hok p _ hk;exact⟨o,e,ex⟩
    .obtain⟨_,_,_,_,o,_,_,e,ex,_⟩:=I.hok p _ hk;exact⟨o,e,ex⟩
   obtain⟨o,e,ex⟩:=z;refine⟨⟨o,e,ex.1⟩,λa e2=>?_⟩;cases e2;exact⟨o,e,ex.2.1⟩
  .obtain⟨o,_,_,_,e,ex,_⟩:=I.hok p _ hk;refine⟨⟨o,e,ex.1⟩,λa e2=>?_⟩;cases e2;exact⟨o,e,ex.2.1⟩
 |_=>exact False.elim ty
def G5(K:HN)(T:String)(r:V->List V->Hp->VK->Prop)(to:TE):TE:=λσ H Q=>to σ H λx H1=>tyV K T x H1/\r x [] H1 Q
def tBM(K:HN)(T:String)(r:V->List V->Hp->VK->Prop)(to:TE)(t:TA):TE:=λσ H Q=>to σ H λx H1=>tyV K T x H1/\t σ H1 λxs H2=>r x xs H2 Q
variable {o e:HJ}{es:HD}{to:TE}{t:TA}{name:Str}{vq wA:Pos}{T id:String}{r:V->List V->Hp->VK->Prop}
def BU(pa:PlainAttrs T)(slot:Slot T name id)(hty:typeOf (.builtin id)=pure (.type "method_descriptor"))(hm:MtR X id r)(ho:PE X o to)
  (WN:attributeBase o name X.env (eval o X.env)=eval o X.env:=by rfl) (WM:(vq.endLine==wA.line)=true:=by rfl):PE X (.Call (.Attribute o name vq) [] [] wA) (G5 X.K T r to):=by
 intro pins s σ H Q I h;refine wpAny_Call_method0_late WN WM (thn (ho pins s σ H _ I h) λv s1 ⟨x,H1,I1,r1,ty,q1⟩=>?_);obtain⟨h1,h2⟩:=tJ I1 r1 ty;exact⟨T,id,pa,slot,hty,h1,h2,a1k rfl (PySem.evalArgs_none (hm pins s1 σ H1 x [] v [] Q I1 r1 .nil q1))⟩
def xi(pa:PlainAttrs T)(slot:Slot T name id)(hty:typeOf (.builtin id)=pure (.type "method_descriptor"))(hm:MtR X id r)(ho:PE X o to)(ha:PA X (e::es) t)
  (WN:attributeBase o name X.env (eval o X.env)=eval o X.env:=by rfl)
  (Bg:((backTo wA (starEach (e::es) X.env)).all (λx=>!x.1)&&(backToKw wA (keywordEach [] X.env)).all (λx=>x.1.isSome)
   && decide ((e::es).length+([]:List Keyword).length+(if([]:List Keyword).isEmpty then 0 else 1)<30))=true:=by rfl)
  (WM:(vq.endLine==wA.line)=true:=by rfl) (hs:starEach (e::es) X.env=(false,eval e X.env)::starEach es X.env:=by rfl) (hplain:(backTo wA (starEach es X.env)).any (·.1)=false:=by rfl):
  PE X (.Call (.Attribute o name vq) (e::es) [] wA) (tBM X.K T r to t):=by
 intro pins s σ H Q I h;refine wpAny_Call_method_late WN Bg WM rfl (thn (ho pins s σ H _ I h) λv s1 ⟨x,H1,I1,r1,ty,q1⟩=>?_);obtain⟨h1,h2⟩:=tJ I1 r1 ty;refine⟨T,id,pa,slot,hty,h1,h2,?_⟩;have hA:=ha wA pins s1 σ H1 _ I1 q1;rw[hs]at hA ⊢;refine a1k (by show(false||(backTo wA (starEach es X.env)).any (·.1))=false;rw[hplain]<;>rfl) (a2L ?_);exact thn hA λus s2 ⟨vs,H2,I2,r2,q2⟩=>hm pins s2 σ H2 x vs v us Q I2 r1 r2 q2
end
def MtM(X:Cx)(id:String)(r:V->List V->Hp->VK->Prop):Prop:=
 ∀(pins:Hu)(s:Hy)(σ:St)(H:Hp)(x:V)(xs:HF)(v:Value) (us:HB) (Q:VK),Inv X pins σ H s->RelV x v->Vals xs us->r x xs H Q->
  wpAny (IP X) X.A (call (.builtin id) (v::us)) (EP X pins σ Q) X.xe s
def Vals.one:∀{x:V}{us:HB},Vals [x] us->∃u,us=[u]/\RelV x u
 |_,_,.cons r .nil=>⟨_,rfl,r⟩
def Vals.zero:∀{us:HB},Vals [] us->us=[]
 |_,.nil=>rfl
def Vals.dropLast(h:Vals xs us):Vals xs.dropLast us.dropLast:=by
 induction h with
 |nil=>exact .nil
 |cons r t ih=>
  cases t with
  |nil=>exact .nil
  |cons q t'=>exact .cons r ih
def Vals.rep{xs:HF}{us:HB}(h:Vals xs us):∀k:Nat,Vals (List.replicate k xs).flatten (List.replicate k us).flatten
 |0=>.nil
 |k+1=>by rw[a0p,a0p,a0E,a0E];exact Vals.append h (Vals.rep h k)
def gp{α:Type}(l:List α):l.eraseIdx (l.length-1)=l.dropLast:=by
 induction l with
 |nil=>rfl
 |cons a r ih=>
  cases r with
  |nil=>rfl
  |cons b r=>
   have e:(a::b::r).length-1=((b::r).length-1)+1:=by have h1:(a::b::r).length=r.length+2:=rfl;have h2:(b::r).length=r.length+1:=rfl;omega
   rw[e,List.eraseIdx_cons_succ,ih]
   all_goals rfl
def foldl_rep(its:HB):∀(k:Nat)(acc:HB),
  List.foldl (λx1 x2=>x1++x2) acc.toArray (List.replicate k its.toArray)=(acc++(List.replicate k its).flatten).toArray
 |0,acc=>by simp
 |k+1,acc=>by
  have e:acc.toArray++its.toArray=(acc++its).toArray:=by simp
  have e2:(acc++its)++(List.replicate k its).flatten=acc++(List.replicate (k+1) its).flatten:=by rw[a0p,a0E,T7]
  rw[<- e2,<- foldl_rep its k (acc++its),<- e,a0p,a1z]
def Inv.Gi{its its':HB}{n:Nat}{f:Array Value->Array Value}{t':Nat}(I:Inv X pins σ H s)(hH:H l=some (.lst xs))
  (e:s.heap.get? l=some { cls:=.type "list",data:=.seq its.toArray n }) (hf:f its.toArray=its'.toArray) (hv:Vals ys its') (hz:ys.length<=sizeLine):
  Inv X pins σ (upd H l (.lst ys)) { s with heap:=s.heap.update l (Obj.mapSeq f),toks:=t' }:=by
 have q:=PySem.IsL.update e f;rw[hf]at q;refine I.write (x:=l) (e:=l) (by rw[hH];exact trivial) (.inl rfl) (λb' u hb hu=>(P6 s.heap (Obj.mapSeq f) (Ne.symm hb)).trans hu) ⟨_,q⟩ ?_;exact⟨hz,its',_,hv,q⟩
def Inv.Ff(I:Inv X pins σ H s)(hv:Vals ys its)(hz:ys.length<=sizeLine):
  Inv X pins σ (upd H s.heap.objs.size (.lst ys)) { s with heap:=s.heap.push { cls:=.type "list",data:=.seq its.toArray },toks:=t' }:=
 I.laid (λ_ _ q=>L6 _ q) (M7 _) ⟨hz,its,0,hv,O5 _ rfl⟩
def Inv.fresh(I:Inv X pins σ H s):H s.heap.objs.size=none:=I.hok.fresh (M7 _)
def Inv.BV(I:Inv X pins σ H s)(hH:H l=some (.lst xs)):xs.length<=sizeLine/\∃(its:HB)(n:Nat),Vals xs its/\xs.length=its.length/\s.heap.get? l=some { cls:=.type "list",data:=.seq its.toArray n }:=by obtain⟨z,its,n,r,e⟩:=I.hok l _ hH;exact⟨z,its,n,r,r.length,e⟩
def pb(h:n<=sizeLine):Builtin.List.listTooLong n=false:=by unfold Builtin.List.listTooLong;exact L7 (by omega)
section
variable {X:Cx}
def xj:V->List V->Hp->VK->Prop:=λx vs H Q=>∃l xs y,x=.ref l/\vs=[y]/\H l=some (.lst xs)/\xs.length<sizeLine/\Q .non (upd H l (.lst (xs++[y])))
def VF:MtM X "list.append" xj:=by intro pins s σ H x vs v us Q I rx rv h;obtain⟨l,xs,y,rfl,rfl,hH,hz,q⟩:=h;cases rx;obtain⟨u,rfl,ru⟩:=rv.one;obtain⟨z,its,n,r,hl,e⟩:=I.BV hH;refine a16 F.slot_list_append ⟨_,e,rfl⟩ F.entry_list_append (F.args_list_append_2 _ _) (PySem.list_append l its.toArray n u (by rw[O3];omega)) ⟨e,?_⟩;refine⟨.non,_,I.Gi (its':=its++[u]) hH e (by simp) (r.append (.cons ru .nil)) ?_,rfl,q⟩;rw[O1,a1u];omega
def G6:V->List V->Hp->VK->Prop:=λx vs H Q=>∃l xs y,x=.ref l/\vs=[]/\H l=some (.lst xs)/\xs[xs.length-1]?=some y/\Q y (upd H l (.lst xs.dropLast))
def BW:MtM X "list.pop" G6:=by
 intro pins s σ H x vs v us Q I rx rv h;obtain⟨l,xs,y,rfl,rfl,hH,hy,q⟩:=h;cases rx;have hus:=rv.zero;subst hus;obtain⟨z,its,n,r,hl,e⟩:=I.BV hH;obtain⟨u,hu,ru⟩:=r.get hy;have hy':its.toArray[its.toArray.size-1]?=some u:=by show its.toArray[its.length-1]?=some u;rw[<- a2F,<- hl];exact hu
 refine a16 F.slot_list_pop ⟨_,e,rfl⟩ F.entry_list_pop (F.args_list_pop_1 _) (MeetsSeq.list_pop_last l its.toArray n u hy' (by rw[O3];omega)) ⟨e,?_⟩;refine⟨y,_,I.Gi (its':=its.dropLast) hH e ?_ r.dropLast ?_,ru,q⟩
 .show its.toArray.eraseIdxIfInBounds (its.toArray.size-1)=its.dropLast.toArray;rw[O3,List.eraseIdxIfInBounds_toArray,gp]
 .rw[List.length_dropLast];omega
def Gj:R2:=λx y H Q=>∃l b xs zs,x=.ref l/\y=.ref b/\H l=some (.lst xs)/\H b=some (.lst zs)/\xs.length+zs.length<=sizeLine/\∀p,H p=none->Q (.ref p) (upd H p (.lst (xs++zs)))
def BX:OpR X (binaryOp .Add) Gj:=by
 intro pins s σ H x y v u Q I rx ry h;obtain⟨l,b,xs,zs,rfl,rfl,hH,hB,hz,q⟩:=h;cases rx;cases ry;obtain⟨z,its,n,r,hl,e⟩:=I.BV hH;obtain⟨z2,its2,n2,r2,hl2,e2⟩:=I.BV hB;refine PySem.P.add_list e e2 ?_ (by rw[O3,O3];omega);have ea:its.toArray++its2.toArray=(its++its2).toArray:=by simp
 rw[ea];exact⟨.ref _,_,I.Ff (t':=s.toks) (r.append r2) (by rw[O1];omega),rfl,q _ I.fresh⟩
def Gk:R2:=λx y H Q=>∃l k xs,x=.ref l/\y=.int k/\H l=some (.lst xs)/\-(2 ^ 63)<=k/\k<2 ^ 63/\xs.length*k.toNat<=sizeLine/\
 ∀p,H p=none->Q (.ref p) (upd H p (.lst (List.replicate k.toNat xs).flatten))
def len_rep{α:Type}(xs:List α)(k:Nat):(List.replicate k xs).flatten.length=k*xs.length:=by
 induction k with
 |zero=>simp
 |succ k ih=>rw[a0p,a0E,O1,ih,Nat.succ_mul,Nat.add_comm]
def BY:OpR X (binaryOp .Mult) Gk:=by
 intro pins s σ H x y v u Q I rx ry h;obtain⟨l,k,xs,rfl,rfl,hH,h1,h2,hz,q⟩:=h;cases rx;obtain⟨t,rfl⟩:=ry;obtain⟨z,its,n,r,hl,e⟩:=I.BV hH;have hlen:its.toArray.size*k.toNat<=sizeLine:=by rw[O3,<- hl];exact hz
 have hcap:¬its.toArray.size*k.toNat>(2 ^ 63-1) / 8:=by
  have:(sizeLine:Nat)<=(2 ^ 63-1) / 8:=by decide
  omega
 have hfit:¬(!Builtin.List.listFitsIndex k)=true:=by rw[fitsIndex_both h1 h2];exact M6
 have hlong:¬Builtin.List.listTooLong (its.toArray.size*k.toNat)=true:=by rw[pb hlen];exact M6
 have hnew:List.foldl (λx1 x2=>x1++x2) #[] (List.replicate (if its.toArray.isEmpty=true then 0 else k.toNat) its.toArray)=(List.replicate k.toNat its).flatten.toArray:=by
  have f0:∀m:Nat,List.foldl (λx1 x2=>x1++x2) #[] (List.replicate m its.toArray)=(List.replicate m its).flatten.toArray:=λm=>by have:=foldl_rep its m [];rw[a1A]at this;exact this
  rw[f0];cases its with
  |nil=>simp
  |cons a r'=>rw[if_neg (by simp)]
 refine wpAny_binaryOp_repeat_ref (T:="list") (U:="int") (by decide) ⟨_,e,rfl⟩ (λs'=>typeIs_int s' k t) noFill_list_mul F.fills_int_mul F.slot_int_rmul repeat_list F.slot_int_index.lookup
  (a16 F.slot_int_rmul (typeIs_int s k t) F.entry_int_rmul (F.args_int_rmul_2 _ _) (int___rmul___int_list k t l its.toArray n)
   ⟨e,rfl,⟨_,e,rfl⟩,a16 F.slot_list_mul ⟨_,e,rfl⟩ F.entry_list_mul (F.args_list_mul_2 _ _) (AutoListH.list___mul___list_int_3 l its.toArray n k t hfit hcap hlong) ⟨e,?_⟩⟩)
 rw[hnew];exact⟨.ref _,_,I.Ff (t':=s.toks) (r.rep k.toNat) (by rw[len_rep,Nat.mul_comm];exact hz),rfl,q _ I.fresh⟩
end
section
variable {prog:HQ}{w:H_}{A:Ia}{E:Hw}{s:Hy}
end
section
variable {X:Cx}
end
section
variable {κ:Type}[DecidableEq κ]
def Xj(kvs:List (κ×V))(k:κ):Option V:=(kvs.find? λkv=>decide (kv.1=k)).map (·.2)
def putK(kvs:List (κ×V))(k:κ)(v:V):List (κ×V):=
 if(kvs.any λkv=>decide (kv.1=k))=true then kvs.map (λkv=>if kv.1=k then(kv.1,v)else kv)else kvs++[(k,v)]
def Vj{p:κ×V}{r:List (κ×V)}{k:κ}(e:p.1=k):Xj (p::r) k=some p.2:=by simp[Xj,List.find?_cons,e]
def Vk{p:κ×V}{r:List (κ×V)}{k:κ}(e:¬p.1=k):Xj (p::r) k=Xj r k:=by simp[Xj,List.find?_cons,e]
def eA(k:κ):∀kvs:List (κ×V),(kvs.any λkv=>decide (kv.1=k))=(Xj kvs k).isSome
 |[]=>rfl
 |p::r=>by
  rw[a0m];by_cases e:p.1=k
  .simp only[Vj e,decide_eq_true e,Bool.true_or,Option.isSome_some]
  .rw[Vk e,L7 e,a2Q];exact eA k r
def VG(kvs:List (κ×V))(k:κ)(v:V):(putK kvs k v).length<=kvs.length+1:=by
 unfold putK;split
 .rw[v0];omega
 .rw[O1,v4,a1B];omega
def Xe.ZR(r:Xe o u):o.isSome=u.isSome:=by
 cases o with
 |none=>cases u with
  |none=>rfl
  |some _=>exact(show False from r).elim
 |some _=>cases u with
  |none=>exact(show False from r).elim
  |some _=>rfl
def Xe.getD(r:Xe o u)(rd:RelV d d'):RelV (o.getD d) (u.getD d'):=by
 cases o with
 |none=>cases u with
  |none=>exact rd
  |some _=>exact(show False from r).elim
 |some _=>cases u with
  |none=>exact(show False from r).elim
  |some _=>exact r
def KV.val{kvs:List (κ×V)}{vs:List (κ×Value)}(r:KV kvs vs)(k:κ):Xe (Xj kvs k) (valueAt vs k):=by
 unfold KV at r
 induction r with
 |nil=>exact True.intro
 |@cons p q ps qs h t ih=>
  obtain⟨h1,h2⟩:=h;by_cases e:p.1=k
  .have e':q.1=k:=h1.symm.trans e;have b:valueAt (q::qs) k=some q.2:=by simp[valueAt,List.find?_cons,e']
   rw[Vj e,b];exact h2
  .have e':¬q.1=k:=λz=>e (h1.trans z);have b:valueAt (q::qs) k=valueAt qs k:=by simp[valueAt,List.find?_cons,e']
   rw[Vk e,b];exact ih
def KV.any{kvs:List (κ×V)}{vs:List (κ×Value)}(r:KV kvs vs)(k:κ):(kvs.any λkv=>decide (kv.1=k))=vs.any λkv=>decide (kv.1=k):=by
 unfold KV at r
 induction r with
 |nil=>rfl
 |cons h t ih=>rw[a0m,a0m,ih,h.1]
def KV.Fg{kvs:List (κ×V)}{vs:List (κ×Value)}(r:KV kvs vs)(k:κ)(ry:RelV y u):
  KV (kvs.map λkv=>if kv.1=k then(kv.1,y)else kv) (vs.map λkv=>if kv.1=k then(kv.1,u)else kv):=by
 unfold KV at r ⊢
 induction r with
 |nil=>exact .nil
 |@cons p q ps qs h t ih=>
  rw[O7,O7];refine .cons ?_ ih;obtain⟨h1,h2⟩:=h;by_cases e:p.1=k
  .rw[if_pos e,if_pos (h1.symm.trans e)];exact⟨h1,ry⟩
  .rw[if_neg e,if_neg (λz=>e (h1.trans z))];exact⟨h1,h2⟩
def KV.put{kvs:List (κ×V)}{vs:List (κ×Value)}(r:KV kvs vs)(k:κ)(ry:RelV y u):KV (putK kvs k y) (stored vs k u):=by
 unfold putK stored;rw[r.any k];by_cases e:(vs.any λkv=>decide (kv.1=k))=true
 .rw[if_pos e,if_pos e];exact r.Fg k ry
 .rw[if_neg e,if_neg e];exact Paired.snoc r ⟨rfl,ry⟩
def KV.length{kvs:List (κ×V)}{vs:List (κ×Value)}(r:KV kvs vs):kvs.length=vs.length:=a0k r
end
def cD(r:RelV (kV k) u):(yw P w).is k u=true:=by
 cases k with
 |inl i=>obtain⟨t,e⟩:=(show ∃t,u=Value.int i t from r);subst e;exact cq P w i t
 |inr x=>obtain⟨t,e⟩:=(show ∃t,u=Value.str x t from r);subst e;exact cu P w x t
def aG{P:HQ}{w:H_}:∀{ks:List Key}{us:HB},Vals (ks.map kV) us->ItemsAre (yw P w) ks us
 |[],_,r=>by rw[a2d]at r;cases r;exact .nil
 |k::ks,_,r=>by
  rw[O7]at r;cases r with
  |cons h t=>exact .cons (cD h) (aG t)
abbrev KT(H:Hp):List (List Key×V)->List (List Key×Addr×Value)->Prop:=Paired λp q=>p.1=q.1/\H q.2.1=some (.tup (p.1.map kV))/\RelV p.2 q.2.2
def KT.val(r:KT H kvs xs)(k:List Key):Xe (Xj kvs k) ((atKey xs k).map (·.2)):=by
 induction r with
 |nil=>exact True.intro
 |@cons p q ps qs h t ih=>
  obtain⟨h1,_,h2⟩:=h;by_cases e:p.1=k
  .have e':q.1=k:=h1.symm.trans e;have b:atKey (q::qs) k=some q.2:=by simp[atKey,List.find?_cons,e']
   rw[Vj e,b];exact h2
  .have e':¬q.1=k:=λz=>e (h1.trans z);have b:atKey (q::qs) k=atKey qs k:=by simp[atKey,List.find?_cons,e']
   rw[Vk e,b];exact ih
def KT.Fg(r:KT H kvs xs)(k:List Key)(ry:RelV y u):
  KT H (kvs.map λkv=>if kv.1=k then(kv.1,y)else kv) (xs.map (putAt k u)):=by
 induction r with
 |nil=>exact .nil
 |@cons p q ps qs h t ih=>
  rw[O7,O7];refine .cons ?_ ih;obtain⟨h1,h2,h3⟩:=h;unfold putAt;by_cases e:p.1=k
  .rw[if_pos e,if_pos (h1.symm.trans e)];exact⟨h1,h2,ry⟩
  .rw[if_neg e,if_neg (λz=>e (h1.trans z))];exact⟨h1,h2,h3⟩
def KT.put(r:KT H kvs xs)(k:List Key)(hb:H b=some (.tup (k.map kV)))(ry:RelV y u):
  KT H (putK kvs k y) (storedH xs k b u):=by
 have e:(kvs.any λkv=>decide (kv.1=k))=(atKey xs k).isSome:=by rw[eA,(r.val k).ZR,a11]
 unfold putK storedH;rw[e];by_cases q:(atKey xs k).isSome=true
 .rw[if_pos q,if_pos q];exact r.Fg k ry
 .rw[if_neg q,if_neg q];exact Paired.snoc r ⟨rfl,hb,ry⟩
def KT.keeps(r:KT H kvs xs)(ht:∀b ys,H b=some (.tup ys)->H' b=some (.tup ys)):KT H' kvs xs:=
 Paired.EV r λ_ _ z=>⟨z.1,ht _ _ z.2.1,z.2.2⟩
def BZ(ok:HOk P w H h)(e:Rd H a u):yM P w H h a u:=e.ok ok
def ZS(ok:HOk P w H h)(e:Rd H a (.dK kvs)):kvs.length<=sizeLine/\(a==sysModules)=false/\∃vs,KV kvs vs/\h.DictOf (yw P w) a vs:=
 show yM P w H h a (.dK kvs)from BZ ok e
def Fh(ok:HOk P w H h)(e:H a=some (.dK kvs)):kvs.length<=sizeLine/\(a==sysModules)=false/\∃vs,KV kvs vs/\h.DictOf (yw P w) a vs:=ZS ok (.inl e)
def Xk(ok:HOk P w H h)(e:H a=some (.tup (ks.map kV))):(tupleKind (yw P w)).is h ks a:=by obtain⟨_,its,r,o,h1,h2,n,h3⟩:=(show yM P w H h a (.tup (ks.map kV))from ok a _ e);exact⟨o,its.toArray,n,h1,h2,h3,by simpa using aG r⟩
def cE(ok:HOk P w H h)(e:Rd H a (.dT kvs)):kvs.length<=sizeLine/\(a==sysModules)=false/\
  ∃xs,KT H kvs xs/\h.DictOfH (tupleKind (yw P w)) a xs:=by
 obtain⟨z,y,xs,r,o,es,ep,h1,h2,h3,h4,h5⟩:=(show yM P w H h a (.dT kvs)from BZ ok e);refine⟨z,y,xs,r,o,es,ep,h1,h2,h3,h4,λx hx=>?_,h5⟩;have all:∀{l:IE}{m:List (List Key×Addr×Value)},KT H l m->∀x∈m,(tupleKind (yw P w)).is h x.1 x.2.1:=by
  intro l m q
  induction q with
  |nil=>intro x hx;exact nomatch hx
  |@cons p q ps qs hq t ih=>
   intro x hx;rcases O0.mp hx with e|hx
   .subst e;exact Xk ok (by rw[<- hq.1];exact hq.2.1)
   .exact ih x hx
 exact all r x hx
def Fi(ok:HOk P w H h)(e:H a=some (.dT kvs)):kvs.length<=sizeLine/\(a==sysModules)=false/\
  ∃xs,KT H kvs xs/\h.DictOfH (tupleKind (yw P w)) a xs:=cE ok (.inl e)
def eB(H:Hp)(a:Addr)(y:V)(r:Option V):Prop:=
 (∃kvs k,Rd H a (.dK kvs)/\y=kV k/\r=Xj kvs k)\/∃kvs k b,Rd H a (.dT kvs)/\y=.ref b/\H b=some (.tup (k.map kV))/\r=Xj kvs k
def Bl(H:Hp)(a:Addr)(y v:V)(H':Hp):Prop:=
 (∃kvs k,H a=some (.dK kvs)/\y=kV k/\kvs.length<sizeLine/\H'=upd H a (.dK (putK kvs k v)))\/
 ∃kvs k b,H a=some (.dT kvs)/\y=.ref b/\H b=some (.tup (k.map kV))/\kvs.length<sizeLine/\H'=upd H a (.dT (putK kvs k v))
def Bl.k{H:Hp}{a:Addr}{kvs:HL}{k:Key}{v:V}(e:H a=some (.dK kvs))(hl:kvs.length<sizeLine):Bl H a (kV k) v (upd H a (.dK (putK kvs k v))):=.inl ⟨kvs,k,e,rfl,hl,rfl⟩
def Inv.big(I:Inv X pins σ H s):sysModules<s.heap.objs.size:=by have h:mainGlobals<s.heap.objs.size:=(I.mod.glob.keeps I.bk).lt;exact a0V (by decide) h
def iQ(hu:A.units+1<cLine)(I:Inv X pins σ H s)(g:eB H a y (some v))(ry:RelV y u)(h:∀w' s',Inv X pins σ H s'->RelV v w'->Q w' s'):
  wpAny (IP X) A (getItem (.ref a) u) Q E s:=by
 rcases g with⟨kvs,k,e,ey,l⟩|⟨kvs,k,b,e,ey,eb,l⟩
 .subst ey;obtain⟨z,hd,vs,rel,dd⟩:=ZS I.hok e;obtain⟨w',hw,rw'⟩:=Xe.some_of (v:=v) (o:=valueAt vs k) (by rw[l];exact rel.val k);exact wpAny_getItem_of (cD ry) dd.mapOf hw (h w' _ (I.tok _) rw')
 .subst ey;cases(show u=Value.ref b from ry);obtain⟨z,hd,xs,rel,dd⟩:=cE I.hok e;obtain⟨w',hw,rw'⟩:=Xe.some_of (v:=v) (o:=(atKey xs k).map (·.2)) (by rw[l];exact rel.val k);obtain⟨p,hp,hp2⟩:=u8.mp hw;refine wpAny_getItem_heap (a0Q hu) (Xk I.hok eb) dd hp ?_;rw[hp2];exact h w' _ (I.tok _) rw'
def G7(hu:A.units+1<cLine)(I:Inv X pins σ H s)(g:eB H a y o)(ry:RelV y u)(h:∀s',Inv X pins σ H s'->Q (.bool o.isSome) s'):
  wpAny (IP X) A (compareOp .In u (.ref a)) Q E s:=by
 rcases g with⟨kvs,k,e,ey,l⟩|⟨kvs,k,b,e,ey,eb,l⟩
 .subst ey;obtain⟨z,hd,vs,rel,dd⟩:=ZS I.hok e;refine wpAny_in_of (cD ry) hd dd.mapOf ?_;rw[<- (rel.val k).ZR,<- l];exact h _ (I.tok _)
 .subst ey;cases(show u=Value.ref b from ry);obtain⟨z,hd,xs,rel,dd⟩:=cE I.hok e;refine wpAny_in_heap (a0Q hu) (Xk I.hok eb) hd dd ?_;have q:=(rel.val k).ZR;rw[a11]at q;rw[<- q,<- l];exact h _ (I.tok _)
def xk(hu:A.units+1<cLine)(I:Inv X pins σ H s)(g:eB H a y o)(ry:RelV y u)(h:∀s',Inv X pins σ H s'->Q (.bool (!o.isSome)) s'):
  wpAny (IP X) A (compareOp .NotIn u (.ref a)) Q E s:=by
 rcases g with⟨kvs,k,e,ey,l⟩|⟨kvs,k,b,e,ey,eb,l⟩
 .subst ey;obtain⟨z,hd,vs,rel,dd⟩:=ZS I.hok e;refine wpAny_notIn_of (cD ry) hd dd.mapOf ?_;rw[<- (rel.val k).ZR,<- l];exact h _ (I.tok _)
 .subst ey;cases(show u=Value.ref b from ry);obtain⟨z,hd,xs,rel,dd⟩:=cE I.hok e;refine wpAny_notIn_heap (a0Q hu) (Xk I.hok eb) hd dd ?_;have q:=(rel.val k).ZR;rw[a11]at q;rw[<- q,<- l];exact h _ (I.tok _)
def iR(I:Inv X pins σ H s)(mu:Mut (H a))(hs:Heap.SameBut a s.heap h')(he:∃q,h'.get? a=some q)(new:yM X.prog X.w (upd H a ob) h' a ob):
  Inv X pins σ (upd H a ob) { s with heap:=h',toks:=t' }:=
 I.write (x:=a) (e:=a) mu (.inl rfl) (λb q hb z=>(hs.2 b hb).trans z) he new
def iS(z:kvs.length<=sizeLine)(hd:(a==sysModules)=false)(rel:KV kvs vs)(dd:h'.DictOf (yw P w) a vs):
  yM P w H' h' a (.dK kvs):=⟨z,hd,vs,rel,dd⟩
def iT(hu:A.units+1<cLine)(I:Inv X pins σ H s)(g:Bl H a y v H')(ry:RelV y u)(rv:RelV v r)(h:∀s',Inv X pins σ H' s'->Q () s'):
  wpAny (IP X) A (setItem (.ref a) u r) Q E s:=by
 rcases g with⟨kvs,k,e,ey,l,eH⟩|⟨kvs,k,b,e,ey,eb,l,eH⟩
 .subst ey eH;obtain⟨z,hd,vs,rel,dd⟩:=Fh I.hok e;have hz:vs.length<=sizeLine:=by rw[<- rel.length];exact z
  have hl:(putK kvs k v).length<=sizeLine:=by have:=VG kvs k v;omega
  refine wpAny_setItem_pairs (hsz:=hz) (cD ry) dd λh' dd' hs=>h _ ?_;have he:∃q,h'.get? a=some q:=let⟨q,_,_,hq,_⟩:=dd';⟨q,hq⟩
  exact iR I (by rw[e];exact True.intro) hs he (iS hl hd (rel.put k rv) dd')
 .subst ey eH;cases(show u=Value.ref b from ry);obtain⟨z,hd,xs,rel,dd⟩:=Fi I.hok e;have hz:xs.length<=sizeLine:=by rw[<- a0k rel];exact z
  have hl:(putK kvs k v).length<=sizeLine:=by have:=VG kvs k v;omega
  refine wpAny_setItem_heap (hsz:=hz) (a0Q hu) (Xk I.hok eb) dd λh' dd' hs=>h _ ?_;obtain⟨q,es,ep,hq,h2,h3,h4,_,h5⟩:=dd';refine iR I (by rw[e];exact True.intro) hs ⟨q,hq⟩ ⟨hl,hd,_,(rel.put k eb rv).keeps λc ys ec=>?_,q,es,ep,hq,h2,h3,h4,h5⟩;rw[zg (EU ec e (λz=>nomatch z))];exact ec
def Fj(I:Inv X pins σ H s)(e:Rd H a (.dK kvs))(h:∀t s',Inv X pins σ H s'->Q (.int kvs.length t) s'):wpAny (IP X) A (call (.builtin "len") [.ref a]) Q E s:=by obtain⟨z,hd,vs,rel,dd⟩:=ZS I.hok e;refine call_len_dict hd dd (by rw[<- rel.length];rw[a0c]at z;omega) ?_;rw[<- rel.length];exact h _ _ (I.tok _)
def cF(I:Inv X pins σ H s)(g:eB H a y o):s.TypeIs (.ref a) "dict":=by
 rcases g with⟨kvs,k,e,_,_⟩|⟨kvs,k,b,e,_,_,_⟩
 .obtain⟨_,_,vs,_,dd⟩:=ZS I.hok e;exact dd.typeIs
 .obtain⟨_,_,xs,_,dd⟩:=cE I.hok e;exact dd.typeIs
def Fm(td ty tv:TE):TS:=λD σ H=>tv σ H λv H1=>td σ H1 λx H2=>ty σ H2 λy H3=>∃a H4,x=.ref a/\Bl H3 a y v H4/\D.nx σ H4
def iU(hu:X.A.units+1<cLine)(ho:PE X o td)(hi:PE X i ty)(hv:PE X value tv)(hs:swapsWith value (some (.Subscript o i pos')) pos.line X.env=pure false):
  PS X (.Assign [.Subscript o i pos'] value pos) (Fm td ty tv):=by
 intro pins s σ H D I h;refine wpAny_Assign_Subscript (thn (hv pins s σ H _ I h) λr s1 ⟨v,H1,I1,rv,q1⟩=>thn (ho pins s1 σ H1 _ I1 q1) λu s2 ⟨x,H2,I2,rx,q2⟩=>thn (hi pins s2 σ H2 _ I2 q2) λiv s3 ⟨y,H3,I3,ry,a,H4,ex,g,q3⟩=>?_) hs;subst ex;obtain rfl:u=Value.ref a:=rx;exact iT hu I3 g ry rv λs4 I4=>⟨σ,H4,I4,q3⟩
def pd(h:Heap)(hb:sysModules<h.objs.size):yM P w H (h.push { cls:=.type "dict",data:=.dict #[] }) h.objs.size (.dK []):=
 ⟨T5 _,a0h.mpr (Ne.symm (N8 hb)),[],.nil,Heap.DictOf.new h⟩
def B3:TE:=λ_ H Q=>∀p,H p=none->Q (.ref p) (upd H p (.dK []))
def pe:PE X (.Dict [] [] pos) B3:=λpins s σ H Q I h=>
 wpAny_Dict_empty ⟨.ref s.heap.objs.size,_,I.laid (a:=s.heap.objs.size) (o:=.dK []) (t':=s.toks) (λ_ _ q=>L6 _ q) (M7 _) (pd s.heap I.big),rfl,h _ (I.hok.fresh (M7 _))⟩
structure M1(X:Cx)(o:HJ)(m:Str)(vq:Pos)(e:HJ)(wA:Pos):Prop where
 base:attributeBase o m X.env (eval o X.env)=eval o X.env
 few:((backTo wA (starEach [e] X.env)).all (λx=>!x.1)&&(backToKw wA (keywordEach [] X.env)).all (λx=>x.1.isSome)
  && decide (([e]:List Expr).length+([]:List Keyword).length+(if([]:List Keyword).isEmpty then 0 else 1)<30))=true
 line:(vq.endLine==wA.line)=true
 trees:backTo wA (starEach [e] X.env)=[(false,eval e X.env)]
structure M2(X:Cx)(o:HJ)(m:Str)(vq:Pos)(e f:HJ)(wA:Pos):Prop where
 base:attributeBase o m X.env (eval o X.env)=eval o X.env
 few:((backTo wA (starEach [e,f] X.env)).all (λx=>!x.1)&&(backToKw wA (keywordEach [] X.env)).all (λx=>x.1.isSome)
  && decide (([e,f]:List Expr).length+([]:List Keyword).length+(if([]:List Keyword).isEmpty then 0 else 1)<30))=true
 line:(vq.endLine==wA.line)=true
 trees:backTo wA (starEach [e,f] X.env)=[(false,eval e X.env),(false,eval f X.env)]
def IsD(H:Hp)(a:Addr):Prop:=(∃kvs,Rd H a (.dK kvs))\/∃kvs,Rd H a (.dT kvs)
def B4(I:Inv X pins σ H s)(d:IsD H a):
  s.TypeIs (.ref a) "dict"/\(∀b,Value.ref a=.ref b->∃ob,s.heap.get? b=some ob/\ob.dict=none)/\(a==sysModules)=false:=by
 rcases d with⟨kvs,e⟩|⟨kvs,e⟩
 .obtain⟨_,hd,vs,_,dd⟩:=ZS I.hok e;refine⟨dd.typeIs,λb q=>?_,hd⟩;cases q;obtain⟨ob,_,_,h1,h2,_⟩:=dd;exact⟨ob,h1,h2.2.1⟩
 .obtain⟨_,hd,xs,_,dd⟩:=cE I.hok e;refine⟨dd.typeIs,λb q=>?_,hd⟩;cases q;obtain⟨ob,_,_,h1,h2,_⟩:=dd;exact⟨ob,h1,h2.2.1⟩
def B5(hu:A.units+1<cLine)(I:Inv X pins σ H s)(g:eB H a y o)(ry:RelV y u)(h:∀w' s',Inv X pins σ H s'->RelV (o.getD .non) w'->Q w' s'):
  wpAny (IP X) A (call (.builtin "dict.get") [.ref a,u]) Q E s:=by
 rcases g with⟨kvs,k,e,ey,l⟩|⟨kvs,k,b,e,ey,eb,l⟩
 .subst ey;obtain⟨z,hd,vs,rel,dd⟩:=ZS I.hok e;refine call_meetsIn a1v dd.typeIs a2A (a2s _ _) (meets_dict_get (yw X.prog X.w) a (cD ry) hd) ⟨_,dd.mapOf,h _ _ (I.tok _) ?_⟩;rw[l];exact(rel.val k).getD rfl
 .subst ey;cases(show u=Value.ref b from ry);obtain⟨z,hd,xs,rel,dd⟩:=cE I.hok e;refine call_meetsIn a1v dd.typeIs a2A (a2s _ _) (meetsH_dict_get (tupleKind (yw X.prog X.w)) a b hd) ⟨a0Q hu,k,xs,Xk I.hok eb,dd,h _ _ (I.tok _) ?_⟩;rw[l];exact(rel.val k).getD rfl
def B6(td ty:TE):TE:=λσ H Q=>td σ H λx H1=>∃a,x=.ref a/\IsD H1 a/\ty σ H1 λy H2=>∃o,eB H2 a y o/\Q (o.getD .non) H2
def pf(hu:X.A.units+1<cLine)(ho:PE X o td)(he:PE X e ty)(m:M1 X o "get" vq e wA):PE X (.Call (.Attribute o "get" vq) [e] [] wA) (B6 td ty):=by intro pins s σ H Q I h;refine wpAny_Call_method m.base m.few m.line PySem.F.plainAttrs_dict a1v PySem.F.type_dict_get (thn (ho pins s σ H _ I h) λu s1 ⟨x,H1,I1,rx,a,ex,d,q1⟩=>?_);subst ex;obtain rfl:u=Value.ref a:=rx;obtain⟨t1,t2,_⟩:=B4 I1 d;refine⟨t1,t2,?_⟩;rw[m.trees];refine a1k rfl (a2L (a2Z (thn (he pins s1 σ H1 _ I1 q1) λiv s2 ⟨y,H2,I2,ry,ov,g,q2⟩=>Calls.spliced_nil ?_)));exact B5 hu I2 g ry λw' s3 I3 rw'=>⟨_,H2,I3,rw',q2⟩
def ph(I:Inv X pins σ H s)(e:Rd H a (.dK kvs))(h:∀p s',H p=none->Inv X pins σ (upd H p (.dK kvs)) s'->Q (.ref p) s'):wpAny (IP X) A (call (.type "dict") [.ref a]) Q E s:=by obtain⟨z,hd,vs,rel,dd⟩:=ZS I.hok e;refine kt_call_dict hd dd (by rw[<- rel.length];exact z) λh' dd' hs=>?_;refine h _ _ (I.hok.fresh (M7 _)) (I.laid (a:=s.heap.objs.size) (o:=.dK kvs) (t':=s.toks) (λb q hq=>?_) (M7 _) (iS z (a0h.mpr (Ne.symm (N8 I.big))) rel dd'));exact(hs.2 b (N8 (M9 hq))).trans (L6 _ hq)
section
variable {X:Cx}{pins:Hu}{σ:St}{H:Hp}{s:Hy}{a:Addr}{y:V}{u:Value}{A:Ia}{E:Hw}
end
end L2
namespace Att
open PySem PySem.W PySem.Calls PyProof.Rows
def VH:∀(ns:HY)(vs:HB),WellAll P h vs (ns.map WData.int)->IntsAre vs ns:=by
 intro ns
 induction ns with
 |nil=>intro vs w;rw[a2d]at w;cases w;exact .nil
 |cons n ns ih=>
  intro vs w;rw[O7]at w;cases w with
  |cons a b=>cases a;exact .cons _ _ (ih _ b)
def iV{l:OpenLaw}{n:Nat}(hn:l.most=some n){P:Params}{h:Heap}{args:List WData}{vals:HB}
  (hpre:l.row.toRowW.claim.pre args=true) (hwl:WellAll P h vals args):
  ∃a vs ns,vals=[Value.ref a]/\args=[WData.list (ns.map WData.int)]/\h.get? a=some { cls:=.type "list",data:=.seq vs.toArray }/\IntsAre vs ns/\ns.length<=n:=by
 have hsh:WShape.hasAll [] args [.list .int]=true:=(pre_splitW hpre).1;have hc:l.pre.holds [] { args:=args }=true:=(pre_splitW hpre).2;obtain⟨d,r,rfl,h1,h2⟩:=hasAllW_cons hsh;obtain rfl:=hasAllW_nil h2;obtain⟨xs,rfl,h3⟩:=hasW_list h1;obtain⟨ns,rfl⟩:=items_int h3;have hlen:ns.length<=n:=by
  unfold OpenLaw.pre at hc;have h4:(WTm.not (.lt (.lit (.int (n:Int))) (.len (.arg 0)))).holds [] { args:=[.list (ns.map .int)] }=true:=by have h4:=(holds_andW hc).1;rw[hn]at h4;exact h4
  have h5:=condW_of h4 (w_not (w_lt w_lit (w_len_list (w_arg rfl))));rw[v0]at h5;refine Nat.le_of_not_lt λq=>?_;have q':(n:Int)<((ns.length:Nat):Int):=by omega
  first
   | (rw[L8 q']at h5;exact absurd h5 (by decide))
   | (simp at h5;omega)
 cases hwl with
 |cons w1 w2=>
  cases w2;cases w1 with
  |list ho hall=>exact⟨_,_,ns,rfl,rfl,ho,VH ns _ hall,hlen⟩
def iW(l:OpenLaw)(args:List WData):l.row.toRowW.claim.post args (.bool true) args=true:=
 postW_of (r:=l.row.toRowW) (X:=(true==true))
  (show WShape.has [] (.bool true) .bool=true by first|rfl|decide|simp[WShape.has,WShape.arms,WShape.armsAll])
  (show(WTm.eq .res (.lit (.bool true))).value [] { args:=args,res:=some (.bool true),after:=args }=some (.bool (true==true))from w_eq_bool (w_res rfl) w_lit) rfl
def cG{l:OpenLaw}{n:Nat}{q:HQ}{loose:Hx}{XP:(Str->Option Value)->Heap->Prop}{YP:World->Heap->Prop}{d:DefRec}
  (hn:l.most=some n) (hdf:d.params.defaults=[])
  (call:∀(w:H_)(s₀ s₁:Hy)(mg mb:Hv)(fa:Addr)(o:Obj)(pm cd doc:Value)(a:Addr) (vs:HB) (ns:HY),
   Ground q loose [] XP w s₀ mg mb s₁.heap->YP w s₁.heap->
   s₁.heap.get? fa=some o->o.data=.func (docDef d.name d.params d.body d.scope pm cd doc)->s₁.heap.CodeRec cd d.name->mg d.name=some (.ref fa)->
   s₁.heap.get? a=some { cls:=.type "list",data:=.seq vs.toArray }->IntsAre vs ns->ns.length<=n->s₁.gens = #[]->
   codeAny (model l.prog w) callerA (.call (.ref fa) ⟨[.ref a],[]⟩) (λr s'=>r=.ok (.ret (.bool true))/\OldK s₁.heap s'.heap/\s'.os=s₁.os/\AllBare s'.gens) s₁):
  WalkO q loose XP YP l.row.toRowW d [] (λf vs=>PySem.call f vs):=by
 intro w s₀ s₁ mg mb G Y fa o pm cd doc dV kV ho hd hcd hD hmg hg args vals as hpre hlay hrd hwl hlo;obtain rfl:dV=.none:=Dflts.none hD hdf;obtain rfl:kV=.none:=Dflts.noKw hD;obtain⟨a,vs,ns,rfl,rfl,hobj,hints,hlen⟩:=iV hn hpre hwl;refine enter_call (a0K (call w s₀ s₁ mg mb fa o pm cd doc a vs ns G Y ho (fd_plain hd) hcd hmg hobj hints hlen hg) λr s' hq=>?_);obtain⟨rfl,h2,h3,h4⟩:=hq;exact⟨.inl ⟨.bool true,.bool true,[],rfl,λ_=>rfl,.bool true,iW l _,λ_=>⟨List.Pairwise.nil,λ_ hm=>(nomatch hm)⟩⟩,h2,h3,h4⟩
section
variable {prog:HQ}{w:H_}{A:Ia}{E:Hw}{s:Hy}{K:Ih}
end
end Att
namespace L2
open PySem PySem.Spec PyProof.Rows
def aH:∀{vs:HB}{ns:HY},IntsAre vs ns->Vals (ns.map V.int) vs
 |_,_,.nil=>.nil
 |_,_,.cons n t h=>.cons ⟨t,rfl⟩ (aH h)
def inClass(s:Ir)(j:Nat):Stmt:=match s with
 |.ClassDef _ _ _ body _ _ _ _ _ _ _=>body.getD j (.Pass ⟨0,0,0,0⟩)
 |_=>.Pass ⟨0,0,0,0⟩
def VI(s:Ir):Arguments:=match s with
 |.FunctionDef _ a _ _ _ _ _ _ _ _=>a
 |_=>{ posonlyargs:=[],args:=[],vararg:=none,kwonlyargs:=[],kw_defaults:=[],kwarg:=none,defaults:=[] }
def kB(s:Ir):List Stmt:=match s with
 |.FunctionDef _ _ b _ _ _ _ _ _ _=>b
 |_=>[]
def zj(s:Ir):Scope:=match s with
 |.FunctionDef _ _ _ _ _ _ sc _ _ _=>sc
 |_=>{ kind:=.function,names:=[],isGenerator:=false,isCoroutine:=false }
abbrev E0:XK:=λ_ _ _=>False
structure Fun(K:HN)(x qual:Str)(st:Ir)(f:Addr)(fd:Ib):Prop where
 ex:∃(oc:Value)(od:Iq)(kV doc pm:Value)(an:Iq)(cdv ct:Value)(osl:Ie),
  fd=PySem.W.fnOf x qual (VI st) (kB st) (zj st) .none kV doc pm an cdv ct/\K.lookup f=some ⟨oc,od,.func fd,osl⟩/\PySem.W.codeIn K cdv qual=true
 kp:PySem.W.keepIn K (.ref f)=true
section
variable {P:HQ}{w:H_}{K:HN}{mg:Hv}{base:Heap}
def Fun.binds{x qual:Str}{st:Ir}{f:Addr}{fd:Ib}{ps:Hx}(F:Fun K x qual st f fd)
  (h:∀(kV doc pm:Value)(an:Iq)(cdv ct:Value)(us:HB),us.length=ps.length->bindArgs (PySem.W.fnOf x qual (VI st) (kB st) (zj st) .none kV doc pm an cdv ct) ⟨us,[]⟩=pure (ps.zip us)):Binds K fd ps []:=by
 obtain⟨oc,od,kV,doc,pm,an,cdv,ct,osl,rfl,lk,hcd⟩:=F.ex;exact .all (h kV doc pm an cdv ct)
def tK{x qual:Str}{st:Ir}{f:Addr}{oc:Value}{od an:Iq}{osl:Ie}{kV doc pm cdv ct:Value}(l:K.lookup f=some ⟨oc,od,.func (PySem.W.fnOf x qual (VI st) (kB st) (zj st) .none kV doc pm an cdv ct),osl⟩)
  (c:PySem.W.codeIn K cdv qual=true) (k:PySem.W.keepIn K (.ref f)=true):Fun K x qual st f (PySem.W.fnOf x qual (VI st) (kB st) (zj st) .none kV doc pm an cdv ct):=⟨⟨oc,od,kV,doc,pm,an,cdv,ct,osl,rfl,l,c⟩,k⟩
end
def ZT(hr:jO k A):A.units+1<cLine:=a0i (a2T (by decide:1<=64) _) hr.units
def pv(i:Nat)(hN:X.N[i]?=some x:=by rfl)(hv:Vis X.env.scope x:=by first|exact Or.inl rfl|exact Or.inr (Or.inl rfl)|exact Or.inr (Or.inr rfl))(hd:(x==("__debug__":Str))=false:=by decide)
  (hcd:(x==("__classdict__":Str))=false:=by decide):PE X (.Name x pos) (XZ i):=BA hN hv hd hcd
def B7{A B:Prop}(h:B):if false=true then A else B:=by rw[if_neg M6];exact h
def B8{A B:Prop}(h:A):if true=true then A else B:=by rw[if_pos rfl];exact h
def zy(H H':Hp):Prop:=∀b o,H b=some o->H' b=some o
def zy.refl(H:Hp):zy H H:=λ_ _ h=>h
def zy.trans(a:zy H H1)(b:zy H1 H2):zy H H2:=λc o h=>b c o (a c o h)
section
variable {κ:Type}[DecidableEq κ]
end
end L2
set_option maxHeartbeats 4000000
namespace L2
open PySem PySem.Spec PyProof.Rows PySem.W
def j4:List Value:=[.type "ValueError",.type "Exception",.type "BaseException",.type "object"]
def aI:List Value->List Value
 |.ref _::r=>aI r
 |l=>l
structure QV(K:Ih)(C:Addr):Prop where
 over:(clsIn K C).any (λcd=>aI cd.mro==j4 && !cd.mro.isEmpty&&cd.hasDict)=true
 sa:findIn K (.ref C) "__setattr__"=some (some (.builtin "object.__setattr__"))
 ga:findIn K (.ref C) "__getattribute__"=some (some (.builtin "BaseException.__getattribute__"))
 gn:findIn K (.ref C) "__getattr__"=some none
 ty:typeIn K (.ref C)=some (.type "type")
def Kh(self:Value):∀l:List Value,aI l=j4->refuseLoop self "__setattr__" l=pure ()
 |[],e=>by cases e
 |.ref c::r,e=>by rw[refuseLoop_ref];exact Kh self r e
 |.type n::r,e=>by rw[show Value.type n::r=j4 from e];exact PySem.F.store_ValueError.passes self
 |.none::r,e=>by cases e
 |.bool _::r,e=>by cases e
 |.int _ _::r,e=>by cases e
 |.str _ _::r,e=>by cases e
 |.bytes _ _::r,e=>by cases e
 |.float _ _::r,e=>by cases e
 |.builtin _::r,e=>by cases e
 |.ellipsis::r,e=>by cases e
 |.notImplemented::r,e=>by cases e
def aJ{x:String}(hx:j4.contains (.type x)=true):∀l:List Value,aI l=j4->l.contains (.type x)=true
 |[],e=>by cases e
 |.ref c::r,e=>by rw[List.contains_cons,aJ hx r e,a2e]
 |.type n::r,e=>by rw[show Value.type n::r=j4 from e];exact hx
 |.none::r,e=>by cases e
 |.bool _::r,e=>by cases e
 |.int _ _::r,e=>by cases e
 |.str _ _::r,e=>by cases e
 |.bytes _ _::r,e=>by cases e
 |.float _ _::r,e=>by cases e
 |.builtin _::r,e=>by cases e
 |.ellipsis::r,e=>by cases e
 |.notImplemented::r,e=>by cases e
def QV.cd{K:Ih}{C:Addr}(c:QV K C):∃cd,clsIn K C=some cd/\aI cd.mro=j4/\cd.mro.isEmpty=false/\cd.hasDict=true:=by obtain⟨cd,hc,h⟩:=any_some c.over;simp only[Bool.and_eq_true,beq_iff_eq,Bool.not_eq_true']at h;exact⟨cd,hc,h.1.1,h.1.2,h.2⟩
def QV.sub{K:Ih}{C:Addr}(c:QV K C){x:String}(hx:j4.contains (.type x)=true):mroIn K C (.type x)=some true:=by obtain⟨cd,hc,h1,h2,_⟩:=c.cd;unfold mroIn;rw[hc,Option.bind_some,if_neg (by rw[h2];decide),aJ hx _ h1]
def yK(C:Addr)(od:Iq)(t:Addr)(T:Value)(sl:Ie):Obj:=⟨.ref C,od,.fields #[.ref t,T,.none,.none,.bool false,.none],sl⟩
section
variable {prog:HQ}{w:H_}{A:Ia}{E:Hw}{s:Hy}{K:Ih}{x dx C t:Addr}{T:Value}{sl:Ie}{mA:Hv}{name:Str}{v:Value}{R:Result->Shared->Prop}
def eC(X:K.In s.heap)(c:QV K C)(I:InstAt s.heap x (yK C od t T sl) C oo)(ht:takerIn K C name=some none)
  (h:∀b,wpAny (model prog w) A.in1 (Builtin.ObjectAttr.storeInOwnDict (.ref x) (.ref C) (.str name tk) name v b)
   (λfin s'=>match fin with | .done f=>R (.ok f) s' | .again c'=>c'.quiet=true/\codeAny (model prog w) A c' R s') (λe s'=>R (.error e) s') s):
  codeAny (model prog w) A (.call (.builtin "object.__setattr__") ⟨[.ref x,.str name tk,v],[]⟩) R s:=by
 have SF:=PySem.F.store_object;obtain⟨cd,hc,ho,ne,_⟩:=c.cd;have sub:Looks (model prog w) s.heap (isInstance (.ref x) (.type "object")) true:=I.type.andThen (a1O X (c.sub (x:="object") (by decide)));refine a0Y SF.slot.plain SF.entry (@check_slot (model prog w) _ _ s "object.__setattr__" "object" "__setattr__" (.ref x) [.str name tk,v] [] _ SF.kind SF.split sub (SF.args (.ref x) (.str name tk) v) ?_);obtain⟨attr,ha,hr⟩:=O4.mp ht;have hm:Looks (model prog w) s.heap (mroOf (.ref C)) cd.mro:=(a28 X hc).andThen .now;have L3:Looks (model prog w) s.heap (Builtin.ObjectAttr.storeTaker? attr) none:=by
  cases attr with
  |none=>exact .now
  |some a=>
   obtain⟨b,hb,e⟩:=u8.mp hr;refine(looks_takesIn X hb).andThen ?_;cases b with
   |true=>cases e
   |false=>exact .now
 rw[osa_eq,refuse_eq];refine f8 (f8 (I.type.here (f8 (hm.here ?_))));rw[Kh _ _ ho];refine M8 (f8 (I.type.here (f8 ((a1a X ha).here (f8 (L3.here ?_))))));exact h _
def gq(X:K.In s.heap)(c:QV K C)(hx:s.heap.get? x=some (yK C none t T sl))(ht:takerIn K C name=some none)
  (h:∀h',h'.get? x=some (yK C (some s.heap.objs.size) t T sl)->h'.Ns1 s.heap.objs.size (λy=>if y=name then some v else none)->
   (∀b o,b≠x->s.heap.get? b=some o->h'.get? b=some o)->Q () { s with heap:=h',toks:=s.toks+2 }):
  wpAny (model prog w) A (setAttr (.ref x) name v) Q E s:=by
 have I:InstAt s.heap x (yK C none t T sl) C none:=⟨hx,rfl,rfl,trivial⟩;refine set_plain X I c.sa (eC (s:={ s with toks:=s.toks+1 }) X c I ht λb=>?_);obtain⟨cd,hc,_,_,hd⟩:=c.cd;have hxs:x≠s.heap.objs.size:=N8 (M9 hx);have hx1:(s.heap.push emptyDict).get? x=some (yK C none t T sl):=L6 _ hx;refine f8 (M8 (f8 (f8 (a1d hx (f8 (Looks.here (s:={ s with toks:=s.toks+1 }) (a28 X hc) ?_))))));rw[hd];refine f8 (wpAny_alloc' (f8 (wpAny_update' hx1 (M8 ?_))));have hgx:((s.heap.push emptyDict).update x λo=>{ o with dict:=some s.heap.objs.size }).get? x=some (yK C (some s.heap.objs.size) t T sl):=T8 _ hx1 rfl;have hgd:((s.heap.push emptyDict).update x λo=>{ o with dict:=some s.heap.objs.size }).get? s.heap.objs.size=some emptyDict:=(a1J _ _ _ _ hxs.symm).trans (Heap.get?_push_at rfl rfl);have hnd:((s.heap.push emptyDict).update x λo=>{ o with dict:=some s.heap.objs.size }).Ns s.heap.objs.size (λ_=>none):=⟨_,#[],_,hgd,rfl,λe he=>absurd he (by simp),λ_=>rfl⟩;refine f8 (M8 (f8 ?_));refine wpAny_nsSet1 (s:={ s with heap:=(s.heap.push emptyDict).update x λo=>{ o with dict:=some s.heap.objs.size },toks:=s.toks+1 }) (Heap.Ns1.of_empty hnd) λh' hn' hs=>?_;obtain⟨oD,esD,epD,hoD,hdD,hcD⟩:=hn'.count (PySem.Within.cons name v PySem.Within.nil);refine f8 (wpAny_lookBehind hoD (by rw[hdD];exact pastItsLine_dict (O8 hcD (by rw[v4,a1B,a0c];omega))) ?_);refine M8 (h _ ((hs.2 _ hxs).trans hgx) hn' λb o hb e=>?_);exact(hs.2 _ (N8 (M9 e))).trans ((a1J _ _ _ _ hb).trans (L6 _ e))
def iX(X:K.In s.heap)(c:QV K C)(hx:s.heap.get? x=some (yK C (some dx) t T sl))(hn:s.heap.Ns1 dx mA)(hne:dx≠x)(ht:takerIn K C name=some none)
  (hw:PySem.Within mA ns) (hsz:ns.length<=sizeLine)
  (h:∀h',h'.Ns1 dx (λy=>if y=name then some v else mA y)->Heap.SameBut dx s.heap h'->Q () { s with heap:=h',toks:=s.toks+2 }):
  wpAny (model prog w) A (setAttr (.ref x) name v) Q E s:=by
 obtain⟨od,hod,_⟩:=QT hn;have I:InstAt s.heap x (yK C (some dx) t T sl) C (some od):=⟨hx,rfl,rfl,hod⟩;refine set_plain X I c.sa (eC (s:={ s with toks:=s.toks+1 }) X c I ht λb=>?_);obtain⟨cd,hc,_,_,hd⟩:=c.cd;refine f8 (M8 (f8 (f8 (a1d hx (f8 (Looks.here (s:={ s with toks:=s.toks+1 }) (a28 X hc) ?_))))));rw[hd];refine M8 (a:=some dx) (f8 (M8 (f8 ?_)));refine wpAny_nsSet1 (s:={ s with toks:=s.toks+1 }) hn λh' hn2 hs2=>?_;obtain⟨oD,esD,epD,hoD,hdD,hcD⟩:=hn2.count (PySem.Within.cons name v hw);refine f8 (wpAny_lookBehind hoD (by rw[hdD];exact pastItsLine_dict (O8 hcD (by rw[v4];omega))) ?_);exact M8 (h _ hn2 hs2)
def G8(X:K.In s.heap)(c:QV K C)(hx:s.heap.get? x=some (yK C (some dx) t T sl))(hn:s.heap.Ns1 dx mA)(ha:findIn K (.ref C) name=some none)
  (hv:mA name=some v) (hh:handedIn v=true) (h:Q v { s with toks:=s.toks+1 }):wpAny (model prog w) A (getAttr (.ref x) name expr) Q E s:=by
 obtain⟨od,hod,hl⟩:=QT hn;have I:InstAt s.heap x (yK C (some dx) t T sl) C (some od):=⟨hx,rfl,rfl,hod⟩;obtain⟨cd,hc,ho,ne,hdct⟩:=c.cd;obtain⟨hp,g,d,tk,os⟩:=s;have L0:=I.type (M:=model prog w);have L1:=a1a (M:=model prog w) X c.ga;have L2:=a1a (M:=model prog w) X c.gn;have Lb:Looks (model prog w) hp (isInstance (.ref x) (.type "BaseException")) true:=L0.andThen (a1O X (c.sub (x:="BaseException") (by decide)));have L3:=looks_find (M:=model prog w) X I (findObj_own (by unfold hasDictIn;rw[hc];exact hdct) ha rfl (by rw[hl,hv]));have ga:=PySem.F.excAttr_ValueError.ga;have f3:=ga.bind (.ref x);unfold getAttr getAttrBy;refine f8 (a2f (T2 (f8 (L0.at (f8 (L1.at ?_))))));dsimp only;rw[show(onTheHeap (Value.ref C)&&Value.builtin "BaseException.__getattribute__"==Value.builtin "object.__getattribute__")=false from by
  rw[show(Value.builtin "BaseException.__getattribute__"==Value.builtin "object.__getattribute__")=false from by decide +kernel];rfl]
 show wpAny _ _ (getAttrByItsOwn _ _ _ _ _ _) _ _ _;unfold getAttrByItsOwn;refine f8 (show wpAny _ _ (typeLookup (.ref C) "__getattr__") _ _ _ from L2.at ?_);unfold callGetattribute boundAndCalled;rw[show(expr&&onTheHeap (Value.builtin "BaseException.__getattribute__"))=false from by cases expr<;>rfl];refine f8 (a02 (T2 ?_));show wpAny _ _ (bindSpecial _ _ >>= _) _ _ _;rw[f3];refine f8 (M8 (a0G (a0Y ga.plain F.entry_bexc_ga ?_)));have hk:builtinKind "BaseException.__getattribute__"=some .slot:=by decide +kernel
 have hs:splitId "BaseException.__getattribute__"=some ("BaseException","__getattribute__"):=by decide +kernel
 refine @check_slot (model prog w) _ _ ⟨hp,g,d,tk+1,os⟩ "BaseException.__getattribute__" "BaseException" "__getattribute__" (.ref x) [.str name tk] [] _ hk hs Lb (F.args_bexc_ga (.ref x) (.str name tk)) ?_;unfold Builtin.«object.__getattribute__»
 repeat lk
 show wpAny _ _ (handedOut v) _ _ _;rw[handedOut_of hh];exact M8 h
end
def strKeys(es:Array DictEntry):Bool:=es.toList.all λe=>match e.key with | .str _ _=>true|_=>false
def aL(K:Ih):List Value->Bool
 |.ref a::r=>(match K.lookup a with
   |some ⟨_,_,.cls cd,_⟩=>(match K.lookup cd.ns with
     |some ⟨_,_,.dict es _,_⟩=>strKeys es&&(es.toList.all λe=>!e.key.isStr "__init__")
     |_=>false)
   |_=>false)&&aL K r
 |l=>l==j4
def gr{h:Heap}{N:Addr}{c:Value}{dd:Iq}{es:Array DictEntry}{ep:Nat}{sl:Ie}(e:h.get? N=some ⟨c,dd,.dict es ep,sl⟩)(k:strKeys es=true)
  (hi:(es.toList.all λe=>!e.key.isStr "__init__")=true):∃m,h.Ns N m/\m "__init__"=none:=by
 refine⟨λn=>nsFind es n,⟨_,es,ep,e,rfl,λx hx=>?_,λ_=>rfl⟩,?_⟩
 .have q:=a0j.mp k x (a2J.mpr hx);split at q
  .rename_i n t hk;exact⟨n,t,hk⟩
  .cases q
 .show nsFind es "__init__"=none;unfold nsFind findBy;rw[<- a2Y,List.find?_eq_none.mpr λx hx=>by simpa using a0j.mp hi x hx];rfl
def iY{K:Ih}{h:Heap}(X:K.In h):∀l:List Value,aL K l=true->OwnTail h j4 l
 |.ref a::r,e=>by
  unfold aL at e;obtain⟨e1,e2⟩:=a2M.mp e;split at e1
  .rename_i c dd cd sl hl;split at e1
   .rename_i c2 dd2 es ep sl2 hl2;obtain⟨k1,k2⟩:=a2M.mp e1;obtain⟨m,hm,hm0⟩:=gr (X _ _ hl2) k1 k2;exact .own (X _ _ hl) hm hm0 (iY X r e2)
   .cases e1
  .cases e1
 |[],e=>by cases e
 |.type n::r,e=>by rw[show Value.type n::r=j4 from R9.mp e];exact .base
 |.none::r,e=>by rw[show Value.none::r=j4 from R9.mp e];exact .base
 |.bool _::r,e=>by rw[R9.mp e];exact .base
 |.int _ _::r,e=>by rw[R9.mp e];exact .base
 |.str _ _::r,e=>by rw[R9.mp e];exact .base
 |.bytes _ _::r,e=>by rw[R9.mp e];exact .base
 |.float _ _::r,e=>by rw[R9.mp e];exact .base
 |.builtin _::r,e=>by rw[R9.mp e];exact .base
 |.ellipsis::r,e=>by rw[R9.mp e];exact .base
 |.notImplemented::r,e=>by rw[R9.mp e];exact .base
structure XMk(K:Ih)(C f:Addr):Prop where
 cls:∃nm q N bs bm sn sub ab col dd k0 k1 k2 k3 k5,K.lookup C=some (excClassObj nm q C N bs bm true sn sub ab col dd k0 k1 k2 k3 k5 "ValueError.__new__")/\aL K bm=true
 init:findIn K (.ref C) "__init__"=some (some (.ref f))
 fn:typeIn K (.ref f)=some (.type "function")
 kp:keepIn K (.ref C)=true
section
variable {prog:HQ}{w:H_}{A:Ia}{E:Hw}{K:Ih}{C f:Addr}{h:Heap}{g:Array GenState}{d:Drawn}{t:Nat}{os:OsState}
def tL(rest:HB):Obj:={ cls:=.type "tuple",data:=.seq rest.toArray }
def Fn{rest:HB}{Q:Hw}(M:XMk K C f)(X:K.In h)(hrest:rest.length<=sizeLine)
  (hq:codeAny (model prog w) (A.under (.builtin "type.__call__" ⟨.ref C::rest,[]⟩)) (.call (.ref f) ⟨.ref (h.objs.size+1)::rest,[]⟩) (λr s'=>match r with | .ok (.ret v)=>v=.none/\Q (.ref (h.objs.size+1)) s' | .ok _=>False | .error e=>E e s')
   ⟨(h.push (tL rest)).push (yK C none h.objs.size .none #[]),g,d,t,os⟩):
  wpAny (model prog w) A (call (.ref C) rest) Q E ⟨h,g,d,t,os⟩:=by
 obtain⟨nm,q,N,bs,bm,sn,sub,ab,col,dd,k0,k1,k2,k3,k5,hK,hT⟩:=M.cls;have hC:=X _ _ hK;have T:=iY X _ hT;have F:=PySem.F.excBase_ValueError;have f1:=tc_lookup;have f2:=tc_bind (.ref C);have hTy:(⟨h,g,d,t,os⟩:Shared).TypeIs (.ref C) "type":=⟨_,hC,rfl⟩;refine a0G (codeAny_of_tree ?_);show wpAny _ _ (callAny (.ref C) _) _ _ _
 repeat(any_goals(first|assumption|with_reducible refine wpAny_loadPart_at hC ?_|wp_step))
 refine And.intro rfl (codeAny_call_builtin_at (a22 _ (by decide +kernel)) entry_typeCall (wpAny_check_type_call_sub hC ?_))
 repeat(first|with_reducible refine wpAny_loadPart_at hC ?_|with_reducible refine wpAny_madeBy_exc hC ?_|wp_step)
 refine codeAny_call_builtin_code (a22 _ F.quiet) (wpAny_check_new_subT F T hC (codeAny_exc_new_subT F T hC ?_ hrest));show wpAny _ _ _ _ _ ⟨(h.push (tL rest)).push (yK C none h.objs.size .none #[]),g,d,t,os⟩;have kp:∀b o,h.get? b=some o->((h.push (tL rest)).push (yK C none h.objs.size .none #[])).get? b=some o:=λb o e=>L6 _ (L6 _ e);have hx:((h.push (tL rest)).push (yK C none h.objs.size .none #[])).get? (h.objs.size+1)=some (yK C none h.objs.size .none #[]):=by heap_get
 have X1:K.In ((h.push (tL rest)).push (yK C none h.objs.size .none #[])):=X.keeps kp;have t1:Looks (model prog w) ((h.push (tL rest)).push (yK C none h.objs.size .none #[])) (typeOf (.ref (h.objs.size+1))) (.ref C):=(Looks.ld hx).andThen .now;have s1:Looks (model prog w) ((h.push (tL rest)).push (yK C none h.objs.size .none #[])) (isSubtype (.ref C) (.ref C)) true:=a1O X1 (by
  unfold mroIn clsIn;rw[hK];simp)
 have i1:=a1a (M:=model prog w) X1 M.init;have b1:=bind_fn (M:=model prog w) X1 (.ref (h.objs.size+1)) M.fn;unfold isInstance callSpecial? specialOf
 repeat(first|with_reducible refine a0G ?_|lk)
 refine a0K hq λr s' z=>?_;rcases r with e|(v|_|_|_)<;>first|exact z|exact z.elim|skip
 obtain⟨rfl,z⟩:=z;exact M8 (M8 z)
end
def XO(e C:Addr)(od:Iq)(T:Value):HO:=.ext λh=>∃t sl,h.get? e=some (yK C od t T sl)
def XD(dx:Addr)(fs:Ip):HO:=.ext λh=>∃mA,h.Ns1 dx mA/\(∀f,Xe (fs.lookup f) (mA f))/\PySem.Within mA (fs.map (·.1))/\fs.length<=1000
def XO.ok(x:h.get? e=some (yK C od t T sl)):yM P w H h e (XO e C od T):=
 ⟨⟨t,sl,x⟩,⟨_,x⟩,λ_ _ ⟨t',sl',p⟩ k=>⟨t',sl',k _ p⟩⟩
def XO.get(x:yM P w H h e (XO e C od T)):∃t sl,h.get? e=some (yK C od t T sl):=x.1
def XD.ok(n:h.Ns1 dx mA)(r:∀f,Xe (fs.lookup f) (mA f))(wi:PySem.Within mA (fs.map (·.1)))(l:fs.length<=1000):yM P w H h dx (XD dx fs):=by refine⟨⟨mA,n,r,wi,l⟩,?_,λh1 h2 ⟨m,⟨o,es,ep,ho,q⟩,r1⟩ k=>⟨m,⟨o,es,ep,k _ ho,q⟩,r1⟩⟩;obtain⟨o,es,ep,ho,_⟩:=n;exact⟨o,ho⟩
def XD.get(x:yM P w H h dx (XD dx fs)):∃mA,h.Ns1 dx mA/\(∀f,Xe (fs.lookup f) (mA f))/\PySem.Within mA (fs.map (·.1))/\fs.length<=1000:=x.1
def Inv.xl(I:Inv X pins σ H s)(he:H e=some (XO e C od T))(ch:Iu)(hch:∀b∈ch,X.s₀.heap.objs.size<=b/\H b=none/\b≠X.env.locals/\(∀x c,X.env.cells.lookup x=some c->c≠b)/\∀p∈X.pn++pins,p.1≠b)
  (keep:∀b o,b≠e->b∉ch->b∉frs X.stack->s.heap.get? b=some o->h'.get? b=some o)
  (slot:∀b o,b∈frs X.stack->s.heap.get? b=some o->∃sl,h'.get? b=some { o with slots:=sl })
  (hx:∃t sl,h'.get? e=some (yK C od t T' sl)):Inv X pins σ (upd H e (XO e C od T')) { s with heap:=h' }:=by
 have ne:∀b,H b=none->b≠e:=λb n z=>by rw[z,he]at n;cases n
 have nf:∀b o,H b=some o->b∉frs X.stack:=λb o q z=>by rw[I.XY b z]at q;cases q
 have nc:∀b o,H b=some o->b∉ch:=λb o q z=>by rw[(hch b z).2.1]at q;cases q
 obtain⟨t',sl',hx'⟩:=hx;have any:∀b o,b∉ch->b≠e->s.heap.get? b=some o->∃sl,h'.get? b=some { o with slots:=sl }:=λb o hb hne q=>by
  by_cases hf:b∈frs X.stack
  .exact slot b o hf q
  .exact⟨o.slots,keep b o hne hb hf q⟩
 refine I.step (g':=s.gens) (d':=s.drawn) (t':=s.toks) (ch:=ch) (λb hb=>⟨.inr (hch b hb).1,(hch b hb).2.2⟩) (λb o hL hb hc q n=>keep b o (ne b n) hc (λz=>?_) q) (λb o _ _ hc q n=>any b o hc (ne b n) q)
  (λb o _ _ n=>by rw[zg (ne b n)];exact n) (λb o hc q=>?_) (λb xs q=>?_) (λb o u q=>?_) (λb ps q=>⟨#[],?_⟩) (λm hm=>?_) (λb u q=>?_) I.bare
 .rcases O0.mp (I.Xf b z)with z|z
  .exact hL z
  .exact hb z
 .by_cases hbe:b=e
  .exact⟨_,hbe▸hx'⟩
  .obtain⟨sl,q'⟩:=any b o hc hbe q;exact⟨_,q'⟩
 .have:b≠e:=λz=>by rw[z,he]at q;cases q
  rw[zg this];exact q
 .have:b≠e:=λz=>by rw[z,he]at q;cases q
  rw[zg this];exact q
 .have:b≠e:=λz=>by rw[z,he]at q;cases q
  rw[zg this,q];simp
 .obtain⟨o,es,ep,ho,r⟩:=hm;have hL:H X.env.locals=none:=I.free;obtain⟨sl,q'⟩:=any _ o (λz=>(hch _ z).2.2.1 rfl) (ne _ hL) ho;exact⟨_,es,ep,q',r⟩
 .by_cases hbe:b=e
  .subst hbe;rw[zd]at q;cases q;exact XO.ok hx'
  .rw[zg hbe]at q;refine(I.hok b u q).h_ (λc v hc r=>?_) (λc r=>?_) λc xs r=>?_
   .rcases hc with z|z
    .subst z;exact keep c v hbe (nc c u q) (nf c u q) r
    .have:c≠e:=λz2=>by rw[z2,he]at z;cases z
     exact keep c v this (nc c _ z) (nf c _ z) r
   .have:c≠e:=λz2=>by rw[z2,he]at r;cases r
    rw[zg this];exact r
   .have:c≠e:=λz2=>by rw[z2,he]at r;cases r
    rw[zg this];exact r
structure Tb(X:Cx)(pins:Hu)(H:Hp)(s:Hy)(Ta:Addr)(fl:Value):Prop where
 tbk:∃oT ts,s.heap.get? Ta=some oT/\oT.data=.fields ts/\ts[3]?=some fl
 new:X.s₀.heap.objs.size<=Ta
 free:H Ta=none
 pin:∀p∈X.pn++pins,p.1≠Ta
def Own(X:Cx):Prop:=X.stack=X.env::X.outer/\X.env.frame=some X.env.locals
def Tb.ok(I:Inv X pins σ H s)(b:Tb X pins H s Ta fl):Ta≠X.env.locals/\(∀x c,X.env.cells.lookup x=some c->c≠Ta)/\Ta∉frs X.stack:=by
 obtain⟨oT,ts,h1,h2,_⟩:=b.tbk;have nL:Ta≠X.env.locals:=λz=>by obtain⟨m,⟨o,es,ep,ho,hd,_⟩,_⟩:=I.loc;rw[z]at h1;rw[h1]at ho;cases ho;rw[h2]at hd;cases hd
 refine⟨nL,λx c q z=>?_,λz=>?_⟩
 .obtain⟨v,o,ho,hd⟩:=I.cell x c q;rw[z,h1]at ho;cases ho;rw[h2]at hd;cases hd
 .rcases O0.mp (I.Xf _ z)with z|z
  .exact nL z
  .obtain⟨_,o,ho,hn⟩:=I.aa.mem z;rw[h1]at ho;cases ho;exact hn _ h2
def X9(I:Inv X pins σ H s)(he:H e=some (XO e C od (.ref Ta)))(b:Tb X pins H s Ta fl)
  (hQ:∀h',Inv X pins σ (upd H e (XO e C od (.ref Ta))) { s with heap:=h' }->Tb X pins (upd H e (XO e C od (.ref Ta))) { s with heap:=h' } Ta (f.elim .none λf=>rawInt f)->Q () { s with heap:=h' }):
  wpAny M A (setFlight (.ref e) f) Q E s:=by
 obtain⟨t,sl,hx⟩:=XO.get (I.hok e _ he);obtain⟨oT,ts,h1,h2,h3⟩:=id b.tbk;obtain⟨n1,n2,n3⟩:=b.ok I;have nTe:Ta≠e:=λz=>by have:=b.free;rw[z,he]at this;cases this
 have sz:=(a03.mp h3).1;unfold setFlight;refine f8 (a1P hx rfl (x:=.ref Ta) rfl ?_);rw[if_pos (show(Value.ref Ta != Value.none)=true from by simp)];refine a2G h1 h2 sz ?_;have oth:∀c,c≠Ta->(s.heap.update Ta (Obj.mapFields (·.setIfInBounds 3 (f.elim .none λf=>rawInt f)))).get? c=s.heap.get? c:=λc hc=>P6 _ _ (Ne.symm hc);refine hQ _ (I.xl he [Ta] (λc hc=>?_) (λc o _ hc _ q=>(oth c (by simpa using hc)).trans q) (λc o hc q=>⟨o.slots,(oth c (λz=>n3 (z▸hc))).trans q⟩) ⟨t,sl,(oth e (Ne.symm nTe)).trans hx⟩) ⟨⟨_,_,Heap.get?_update_self _ h1 (Obj.isFreed_of_fields (Obj.data_mapFields h2 _)),Obj.data_mapFields h2 _,by simp[sz]⟩,b.new,by rw[zg nTe];exact b.free,b.pin⟩;obtain rfl:c=Ta:=by simpa using hc
 exact⟨b.new,b.free,n1,n2,b.pin⟩
def pq(I:Inv X pins σ H s)(he:H e=some (XO e C od .none))(hQ:Q () s):wpAny M A (setFlight (.ref e) f) Q E s:=by obtain⟨t,sl,hx⟩:=XO.get (I.hok e _ he);unfold setFlight;refine f8 (a1P hx rfl (x:=.none) rfl ?_);exact M8 hQ
def aM(own:Own X)(hA:A.frames=some X.stack)(I:Inv X pins σ H s)(he:H e=some (XO e C od T))
  (hQ:∀Tn h',Inv X pins σ (upd H e (XO e C od (.ref Tn))) { s with heap:=h' }->Tb X pins (upd H e (XO e C od (.ref Tn))) { s with heap:=h' } Tn (rawInt X.env.locals)->Q () { s with heap:=h' }):
  wpAny M A (do setField (.ref e) 1 (<- EntryCells.newEntry head (<- frameOf X.env) .none (rawInt X.env.locals) .none (<- entryPlaceOf X.env.locals hadNext))) Q E s:=by
 obtain⟨t,sl,hx⟩:=XO.get (I.hok e _ he);have hst:=I.stack;rw[own.1]at hst hA;refine f8 (wpAny_frameOf_fun hA hst own.2 λh1 hs1=>?_);refine f8 (wpAny_entryPlaceOf λpl hpl=>?_);unfold EntryCells.newEntry newFields;refine f8 (a0U ?_ (hpl.sizeOk5 _ _ _ _ _));have nef:e∉frs (X.env::X.outer):=λz=>by have:=I.XY e (by rw[own.1];exact z);rw[he]at this;cases this
 have hx1:h1.get? e=some (yK C od t T sl):=(hs1.2.1 e nef).trans hx;have hnT:e≠h1.objs.size:=N8 (M9 hx1);refine a2G (L6 _ hx1) rfl (by show 1<6;decide) ?_;have hold:∀c o,c≠e->h1.get? c=some o->∀tb:Obj,((h1.push tb).update e (Obj.mapFields (·.setIfInBounds 1 (Value.ref h1.objs.size)))).get? c=some o:=λc o hc q tb=>
  (P6 _ _ (Ne.symm hc)).trans (L6 _ q)
 have hfr:H h1.objs.size=none:=I.hok.fresh (a2g hs1.1.symm);refine hQ h1.objs.size _ (I.xl he [] (λ_ z=>nomatch z) (λc o hc _ hf q=>hold c o hc ((hs1.2.1 c (by rw[own.1]at hf;exact hf)).trans q) _) (λc o hf q=>?_) ⟨t,sl,?_⟩) ⟨⟨_,_,(P6 _ _ hnT).trans (O5 _ rfl),rfl,?_⟩,?_,?_,λp hp z=>?_⟩
 .obtain⟨sl',q'⟩:=hs1.2.2 c o q;exact⟨sl',hold c _ (λz=>nef (by rw[own.1]at hf;exact z▸hf)) q' _⟩
 .exact T8 _ (L6 _ hx1) rfl
 .rcases hpl with rfl|⟨_,_,_,_,_,_,_,rfl⟩<;>simp
 .rw[hs1.1];exact I.sz
 .rw[zg (Ne.symm hnT)];exact hfr
 .have q:=(I.pin p hp).1;exact absurd (M9 q) (by rw[z,hs1.1];exact a0l _)
structure XIs(K:Ih)(C:Addr):Prop where
 ha:findIn K (.ref C) "__class__"=some (some (.builtin "object.__class__"))
 hn:specialIn K (.builtin "object.__class__") "__get__"=some (some (.builtin "getset_descriptor.__get__"))
 htk:takesIn K (.builtin "object.__class__")=some true
section
variable {prog:HQ}{w:H_}{A:Ia}{E:Hw}{s:Hy}{K:Ih}{x dx C t:Addr}{T:Value}{sl:Ie}{mA:Hv}{name:Str}{v:Value}{R:Result->Shared->Prop}
def B9(X:K.In s.heap)(c:QV K C)(z:XIs K C)(I:InstAt s.heap x ox C (some od))
  (h:Q (some (.ref C)) { s with toks:=s.toks+1 }):wpAny (model prog w) A (getAttr? (.ref x) "__class__") Q E s:=by
 obtain⟨cd,hc,ho,ne,hdct⟩:=c.cd;have hm:=c.sub (x:="object") (by decide);obtain⟨hp,g,d,tk,os⟩:=s;have L0:=I.type (M:=model prog w);have L1:=a1a (M:=model prog w) X c.ga;have L2:=a1a (M:=model prog w) X c.gn;have Lb:Looks (model prog w) hp (isInstance (.ref x) (.type "BaseException")) true:=L0.andThen (a1O X (c.sub (x:="BaseException") (by decide)));have hf:findObj K C (some od) "__class__"=some (.bind (.builtin "getset_descriptor.__get__") (.builtin "object.__class__")):=findObj_data (by rw[hc];rfl) z.ha z.hn z.htk;have L3:=looks_find (M:=model prog w) X I hf;have ga:=PySem.F.excAttr_ValueError.ga;have f3:=ga.bind (.ref x);unfold getAttr? getAttrBy? getAttrBy;refine f8 (a2f (f8 (a02 (T2 (f8 (L0.at (f8 (L1.at ?_))))))));dsimp only;rw[show(onTheHeap (Value.ref C)&&Value.builtin "BaseException.__getattribute__"==Value.builtin "object.__getattribute__")=false from by
  rw[show(Value.builtin "BaseException.__getattribute__"==Value.builtin "object.__getattribute__")=false from by decide +kernel];rfl]
 show wpAny _ _ (getAttrByItsOwn _ _ _ _ _ _) _ _ _;unfold getAttrByItsOwn;refine f8 (show wpAny _ _ (typeLookup (.ref C) "__getattr__") _ _ _ from L2.at ?_);refine f8 (a02 (T2 ?_));show wpAny _ _ (bindSpecial _ _ >>= _) _ _ _;rw[f3];refine f8 (M8 (a0G (a0Y ga.plain F.entry_bexc_ga ?_)));have hk:builtinKind "BaseException.__getattribute__"=some .slot:=by decide +kernel
 have hs:splitId "BaseException.__getattribute__"=some ("BaseException","__getattribute__"):=by decide +kernel
 refine @check_slot (model prog w) _ _ ⟨hp,g,d,tk+1,os⟩ "BaseException.__getattribute__" "BaseException" "__getattribute__" (.ref x) [.str "__class__" tk] [] _ hk hs Lb (F.args_bexc_ga (.ref x) (.str "__class__" tk)) ?_;unfold Builtin.«object.__getattribute__»
 repeat(first|with_reducible refine a0G ?_|lk)
 refine class_get (s:=⟨hp,g,d,tk+1,os⟩) (ox:=ox) (od:=some od) X I hm ?_;exact M8 (M8 (M8 h))
def px{ox od:Obj}(c:QV K C)(z:XIs K C):KitX K (.ref x) (.ref C) (λh=>InstAt h x ox C (some od))where
 ty:=λ_ _ _ I=>I.type
 it:=λ_ _ X _=>by
  obtain⟨cd,hc,_⟩:=c.cd;unfold clsIn at hc;split at hc
  .rename_i c' d' cd' sl' hl;intro A' Q' E' s' k q;unfold isType loadHead;exact f8 (a1d (k _ _ (X _ _ hl)) (M8 q))
  .cases hc
 ne:=λh tp dd its n sl X htp=>by
  obtain⟨cd,hc,_⟩:=c.cd;refine Bool.eq_false_iff.mpr λq=>?_;obtain rfl:C=tp:=Value.ref.inj (R9.mp q);unfold clsIn at hc;split at hc
  .rename_i c' d' cd' sl' hl;cases(X _ _ hl).symm.trans htp
  .cases hc
 ca:=λX I k=>B9 X c z I k
end
def X_(h:H a=some o):upd H a o=H:=by
 funext b;unfold upd;split
 .rename_i e;rw[e,h]
 .rfl
def XC(e C dx:Addr):HO:=.ext λh=>∃t T sl,h.get? e=some (yK C (some dx) t T sl)
def XC.ok(x:h.get? e=some (yK C (some dx) t T sl)):yM P w H h e (XC e C dx):=
 ⟨⟨t,T,sl,x⟩,⟨_,x⟩,λ_ _ ⟨t',T',sl',p⟩ k=>⟨t',T',sl',k _ p⟩⟩
def XC.get(x:yM P w H h e (XC e C dx)):∃t T sl,h.get? e=some (yK C (some dx) t T sl):=x.1
section
variable {X:Cx}{pins:Hu}{σ:St}{H:Hp}{s:Hy}{e C dx Ta:Addr}{od:Iq}{T fl:Value}{M:Model}{A:Ia}{E:Hw}{Q:Unit->Shared->Prop}
def Inv.iZ(I:Inv X pins σ H s)(he:H e=some (XO e C (some dx) T)):Inv X pins σ (upd H e (XC e C dx)) s:=by
 obtain⟨t,sl,hx⟩:=XO.get (I.hok e _ he);refine I.un (h':=s.heap) (t':=s.toks) ⟨λb o q _ _ _=>q,λb o q _ _ _=>⟨o.slots,q⟩,λb o _ n _=>?_,λb o q _=>⟨o,q⟩,λb xs q=>?_,λb o u q=>?_,λb ps q=>⟨#[],?_⟩⟩ λb u q=>?_
 .have:b≠e:=λz=>by rw[z,he]at n;cases n
  rw[zg this];exact n
 .have:b≠e:=λz=>by rw[z,he]at q;cases q
  rw[zg this];exact q
 .have:b≠e:=λz=>by rw[z,he]at q;cases q
  rw[zg this];exact q
 .have:b≠e:=λz=>by rw[z,he]at q;cases q
  rw[zg this,q];simp
 .by_cases hb:b=e
  .subst hb;rw[zd]at q;cases q;exact XC.ok hx
  .rw[zg hb]at q;refine(I.hok b u q).h_ (λ_ _ _ r=>r) (λc r=>?_) λc xs r=>?_
   .have:c≠e:=λz2=>by rw[z2,he]at r;cases r
    rw[zg this];exact r
   .have:c≠e:=λz2=>by rw[z2,he]at r;cases r
    rw[zg this];exact r
def Fl(X:Cx)(pins:Hu)(H:Hp)(s:Hy)(e C:Addr)(od:Iq):Prop:=
 ∃T,H e=some (XO e C od T)/\(T=.none\/∃Ta fl,T=.ref Ta/\Tb X pins H s Ta fl/\(fl=.none\/∃n:Int,fl=rawInt n))
def Ua(own:Own X)(hA:A.frames=some X.stack)(I:Inv X pins σ H s)(f:Fl X pins H s e C od)
  (hQ:∀Tn h',Inv X pins σ (upd H e (XO e C od (.ref Tn))) { s with heap:=h' }->Tb X pins (upd H e (XO e C od (.ref Tn))) { s with heap:=h' } Tn (rawInt X.env.locals)->Q () { s with heap:=h' }):
  wpAny M A (noteFrame (.ref e) X.env) Q E s:=by
 obtain⟨T,he,hT⟩:=f;obtain⟨t,sl,hx⟩:=XO.get (I.hok e _ he);unfold noteFrame;simp only[own.2];refine f8 (a1P hx rfl (x:=T) rfl ?_);rcases hT with rfl|⟨Ta,fl,rfl,b,hfl⟩
 .rw[if_neg (by decide)];exact aM own hA I he hQ
 .rw[if_pos (show(Value.ref Ta != Value.none)=true from by simp)];obtain⟨oT,ts,h1,h2,h3⟩:=id b.tbk;refine f8 (a1P h1 h2 h3 ?_);by_cases hq:¬(fl==rawInt X.env.locals)=true
  .rw[if_neg hq];obtain⟨n1,n2,n3⟩:=b.ok I;have nTe:Ta≠e:=λz=>by have:=b.free;rw[z,he]at this;cases this
   have sz:=(a03.mp h3).1;refine f8 (a2G h1 h2 sz ?_);have oth:∀c,c≠Ta->(s.heap.update Ta (Obj.mapFields (·.setIfInBounds 3 .none))).get? c=s.heap.get? c:=λc hc=>P6 _ _ (Ne.symm hc);have I2:Inv X pins σ H { s with heap:=s.heap.update Ta (Obj.mapFields (·.setIfInBounds 3 .none)) }:=by
    have:=I.xl (T':=.ref Ta) he [Ta] (h':=s.heap.update Ta (Obj.mapFields (·.setIfInBounds 3 .none))) (λc hc=>by
     obtain rfl:c=Ta:=by simpa using hc
     exact⟨b.new,b.free,n1,n2,b.pin⟩) (λc o _ hc _ q=>(oth c (by simpa using hc)).trans q) (λc o hc q=>⟨o.slots,(oth c (λz=>n3 (z▸hc))).trans q⟩) ⟨t,sl,(oth e (Ne.symm nTe)).trans hx⟩
    rwa [X_ he]at this
   exact aM own hA I2 he λTn h'=>hQ Tn h'
  .have hq:=Classical.not_not.mp hq;rw[if_pos hq];obtain rfl:fl=rawInt X.env.locals:=eq_of_beq hq;refine M8 ?_;have:=hQ Ta s.heap (by rw[X_ he];exact I) (by rw[X_ he];exact b);exact this
end
def Fo(X:Cx)(E:XK)(v:Value)(s':Hy):Prop:=∃σ H' e C dx,v=.ref e/\Inv X.nox [] σ H' s'/\Fl X.nox [] H' s' e C (some dx)/\E (.ref e) (some dx) (upd H' e (XC e C dx))
def CXe(P:HQ)(w:H_):CXT:=λouter H s E v s'=>∃e C dx Ta oT ts H',v=.ref e/\s'.os=s.os/\AllBare s'.gens/\Un (frs outer) [] H H' s.heap s'.heap/\HOk P w H' s'.heap/\
 H' e=some (XO e C (some dx) (.ref Ta))/\s'.heap.get? Ta=some oT/\oT.data=.fields ts/\ts[3]?=some .none/\H' Ta=none/\s.heap.objs.size<=Ta/\E (.ref e) (some dx) (upd H' e (XC e C dx))
abbrev thr(X:Cx)(E:XK):Cx:=X.Vh (Fo X E)
def Inv.thrown(I:Inv X pins σ H s)(h:CXe X.prog X.w X.stack H s E v s'):
  ∃H' e C dx,v=.ref e/\Inv X pins σ H' s'/\Fl X pins H' s' e C (some dx)/\E (.ref e) (some dx) (upd H' e (XC e C dx)):=by
 obtain⟨e,C,dx,Ta,oT,ts,H',rfl,os,bare,un,hok,he,h1,h2,h3,hn,hs,q⟩:=h;have I2:Inv X pins σ H' s':=I.Bz os un hok bare λb z=>absurd z (by simp);refine⟨H',e,C,dx,rfl,I2,⟨_,he,.inr ⟨Ta,_,rfl,⟨⟨oT,ts,h1,h2,h3⟩,O8 I.sz hs,hn,λp hp z=>?_⟩,.inl rfl⟩⟩,q⟩;have:=M9 (I.pin p hp).1;rw[z]at this;exact absurd hs (Nat.not_le.mpr this)
def Inv.eD(I:Inv X pins σ H s):Inv X [] σ H s:=I.JK λ_ h=>nomatch h
def Fl.eD(f:Fl X pins H s e C od):Fl X [] H s e C od:=by obtain⟨T,he,h⟩:=f;refine⟨T,he,h.imp id λ⟨Ta,fl,e1,b,h2⟩=>⟨Ta,fl,e1,⟨b.tbk,b.new,b.free,λp hp=>b.pin p ?_⟩,h2⟩⟩;rw[P7]at hp;exact a0e _ hp
def Fl.Vh(f:Fl X pins H s e C od):Fl (X.Vh E) pins H s e C od:=by obtain⟨T,he,h⟩:=f;exact⟨T,he,h.imp id λ⟨Ta,fl,e1,b,h2⟩=>⟨Ta,fl,e1,⟨b.tbk,b.new,b.free,b.pin⟩,h2⟩⟩
def zZ:Passes (CXe X.prog X.w) (thr X E) E:=λpins σ H s v s' I h=>by obtain⟨H',e,C,dx,rfl,I2,f,q⟩:=Inv.thrown (X:=thr X E) I h;exact⟨σ,H',e,C,dx,rfl,(I2.jV.Vh _).eD,(Fl.Vh (X:=thr X E) f.eD),q⟩
def tM:Passes (CXe P w) X E0:=λpins σ H s v s' I h=>by obtain⟨e,C,dx,Ta,oT,ts,H',_,_,_,_,_,_,_,_,_,_,_,q⟩:=h;exact False.elim q
def zS(own:Own X):PassesOwn (IP X) X.A X.env (Fo X E):=λv s' ⟨σ,H',e,C,dx,hv,I,f,q⟩=>by
 subst hv;have hA:X.A.frames=some X.nox.stack:=I.ok.frames;refine Ua (X:=X.nox) own hA I f λTn h' I2 b=>?_;obtain⟨t,sl,hx⟩:=XO.get (I2.hok e _ zd);refine f8 (a1P hx rfl (x:=.ref Tn) rfl ?_);rw[if_neg (show ¬((Value.ref Tn==Value.none)=true)from by simp)];refine X9 I2 zd b λh2 I3 b3=>?_;rw[vH]at I3 b3;refine⟨σ,_,e,C,dx,rfl,I3,⟨_,zd,.inr ⟨Tn,_,rfl,b3,.inr ⟨(X.env.locals:Int),?_⟩⟩⟩,?_⟩
 .rw[own.2];rfl
 .rw[vH];exact q
def tN{P:HQ}{w:H_}{K:Ih}{mg:Hv}{base:Heap}{N:Hx}{qual:Str}{scope:Scope}{f:Addr}{cd:Value}{A:Ia}{outer:List Env}{s:Hy}{H:Hp}{E:XK}{v:Value}{s':Hy}
  (h:Fo (Xi (CXe P w) P w K mg base N qual scope f cd A outer s H E) E v s'):(Xi (CXe P w) P w K mg base N qual scope f cd A outer s H E).xe v s':=by
 obtain⟨σ,H',e,C,dx,hv,I,fl,q⟩:=h;subst hv;have own:Own (Xi (CXe P w) P w K mg base N qual scope f cd A outer s H E):=⟨rfl,rfl⟩;show wpAny (model P w) _ (leaving _ (.ref e)) _ _ s';unfold leaving;refine f8 (Ua (X:=(Xi (CXe P w) P w K mg base N qual scope f cd A outer s H E).nox) own I.ok.frames I fl λTn h' I2 b=>?_);refine X9 I2 zd b λh2 I3 b3=>?_;rw[vH]at I3 b3;obtain⟨oT,ts,h1,h2',h3⟩:=b3.tbk;exact⟨e,C,dx,Tn,oT,ts,_,rfl,I3.os,I3.bare,I3.base,I3.hok,zd,h1,h2',h3,b3.free,b3.new,by rw[vH];exact q⟩
def PSs.B_{X:Cx}{E:Hw}{st:Ij}{t:TS}(h:PSs (X.Vh E) st t)(hE:∀v s,E v s->X.xe v s):PSs X st t:=λpins s σ H D I hw=>
 R8 (h pins s σ H D (I.Vh E) hw) (λ_ _ q=>q.jV) hE
section
variable {P:HQ}{w:H_}{K:Ih}{mg:Hv}{base:Heap}
def Fun.okX{x qual:Str}{st:Ir}{f:Addr}{fd:Ib}{N ps:Hx}{k:Nat}{sp:Sp}(F:Fun K x qual st f fd)(S:zv N ps (zj st))(len:∀vs H Q E,sp vs H Q E->vs.length=ps.length)
  (Zn:∀(cdv:Value)(A:Ia)(outer:List Env)(s:Hy)(H:Hp)(vs:HF)(Q:VK) (E:XK),jO k (A.deeper (envOfC qual (zj st) s.heap.objs.size f cdv))->sp vs H Q E->
   ∃t,PSs (thr (Xi (CXe P w) P w K mg base N qual (zj st) f cdv A outer s H E) E) (kB st) t/\t { nx:=λ_ H'=>Q .non H',rt:=Q } (start N vs) H):jr P w K mg base (CXe P w) (k+1) f fd ps sp:=by
 obtain⟨oc,od,kV,doc,pm,an,cdv,ct,osl,rfl,lk,hcd⟩:=F.ex;refine BP lk hcd S len λA outer s H vs Q E hr hsp=>?_;obtain⟨t,h,q⟩:=Zn cdv A outer s H vs Q E hr hsp;exact⟨t,h.B_ λv s h=>tN h,q⟩
end
def Ca(C:Addr)(sp:Sp)(E:XK)(t:TA):TE:=λσ H Q=>t σ H λvs H1=>vs.length<=1000/\∀x,H1 x=none->sp (.ref x::vs) (upd H1 x (XO x C none .none)) (λv H2=>v=.non/\Q (.ref x) H2) E
def Inv.Fp(I:Inv X pins σ H s):
  Inv X pins σ (upd H (s.heap.objs.size+1) (XO (s.heap.objs.size+1) C none .none)) { s with heap:=(s.heap.push (tL us)).push (yK C none s.heap.objs.size .none #[]) }:=
 I.laid (t':=s.toks) (λb u e=>L6 _ (L6 _ e)) (a0I _) (XO.ok (t:=s.heap.objs.size) (sl:=#[]) (by heap_get))
def i0(M:XMk X.K C f)(F:jr X.prog X.w X.K X.mg X.base CX k f fd ps sp)(hr:jO (k+1) X.A)(hb:Binds X.K fd ps [])
  (hx:Passes CX X E) (I:Inv X pins σ H s) (r:Vals vs us) (hl:vs.length<=1000) (h:∀x,H x=none->sp (.ref x::vs) (upd H x (XO x C none .none)) (λv H2=>v=.non/\Q (.ref x) H2) E):
  wpAny (IP X) X.A (call (.ref C) us) (EP X pins σ Q) X.xe s:=by
 have hq:=h (s.heap.objs.size+1) (I.hok.fresh (a0I _));have I2:=Inv.Fp (C:=C) (us:=us) I;have r2:Vals (V.ref (s.heap.objs.size+1)::vs) (Value.ref (s.heap.objs.size+1)::us):=.cons rfl r;have hl2:(Value.ref (s.heap.objs.size+1)::us++[]).length=ps.length:=by have e:=r2.length;rw[F.len _ _ _ _ hq]at e;rw[P7];exact e.symm
 have bd:=hb _ (Value.ref (s.heap.objs.size+1)::us) I2.kIn hl2;rw[P7]at bd;obtain⟨hh,g,d,tk,os⟩:=s;refine Fn M I.kIn (by rw[<- r.length,a0c];omega) (a0K (F.run _ X.stack _ _ ⟨_::us,[]⟩ _ _ _ E (hr.make C us []) (I2.ic.make C us []) bd r2 hq) λr s' hq'=>?_);cases r with
 |error e=>exact hx pins σ _ _ e s' I2 hq'
 |ok fl=>
  cases fl with
  |ret u=>obtain⟨v,H',I3,rv,ev,q3⟩:=I2.after hq';subst ev;exact⟨rv,⟨V.ref (hh.objs.size+1),H',I3,rfl,q3⟩⟩
  |next=>exact False.elim hq'
  |brk=>exact False.elim hq'
  |cont=>exact False.elim hq'
def pA(M:XMk X.K C f)(F:jr X.prog X.w X.K X.mg X.base CX k f fd ps sp)(hr:jO (k+1) X.A)(hg:Gl X x)(hm:X.mg x=some (.ref C))(hb:Binds X.K fd ps [])(hx:Passes CX X E)
  (ha:PA X (e::es) t) (hdb:(x==("__debug__":Str))=false:=by decide) (he:starEach (e::es) X.env=(false,eval e X.env)::starEach es X.env:=by rfl) (hpl:(backTo pos (starEach es X.env)).any (·.1)=false:=by rfl):
  PE X (.Call (.Name x p) (e::es) [] pos) (Ca C sp E t):=by
 intro pins s σ H Q I h;refine a0r (JL I hg hm ?_ hdb);refine a09 (h₀:=X.base) I.ok.mod.kin M.kp (thn (ha pos pins s σ H _ I h) λus s1 ⟨vs,H1,I1,r,hl,q⟩=>⟨I1.kIn,?_⟩) he hpl;exact i0 M F hr hb hx I1 r hl q
def Fq(K:Ih)(ta tv:TE)(f:Str):TS:=λD σ H=>tv σ H λy H1=>ta σ H1 λx H2=>∃e C T,x=.ref e/\QV K C/\takerIn K C f=some none/\
  ((H2 e=some (XO e C none T)/\∀dx,H2 dx=none->D.nx σ (upd (upd H2 dx (XD dx [(f,y)])) e (XO e C (some dx) T)))\/
   (∃dx fs,H2 e=some (XO e C (some dx) T)/\H2 dx=some (XD dx fs)/\dx≠e/\fs.length<1000/\D.nx σ (upd H2 dx (XD dx (cb f y fs)))))
def Fs(K:Ih)(ta:TE)(f:Str):TE:=λσ H Q=>ta σ H λx H1=>∃e C dx fs v,x=.ref e/\QV K C/\findIn K (.ref C) f=some none/\(H1 e=some (XC e C dx)\/∃T,H1 e=some (XO e C (some dx) T))/\H1 dx=some (XD dx fs)/\fs.lookup f=some v/\Q v H1
section
variable {X:Cx}{o value:HJ}{f:Str}{pos pos':Pos}{ta tv:TE}
def ZU(ha:PE X o ta)(hv:PE X value tv)(hs:swapsWith value (some (.Attribute o f pos')) pos.line X.env=pure false):PS X (.Assign [.Attribute o f pos'] value pos) (Fq X.K ta tv f):=by
 intro pins s σ H D I h;refine plainObj_wpAny_Assign_Attribute (thn (hv pins s σ H _ I h) λu s1 ⟨y,H1,I1,ry,q⟩=>thn (ha pins s1 σ H1 _ I1 q) λov s2 ⟨x,H2,I2,rx,e,C,T,ex,c,tk,q2⟩=>?_) hs;subst ex;obtain rfl:ov=Value.ref e:=rx;rcases q2 with⟨he,q2⟩|⟨dx,fs,he,hd,ne,l,q2⟩
 .obtain⟨t,sl,hx⟩:=XO.get (I2.hok e _ he);have hne:s2.heap.objs.size≠e:=a0a (M9 hx);have hfr:H2 s2.heap.objs.size=none:=I2.hok.fresh (M7 _);refine gq I2.kIn c hx tk λh' hx' hn' kp=>⟨σ,_,?_,q2 _ hfr⟩;have lt:∀b o,s2.heap.get? b=some o->b≠s2.heap.objs.size:=λb o q=>N8 (M9 q);have ltH:∀b o,H2 b=some o->b≠s2.heap.objs.size:=λb o q z=>by rw[z,hfr]at q;cases q
  refine I2.un (h':=h') (t':=s2.toks+2) ⟨λb o q n _ _=>kp b o (λz=>by rw[z,he]at n;cases n) q,λb o q n _ _=>⟨o.slots,kp b o (λz=>by rw[z,he]at n;cases n) q⟩,λb o q n _=>?_,λb o q _=>?_,λb xs q=>?_,λb o u q=>?_,λb ps q=>⟨#[],?_⟩⟩ λb ob q=>?_
  .rw[zg (λz=>by rw[z,he]at n;cases n),zg (lt b o q)];exact n
  .by_cases hb:b=e
   .exact⟨_,hb▸hx'⟩
   .exact⟨o,kp b o hb q⟩
  .rw[zg (λz=>by rw[z,he]at q;cases q),zg (ltH b _ q)];exact q
  .rw[zg (λz=>by rw[z,he]at q;cases q),zg (ltH b _ q)];exact q
  .rw[zg (λz=>by rw[z,he]at q;cases q),zg (ltH b _ q),q];simp
  .by_cases hb:b=e
   .subst hb;rw[zd]at q;cases q;exact XO.ok hx'
   .rw[zg hb]at q;by_cases hb2:b=s2.heap.objs.size
    .subst hb2;rw[zd]at q;cases q;refine XD.ok hn' (λg=>?_) (λg hg=>?_) (by show 1<=1000;decide)
     .show Xe (List.lookup g [(f,y)]) (if g=f then some u else none);by_cases z:g=f
      .subst z;rw[if_pos rfl];simp only[List.lookup,beq_self_eq_true];exact ry
      .rw[if_neg z];simp only[List.lookup,beq_eq_false_iff_ne.mpr z];exact True.intro
     .by_cases z:g=f
      .subst z;exact T0.mpr rfl
      .exact absurd (if_neg z) hg
    .rw[zg hb2]at q;refine(I2.hok b ob q).h_ (λc v hc r=>kp c v ?_ r) (λc r=>?_) λc xs r=>?_
     .rcases hc with z|z
      .rw[z];exact hb
      .intro z2;rw[z2,he]at z;cases z
     .rw[zg (λz=>by rw[z,he]at r;cases r),zg (ltH c _ r)];exact r
     .rw[zg (λz=>by rw[z,he]at r;cases r),zg (ltH c _ r)];exact r
 .obtain⟨t,sl,hx⟩:=XO.get (I2.hok e _ he);obtain⟨mA,hn,r,wi,l1⟩:=XD.get (I2.hok dx _ hd);refine iX I2.kIn c hx hn ne tk wi (by rw[v0,a0c];omega) λh' hn' sb=>⟨σ,_,?_,q2⟩;have hdx:∃u,h'.get? dx=some u:=let⟨o,_,_,e',_⟩:=hn';⟨o,e'⟩
  refine I2.write (x:=dx) (e:=dx) (t':=s2.toks+2) (by rw[hd];exact True.intro) (.inl rfl) (λb u hb z=>(sb.2 b hb).trans z) hdx (XD.ok hn' (λg=>?_) (λg hg=>?_) ?_)
  .show Xe ((cb f y fs).lookup g) (if g=f then some u else mA g);rw[VB];by_cases q:g=f
   .rw[if_pos q,if_pos q];exact ry
   .rw[if_neg q,if_neg q];exact r g
  .by_cases q:g=f
   .rw[q];exact(VC f y fs).1
   .refine(VC f y fs).2 g (wi g λz=>hg ?_);show(if g=f then some u else mA g)=none;rw[if_neg q];exact z
  .have:=VD f y fs;omega
def Cb(I:Inv X pins σ H s)(he:H e=some (XC e C dx)\/∃T,H e=some (XO e C (some dx) T)):∃t T sl,s.heap.get? e=some (yK C (some dx) t T sl):=by
 rcases he with he|⟨T,he⟩
 .exact XC.get (I.hok e _ he)
 .obtain⟨t,sl,h⟩:=XO.get (I.hok e _ he);exact⟨t,T,sl,h⟩
def xm(he:PE X e ta)(hb:attributeBase e f X.env (eval e X.env)=eval e X.env):PE X (.Attribute e f pos) (Fs X.K ta f):=by intro pins s σ H Q I h;refine xb hb (thn (he pins s σ H _ I h) λu s1 ⟨x,H1,I1,rx,a,C,dx,fs,v,ex,c,n,ea,ed,l,q⟩=>?_);subst ex;obtain rfl:u=Value.ref a:=rx;obtain⟨t,T,sl,hx⟩:=Cb I1 ea;obtain⟨mA,hn,r,_,_⟩:=XD.get (I1.hok dx _ ed);obtain⟨u,hu,ru⟩:=Xe.some_of (v:=v) (o:=mA f) (by rw[<- l];exact r f);exact G8 I1.kIn c hx hn n hu (iJ ru) ⟨v,H1,I1.tok _,ru,q⟩
def Cc(K:Ih)(E:XK)(te:TE):TS:=λ_ σ H=>te σ H λv H1=>∃e C dx,v=.ref e/\QV K C/\H1 e=some (XO e C (some dx) .none)/\E (.ref e) (some dx) (upd H1 e (XC e C dx))
def pB(hh:X.calm=true)(he:PE (thr X E) e te):PS (thr X E) (.Raise (some e) none pos) (Cc X.K E te):=by
 intro pins s σ H D I h;rw[arm_exec_Raise];refine f8 (a0P ?_);show wpAny _ _ (raiseStmt X.env (some (do let v<-eval e X.env;standAt pos;pure v)) none) _ _ s;unfold raiseStmt;refine f8 (f8 (thn (he pins s σ H _ I h) λu s1 ⟨v,H1,I1,rv,a,C,dx,ev,c,hx,q⟩=>f8 (a0P (M8 ?_))));subst ev;obtain rfl:u=Value.ref a:=rv;obtain⟨t,sl,ho⟩:=XO.get (I1.hok a _ hx);obtain⟨cd,hcd,_⟩:=c.cd;have L0:Looks (IP X) s1.heap (typeOf (.ref a)) (.ref C):=(Looks.ld ho).andThen .now;have Lb:Looks (IP X) s1.heap (isSubtype (.ref C) (.type "BaseException")) true:=a1O I1.kIn (c.sub (x:="BaseException") (by decide));have LI:Looks (IP X) s1.heap (isInstance (.ref a) (.type "BaseException")) true:=L0.andThen Lb;have fin:(thr X E).xe (.ref a) s1:=⟨σ,H1,a,C,dx,rfl,(I1.jV.Vh _).eD,⟨.none,hx,.inl rfl⟩,q⟩;have hd:(thr X E).A.handled=none:=I1.ok.hd hh;have LT:Looks (IP X) s1.heap (isType (.ref a)) false:=by intro A' Q' E' s' k q;unfold isType loadHead;exact f8 (a1d (k _ _ ho) (M8 q))
 have LE:Looks (IP X) s1.heap (isExcClass (.ref a)) false:=LT.andThen .now;refine f8 (M8 ?_);dsimp only;refine f8 (T2 ?_);unfold excFromValue;refine f8 (LE.here ?_);simp only[Bool.false_eq_true,if_false];refine f8 (LI.here ?_);simp only[if_true];refine M8 (f8 (LT.here ?_));simp only[Bool.false_eq_true,if_false];have LC:Looks (IP X) s1.heap (typeOf (.ref C)) (.type "type"):=looks_typeIn I1.kIn c.ty;have LR:Looks (IP X) s1.heap (raisedInstance (.ref a)) (.ref a):=by unfold raisedInstance;refine L0.andThen (LC.andThen ?_);rw[if_pos (by simp)];exact .now
 refine f8 (LR.here (f8 (pq I1 hx ?_)));exact wpAny_raiseNew_none hd fin
end
def TyX(K:Ih)(H:Hp)(x:V)(t:Value):Prop:=ia K H x t\/
 ∃e C dx fs,x=.ref e/\t=.ref C/\QV K C/\XIs K C/\(H e=some (XC e C dx)\/∃T,H e=some (XO e C (some dx) T))/\H dx=some (XD dx fs)
def Ft:V->Option Value
 |.ref a=>some (.ref a)
 |.ty n=>some (.type n)
 |_=>none
def pC(r:RelV c u)(e:Ft c=some v):u=v:=by
 cases c with
 |ref a=>cases e;exact r
 |ty n=>cases e;exact r
 |_=>cases e
def cH(I:Inv X pins σ H s)(rx:RelV x u)(ty:TyX X.K H x t):∃P,KitX X.K u t P/\P s.heap/\u≠.builtin "__main__.__loader__#opaque":=by
 rcases ty with ty|⟨e,C,dx,fs,rfl,rfl,c,z,he,hd⟩
 .cases ty with
  |non=>cases(show u=Value.none from rx);exact⟨_,kitx_none,True.intro,λz=>nomatch z⟩
  |bl y=>cases(show u=Value.bool y from rx);exact⟨_,kitx_bool,True.intro,λz=>nomatch z⟩
  |int i=>obtain⟨t,q⟩:=(show ∃t,u=Value.int i t from rx);cases q;exact⟨_,kitx_int,True.intro,λz=>nomatch z⟩
  |str y=>obtain⟨t,q⟩:=(show ∃t,u=Value.str y t from rx);cases q;exact⟨_,kitx_str,True.intro,λz=>nomatch z⟩
  |flt y=>obtain⟨t,q⟩:=(show ∃t,u=Value.float y t from rx);cases q;exact⟨_,kitx_float,True.intro,λz=>nomatch z⟩
  |@lst a xs ea=>cases(show u=Value.ref a from rx);obtain⟨_,_,n,_,h1⟩:=(show yM X.prog X.w H s.heap a (.lst xs)from I.hok a _ ea);exact⟨_,kitx_list,⟨_,h1,rfl⟩,λz=>nomatch z⟩
  |@frz a ob xs ea=>cases(show u=Value.ref a from rx);obtain⟨_,_,_,n,_,h1⟩:=(show yM X.prog X.w H s.heap a (.frz ob (.lst xs))from I.hok a _ ea);exact⟨_,kitx_list,⟨_,h1,rfl⟩,λz=>nomatch z⟩
  |@tup a xs ea=>cases(show u=Value.ref a from rx);obtain⟨_,_,_,p⟩:=(show yM X.prog X.w H s.heap a (.tup xs)from I.hok a _ ea);obtain⟨o,h1,h2,_⟩:=p;exact⟨_,kitx_tuple,⟨o,h1,h2⟩,λz=>nomatch z⟩
  |@dK a kvs ea=>cases(show u=Value.ref a from rx);obtain⟨_,_,vs,_,p⟩:=(show yM X.prog X.w H s.heap a (.dK kvs)from I.hok a _ ea);obtain⟨o,es,ep,h1,h2,_⟩:=p;exact⟨_,kitx_dict,⟨o,h1,h2.1⟩,λz=>nomatch z⟩
  |@dT a kvs ea=>cases(show u=Value.ref a from rx);obtain⟨_,_,xs,_,o,es,ep,h1,h2,_⟩:=(show yM X.prog X.w H s.heap a (.dT kvs)from I.hok a _ ea);exact⟨_,kitx_dict,⟨o,h1,h2.1⟩,λz=>nomatch z⟩
  |@ins a C dx fs ea cl ha hn htk hm=>cases(show u=Value.ref a from rx);obtain⟨mA,O,_⟩:=xa I.hok ea;obtain⟨od,J,_⟩:=O.look;exact⟨_,kitx_own (cl.get _) cl.hd ha hn htk hm,J,λz=>nomatch z⟩
 .cases(show u=Value.ref e from rx);obtain⟨t,T,sl,hx⟩:=Cb I he;obtain⟨mA,hn,_⟩:=XD.get (I.hok dx _ hd);obtain⟨od,hod,_⟩:=QT hn;exact⟨_,px c z,⟨hx,rfl,rfl,hod⟩,λz=>nomatch z⟩
def XP(X:Cx)(pins:Hu)(σ:St)(Z:XK)(v:Value)(s':Hy):Prop:=∃H' e C dx,v=.ref e/\Inv X pins σ H' s'/\Fl X pins H' s' e C (some dx)/\Z (.ref e) (some dx) (upd H' e (XC e C dx))
abbrev TEx:=St->Hp->VK->XK->Prop
abbrev TSx:=Ends->XK->St->Hp->Prop
def PEx(X:Cx)(e:HJ)(t:TEx):Prop:=
 ∀(pins:Hu)(s:Hy)(σ:St)(H:Hp)(Q:VK)(Z:XK),Inv X pins σ H s->t σ H Q Z->wpAny (IP X) X.A (eval e X.env) (EP X pins σ Q) (XP X pins σ Z) s
def PSx(X:Cx)(st:Ir)(t:TSx):Prop:=
 ∀(pins:Hu)(s:Hy)(σ:St)(H:Hp)(D:Ends)(Z:XK),Inv X pins σ H s->t D Z σ H->wpAny (IP X) X.A (exec st X.env) (SP X pins D) (XP X pins σ Z) s
def Cd(X:Cx)(st:Ij)(t:TSx):Prop:=
 ∀(pins:Hu)(s:Hy)(σ:St)(H:Hp)(D:Ends)(Z:XK),Inv X pins σ H s->t D Z σ H->wpAny (IP X) X.A (execs st X.env) (SP X pins D) (XP X pins σ Z) s
def xn(F:jr X.prog X.w X.K X.mg X.base (CXe X.prog X.w) k f fd ps sp)(hr:jO k X.A)(hb:Binds X.K fd ps [])
  (I:Inv X pins σ H s) (r:Vals vs us) (h:sp vs H Q Z):wpAny (IP X) X.A (call (.ref f) us) (EP X pins σ Q) (XP X pins σ Z) s:=by
 have hl:(us++[]).length=ps.length:=by rw[P7,<- r.length];exact F.len _ _ _ _ h
 have bd:=hb s us I.kIn hl;rw[P7]at bd;refine a0G (a0K (F.run X.A X.stack s H ⟨us,[]⟩ us vs Q Z hr I.ic bd r h) λr s' hq=>?_);cases r with
 |error e=>exact I.thrown hq
 |ok fl=>
  cases fl with
  |ret u=>exact I.after hq
  |next=>exact False.elim hq
  |brk=>exact False.elim hq
  |cont=>exact False.elim hq
def PA.nox(h:PA X.nox es t)(pos:Pos)(I:Inv X pins σ H s)(hw:t σ H Q):
  wpAny (IP X) X.A (spliced (backTo pos (starEach es X.env))) (AP X pins σ Q) E s:=
 R8 (h pos pins s σ H Q (I.Vh _) hw) (λ_ _ ⟨vs,H',I',r,q⟩=>⟨vs,H',I'.jV,r,q⟩) λ_ _ z=>False.elim z
def eE(F:jr X.prog X.w X.K X.mg X.base (CXe X.prog X.w) k f fd ps sp)(hr:jO k X.A)(hg:Gl X x)(hm:X.mg x=some (.ref f))(hk:keepIn X.K (.ref f)=true)(hb:Binds X.K fd ps [])
  (ha:PA X.nox (e::es) t) (hdb:(x==("__debug__":Str))=false:=by decide) (he:starEach (e::es) X.env=(false,eval e X.env)::starEach es X.env:=by rfl) (hpl:(backTo pos (starEach es X.env)).any (·.1)=false:=by rfl):
  PEx X (.Call (.Name x p) (e::es) [] pos) (λσ H Q Z=>t σ H λvs H1=>sp vs H1 Q Z):=by
 intro pins s σ H Q Z I h;refine a0r (JL I hg hm ?_ hdb);refine a09 (h₀:=X.base) I.ok.mod.kin hk (thn (PA.nox ha pos I h) λus s1 ⟨vs,H1,I1,r,q⟩=>⟨I1.kIn,?_⟩) he hpl;exact xn F hr hb I1 r q
def xo(hN:X.N.Nodup)(hi:X.N[i]?=some x)(hx:Loc X.env.scope x)(he:PEx X e tx)(hs:swapsWith e (some (.Name x pos')) pos.line X.env=pure false:=by rfl)(hf:X.fn x=true\/X.env.scope.names.lookup x=some .local:=by first|exact .inl rfl|exact .inr rfl|assumption):
  PSx X (.Assign [.Name x pos'] e pos) (λD Z σ H=>tx σ H (λv H1=>D.nx (σ.set i (some v)) H1) Z):=by
 intro pins s σ H D Z I h;refine wpAny_Assign_Name (thn (he pins s σ H _ Z I h) λv s1 ⟨y,H1,I1,r1,q1⟩=>?_) hs;exact Vg I1 hN hi hx r1 (λs2 I2=>⟨_,H1,I2,q1⟩) hf
def Ce(hc:PT X.nox c tc)(ha:Cd X a t)(hb:Cd X b u):PSx X (.If c a b pos) (λD Z σ H=>tc σ H λq H1=>if q=true then t D Z σ H1 else u D Z σ H1):=by
 intro pins s σ H D Z I h;refine wpAny_If (R8 (hc pins s σ H _ (I.Vh _) h) (λd s1 ⟨H1,I1',q1⟩=>?_) λ_ _ z=>False.elim z);have I1:=I1'.jV;cases d with
 |true=>exact ha pins s1 σ H1 D Z I1 q1
 |false=>exact hb pins s1 σ H1 D Z I1 q1
def eF{st:Ir}{t:TSx}(h1:PSx X st t):Cd X [st] t:=by
 intro pins s σ H D Z I h;refine a2b (thn (h1 pins s σ H D Z I h) λf s1 q=>?_);cases f with
 |next=>exact a04 q
 |ret v=>exact q
 |brk=>exact q
 |cont=>exact q
abbrev Cx.held(X:Cx)(v:Value):Cx:={ X with A:=X.A.mark (some v),calm:=false,xe:=λ_ _=>False }
def Inv.held(I:Inv X pins σ H s)(v:Value):Inv (X.held v) pins σ H s:=
 ⟨⟨I.ok.mod,I.ok.kind,I.ok.glob,I.ok.blt,I.ok.above,I.ok.inj,I.ok.has,I.ok.cab,λz=>Bool.noConfusion z,I.ok.frames,I.ok.stk,I.ok.exf,I.ok.bs,I.ok.bsz,I.ok.Bd,I.ok.Be,I.ok.aa,I.ok.frf⟩,I.os,I.bare,I.base,I.loc,I.cell,I.free,I.Yv,I.pin,I.hok,I.len⟩
def Inv.Cf(I:Inv (X.held v) pins σ H s)(ok:X.Ok):Inv X pins σ H s:=
 ⟨ok,I.os,I.bare,I.base,I.loc,I.cell,I.free,I.Yv,I.pin,I.hok,I.len⟩
def Inv.blank(I:Inv X pins σ H s)(hn:h'.Ns X.env.locals m')(hs:Heap.SameBut X.env.locals s.heap h'):Inv X pins (List.replicate X.N.length none) H { s with heap:=h',toks:=t' }:=by
 have ne:∀b o,X.s₀.heap.get? b=some o->b≠X.env.locals:=λb o e=>N8 (N7 (M9 e) I.ok.above);have neH:∀b o,H b=some o->b≠X.env.locals:=λb o q z=>by rw[z,I.free]at q;cases q
 refine⟨I.ok,I.os,I.bare,⟨λb o e n hb hx=>(hs.2 b (ne b o e)).trans (I.base.keep b o e n hb hx),λb o e n hb hx=>?_,λb o e n hx=>I.base.free b o e n hx,λb o e hx=>?_,I.base.oY,I.base.ip,I.base.oI⟩,⟨m',hn,λi x v _ e2 _=>?_⟩,λx c e=>?_,I.free,I.Yv,λp hp=>?_,λb u e=>?_,by simp⟩
 .obtain⟨sl,q⟩:=I.base.slot b o e n hb hx;exact⟨sl,(hs.2 b (ne b o e)).trans q⟩
 .obtain⟨o',q⟩:=I.base.there b o e hx;exact⟨o',(hs.2 b (ne b o e)).trans q⟩
 .rw[a0w]at e2;split at e2<;>cases e2
 .obtain⟨v,o,ho,hd⟩:=I.cell x c e;exact⟨v,o,(hs.2 c (I.cne x c e)).trans ho,hd⟩
 .obtain⟨e,n,nL,nf,d⟩:=I.pin p hp;exact⟨(hs.2 p.1 nL).trans e,n,nL,nf,d⟩
 .refine(I.hok b u e).h_ (λc w hc r=>(hs.2 c ?_).trans r) (λ_ r=>r) λ_ _ r=>r;rcases hc with z|z
  .rw[z];exact neH b u e
  .exact neH c _ z
def name_goes(I:Inv X pins σ H s)(hl:X.env.kindOf n=some .local)
  (hQ:∀s',Inv X pins (List.replicate X.N.length none) H s'->Q () s'):wpAny M A (do bindName X.env n .none;unbindBehindTheSuite X.env n pos) Q E s:=by
 obtain⟨m,hn,_⟩:=id I.loc;exact wpAny_nameGoes hl hn (by rw[I.ok.kind];rfl) λh' m' hn' hs=>hQ _ (I.blank hn' hs)
structure Catch(K:Ih)(C F:Addr)(b:Bool):Prop where
 ty:typeIn K (.ref F)=some (.type "type")
 cl:(clsIn K F).isSome=true
 ex:subIn K (.ref F) (.type "BaseException")=some true
 su:subIn K (.ref C) (.ref F)=some b
def cI{K:Ih}{M:Model}{h:Heap}{e C F:Addr}{b:Bool}{o:Obj}(X:K.In h)(he:h.get? e=some o)(hc:o.cls=.ref C)(k:Catch K C F b):Looks M h (excMatches (.ref e) (.ref F)) b:=by
 have L0:Looks M h (typeOf (.ref e)) (.ref C):=hc▸(Looks.ld he).andThen .now;have L1:Looks M h (typeOf (.ref F)) (.type "type"):=looks_typeIn X k.ty;have L2:Looks M h (isInstance (.ref F) (.type "tuple")) false:=L1.andThen (Looks.of_pure tc_notTuple);have L3:Looks M h (isType (.ref F)) true:=by
  have hcl:=k.cl;unfold clsIn at hcl;split at hcl
  .rename_i c' d' cd' sl' hl;intro A' Q' E' s' kk q;unfold isType loadHead;exact f8 (a1d (kk _ _ (X _ _ hl)) (M8 q))
  .cases hcl
 have L4:Looks M h (isExcClass (.ref F)) true:=L3.andThen (looks_subIn X k.ex);have L5:=looks_subIn (M:=M) X k.su;intro A Q E s kk q;obtain⟨hp,g,d,tk,os⟩:=s;have M0:=L0.keeps kk;have M2:=L2.keeps kk;have M4:=L4.keeps kk;have M5:=L5.keeps kk;clear L0 L1 L2 L3 L4 L5;unfold excMatches;cases b with
 |true=>(repeat lk);exact q
 |false=>(repeat lk);exact q
def G9(K:Ih)(F:Addr)(tb:TSx)(i:Nat)(ts:Addr->TS):TS:=λD σ H=>
 tb D (λv o H'=>∃e C dx,v=.ref e/\o=some dx/\H' e=some (XC e C dx)/\Catch K C F true/\ts e { nx:=λ_ _=>False,rt:=D.rt } (σ.set i (some (.ref e))) H') σ H
def Cg(own:Own X)(hb:Cd X body tb)(hg:Gl X cx)(hm:X.mg cx=some (.ref F))
  (hN:X.N.Nodup) (hi:X.N[i]?=some n) (hx:Loc X.env.scope n) (hl:X.env.kindOf n=some .local) (hs:∀e,PSs (X.held (.ref e)) (b₀::suite) (ts e))
  (hdb:(cx==("__debug__":Str))=false:=by decide) (hf:X.fn n=true\/X.env.scope.names.lookup n=some .local:=by first|exact .inl rfl|exact .inr rfl|assumption):
  PS X (.Try body [.ExceptHandler (some (.Name cx np)) (some n) (b₀::suite) hp] [] [] pos) (G9 X.K F tb i ts):=by
 intro pins s σ H D I h;refine wpAny_Try_except (R8 (hb pins s σ H D _ I h) (λf s1 q=>?_) λv s1 q=>?_)
 .cases f with
  |next=>exact a04 q
  |ret u=>exact q
  |brk=>exact q
  |cont=>exact q
 .obtain⟨H',e,C,dx,rfl,I1,fl,e',C',dx',ee,ed,hC,kc,q⟩:=q;cases ee;cases ed;refine Ua own I1.ok.frames I1 fl λTn h2 I2 b2=>?_;refine X9 I2 zd b2 λh3 I3 b3=>?_;rw[vH]at I3 b3;have fA:∀(h:Heap),Inv X pins σ (upd H' e (XO e C (some dx) (.ref Tn))) { s1 with heap:=h }->∃o,h.get? e=some o/\o.cls=.ref C':=λh I'=>by have J:=I'.iZ zd;rw[vH]at J;obtain⟨t,T,sl,ho⟩:=XC.get (J.hok e _ hC);exact⟨_,ho,rfl⟩
  refine wpAny_handleBy_cons (codeAny_handlers_test ?_) (λz=>by cases z);refine JL (X:=X.held (.ref e)) (I3.held _) hg hm ?_ hdb;obtain⟨o,ho,hoc⟩:=fA _ I3;refine(cI I3.kIn ho hoc kc).here ?_;refine codeAny_handlers_suite_as ?_;refine X9 I3 zd b3 λh4 I4 b4=>?_;rw[vH]at I4 b4;refine Vg (X:=X) I4 hN hi hx (v:=.ref e) rfl (λs5 I5=>?_) hf;have J5:=(I5.iZ zd).held (.ref e);rw[vH]at J5;refine R8 (hs e pins s5 _ _ _ J5 q) (λf s6 z=>?_) λ_ _ z=>False.elim z;cases f with
  |ret u=>obtain⟨v,σ',H6,I6,rv,q6⟩:=z;exact name_goes (X:=X) (I6.Cf I.ok) hl λs7 I7=>⟨v,_,H6,I7,rv,q6⟩
  |next=>obtain⟨_,_,_,z⟩:=z;exact False.elim z
  |brk=>obtain⟨_,_,_,z⟩:=z;exact False.elim z
  |cont=>obtain⟨_,_,_,z⟩:=z;exact False.elim z
def pD(i j:Int):Prop:=i.natAbs<2 ^ 8192/\j.natAbs<2 ^ 8192
def pD.ok(h:pD i j):IntMulOk i j:=IntMulOk.of_le (intBits_le_iff.mpr h.1) (intBits_le_iff.mpr h.2) (by decide)
def xp:OpR X (binaryOp .Mult) (rI pD λi j=>.int (i*j)):=opI λ_ _ _ _ _ _ _ hc q=>mul_int q hc.ok
section
variable {H:Hp}{Q:VK}{i j:Int}{x y:Str}{v:V}{o:Option V}{r:St}{n:Nat}
end
def pE(h:a≠b):upd (upd H a o) b q=upd (upd H b q) a o:=by
 funext c;unfold upd
 by_cases h1:c=a
 .subst h1;simp[h]
 .by_cases h2:c=b
  .subst h2;simp[h1]
  .simp[h1,h2]
def zy.upd{H:Hp}{p:Addr}{o:HO}(h:H p=Option.none):zy H (upd H p o):=λb q e=>by rw[zg (qp e h)];exact e
def cJ(cells:Ig):List (Str×NameKind)->List (Str×Addr)->List (Str×Addr)
 |[],cs=>cs
 | (n,k)::r,cs=>cJ cells r (if k == .free then(match cells.lookup n with|some c=>(n,c)::cs|none=>cs)else cs)
def Ki{env:Env}:∀(names:Il)(cs:Ig),(∀y∈names,y.2=.free->(env.cells.lookup y.1).isSome=true)->
  (forIn names cs λx r=>if(x.2==NameKind.free)=true then do let a<-cellOf env x.1;pure (ForInStep.yield ((x.1,a)::r))else pure (ForInStep.yield r))=(pure (cJ env.cells names cs):Sem _)
 |[],cs,_=>rfl
 | (n,k)::r,cs,h=>by
  rw[List.forIn_cons];have ih:=λcs=>Ki (env:=env) r cs λy hy=>h y (L9 _ hy);unfold cJ;by_cases hk:(k==NameKind.free)=true
  .have hs:=h (n,k) M3 (R9.mp hk);obtain⟨c,hc⟩:=a0t.mp hs;have hc':List.lookup n env.cells=some c:=hc;simp only[hk,if_true,cellOf,hc',pure_bind];exact ih _
  .have hk':(k==NameKind.free)=false:=by simpa using hk
   simp only[hk',Bool.false_eq_true,if_false,pure_bind];exact ih _
def gu(h:∀y∈scope.names,y.2=.free->(env.cells.lookup y.1).isSome=true):closureFor scope env=pure (cJ env.cells scope.names []):=by have:=Ki scope.names [] h;simp only[closureFor];rw[this];rfl
def YF{cells:Ig}{x:Str}{c:Addr}:∀(names:Il)(cs:Ig),(∀d,cs.lookup x=some d->cells.lookup x=some d)->(cJ cells names cs).lookup x=some c->cells.lookup x=some c
 |[],cs,h,e=>h c e
 | (n,k)::r,cs,h,e=>by
  unfold cJ at e;refine YF r _ (λd hd=>?_) e;by_cases hk:(k==NameKind.free)=true
  .rw[if_pos hk]at hd;split at hd
   .rename_i c' hc';rw[S8]at hd;split at hd
    .rename_i hx;cases hd;rw[R9.mp hx];exact hc'
    .exact h d hd
   .exact h d hd
  .rw[if_neg hk]at hd;exact h d hd
def Ub{cells:Ig}{x:Str}:∀(names:Il)(cs:Ig),((cs.lookup x).isSome=true\/((x,NameKind.free)∈names/\(cells.lookup x).isSome=true))->((cJ cells names cs).lookup x).isSome=true
 |[],cs,h=>by
  rcases h with h|⟨h,_⟩
  .exact h
  .cases h
 | (n,k)::r,cs,h=>by
  unfold cJ;refine Ub r _ ?_;rcases h with h|⟨h,hc⟩
  .left;by_cases hk:(k==NameKind.free)=true
   .rw[if_pos hk];split
    .rw[S8];split
     .rfl
     .exact h
    .exact h
   .rw[if_neg hk];exact h
  .rcases O0.mp h with e|e
   .left;cases e;rw[if_pos (by rfl)];obtain⟨c,hc⟩:=a0t.mp hc;rw[hc,S8];simp
   .exact .inr ⟨e,hc⟩
def xq{x:Str}{c:Addr}:∀(names:Il)(h:Heap)(cs:Ig),(cellsFrom h.objs.size names cs).lookup x=some c->cs.lookup x=some c\/(h.objs.size<=c/\∃v,(pushCells h names).IsCell c v)
 |[],_,_,e=>.inl e
 | (n,k)::r,h,cs,e=>by
  unfold cellsFrom at e;unfold pushCells;split at e
  .rename_i hk;rw[if_pos hk];have e':(cellsFrom (h.push { cls:=.type "cell",data:=.cell none }).objs.size r ((n,h.objs.size)::cs)).lookup x=some c:=by rw[a1e];exact e
   rcases xq r _ _ e' with z|⟨z,v⟩
   .rw[S8]at z;split at z
    .cases z;exact .inr ⟨M7 _,none,_,a2w r _ _ _ (O5 _ rfl),rfl⟩
    .exact .inl z
   .rw[a1e]at z;exact .inr ⟨a12 z,v⟩
  .rename_i hk;rw[if_neg hk];exact xq r h cs e
def i4:∀(names:Il)(lo:Nat)(cs:Ig),(∀x y c,cs.lookup x=some c->cs.lookup y=some c->x=y)->(∀x c,cs.lookup x=some c->c<lo)->∀x y c,(cellsFrom lo names cs).lookup x=some c->(cellsFrom lo names cs).lookup y=some c->x=y
 |[],_,_,h,_=>h
 | (n,k)::r,lo,cs,h,hl=>by
  unfold cellsFrom;split
  .refine i4 r _ _ (λx y c e1 e2=>?_) λx c e=>?_
   .rw[S8]at e1 e2;split at e1<;>split at e2
    .rename_i q1 _ q2;rw[R9.mp q1,R9.mp q2]
    .cases e1;exact absurd (hl _ _ e2) (a0l _)
    .cases e2;exact absurd (hl _ _ e1) (a0l _)
    .exact h x y c e1 e2
   .rw[S8]at e;split at e
    .cases e;exact a1p _
    .exact a1h (hl x c e)
  .exact i4 r _ _ h hl
def i5{x:Str}:∀(names:Il)(lo:Nat)(cs:Ig),((cs.lookup x).isSome=true\/(x,NameKind.cell)∈names)->((cellsFrom lo names cs).lookup x).isSome=true
 |[],_,_,h=>h.elim id λz=>nomatch z
 | (n,k)::r,lo,cs,h=>by
  unfold cellsFrom;split
  .refine i5 r _ _ ?_;rcases h with h|h
   .left;rw[S8];split
    .rfl
    .exact h
   .rcases O0.mp h with e|e
    .cases e;left;rw[S8];simp
    .exact .inr e
  .rename_i hk;refine i5 r _ _ (h.imp id λz=>?_);rcases O0.mp z with e|e
   .cases e;exact absurd rfl hk
   .exact e
def i6{x:Str}:∀(names:Il)(lo:Nat)(cs:Ig),(x,NameKind.cell)∉names->(cellsFrom lo names cs).lookup x=cs.lookup x
 |[],_,_,_=>rfl
 | (n,k)::r,lo,cs,h=>by
  unfold cellsFrom;split
  .rename_i hk;rw[i6 r _ _ λz=>h (L9 _ z),S8];have:(x==n)=false:=by
    cases q:x==n with
    |false=>rfl
    |true=>exact absurd (by rw[R9.mp q,R9.mp hk];exact M3) h
   rw[this]
  .exact i6 r _ _ λz=>h (L9 _ z)
def i7{x:Str}{c:Addr}:∀(names:Il)(lo b:Nat)(cs:Ig),b<=lo->((x,NameKind.cell)∈names\/∀d,cs.lookup x=some d->b<=d)->(cellsFrom lo names cs).lookup x=some c->b<=c
 |[],_,_,_,_,h,e=>h.elim (λz=>nomatch z) λz=>z c e
 | (n,k)::r,lo,b,cs,hb,h,e=>by
  unfold cellsFrom at e;split at e
  .refine i7 r _ b _ (Nat.le_succ_of_le hb) ?_ e;rcases h with h|h
   .rcases O0.mp h with z|z
    .cases z;refine .inr λd hd=>?_;rw[S8]at hd;simp at hd;rw[<- hd];exact hb
    .exact .inl z
   .refine .inr λd hd=>?_;rw[S8]at hd;split at hd
    .cases hd;exact hb
    .exact h d hd
  .rename_i hk;refine i7 r _ b _ hb (h.imp (λz=>?_) id) e;rcases O0.mp z with q|q
   .cases q;exact absurd rfl hk
   .exact q
def gw
  (h:Q (newEnv scope s.heap.objs.size globals (cellsFrom (s.heap.objs.size+1) scope.names cl) qual none .none (some env) builtinsNs) { s with heap:=pushCells (s.heap.push { cls:=.type "dict",data:=.dict #[] }) scope.names }):
  wpAny M A (newFunctionEnv scope globals cl [] qual none .none (some env)) Q E s:=by
 simp only[newFunctionEnv,Option.isSome_some,if_true];refine f8 (wpAny_alloc ?_);refine f8 (wpAny_layCells _ (λname kind cells=>by cases hkc:kind==NameKind.cell<;>simp[hkc]) _ _ _ _ ?_);rw[show({ s with heap:=s.heap.push { cls:=.type "dict",data:=.dict #[] } }:Shared).heap.objs.size=s.heap.objs.size+1 from a1e ..];refine f8 ?_;rw[List.forIn_nil];exact M8 (M8 h)
abbrev eG(scope:Scope)(cl:Ig)(L:Addr)(env:Env):Env:={ compEnvC scope cl L env with cells:=cellsFrom (L+1) scope.names cl }
abbrev qw(X:Cx)(scope:Scope)(N:Hx)(fp:Iu)(pn:Hu)(s:Hy)(H:Hp)(L:Addr):Cx:=
 { X with N:=N,s₀:=s,H₀:=H,env:=eG scope (cJ X.env.cells scope.names []) L X.env,outer:=X.stack,ex:=fp,fn:=λx=>scope.names.contains (x,.cell),pn:=pn,xe:=λ_ _=>False }
def gx(X:Cx)(scope:Scope)(N:Hx)(fr:HU):Bool:=
 scope.kind == .function&&scope.names.all (λy=>y.2 != .cell || !scope.names.contains (y.1,.free))&&scope.names.all (λy=>y.2 != .local||scope.names.lookup y.1==some .local) &&
 scope.names.all (λy=>y.2 != .free||(X.env.kindOf y.1==some .cell||X.env.kindOf y.1==some .free))&&N.length==fr.length &&
 (N.zip fr).all λp=>match p.2 with|none=>true|some j=>X.N[j]?==some p.1&&scope.names.contains (p.1,.free)&&((relabel scope X.env).names.lookup p.1==some .cell||(relabel scope X.env).names.lookup p.1==some .free)
def oP(σ:St)(fr:HU):St:=fr.map λo=>match o with|none=>none|some j=>(σ[j]?).join
def PTs(X:Cx)(ifs:HD)(t:TT):Prop:=
 ∀(pins:Hu)(s:Hy)(σ:St)(H:Hp)(Q:Bool->Hp->Prop),Inv X pins σ H s->t σ H Q->
  wpAny (IP X) X.A (forIn ifs true λc r=>if r=true then do let ok<-isTrue c X.env (eval c X.env);pure (ForInStep.yield ok)else pure (ForInStep.yield r)) (TP X pins σ Q) X.xe s
def G_:TT:=λ_ H Q=>Q true H
def xt:PTs X [] G_:=λ_ _ σ H _ I h=>wpAny_tests_nil ⟨H,I,h⟩
def xu(h:PT X c t):PTs X [c] t:=λpins s σ H Q I q=>wpAny_tests_one (h pins s σ H Q I q)
def aN(h:(relabel scope env).names.lookup x=some .cell\/(relabel scope env).names.lookup x=some .free):(x,NameKind.free)∈scope.names\/(x,NameKind.cell)∈scope.names:=by
 have key:∀(names:Il) k,(names.map λ(n,k)=>if(k==NameKind.free&&env.scope.kind == .function&&env.kindOf n==some .cell)then(n,NameKind.cell)else(n,k)).lookup x=some k->(k=.cell\/k=.free)->(x,NameKind.free)∈names\/(x,NameKind.cell)∈names:=by
  intro names
  induction names with
  |nil=>intro k e _;simp at e
  |cons y r ih=>
   intro k e hk;obtain⟨n,kd⟩:=y;rw[O7,S8]at e;by_cases q:(kd==NameKind.free&&env.scope.kind == .function&&env.kindOf n==some .cell)=true
   .simp only[q,if_true]at e;split at e
    .rename_i hx;have hf:kd=.free:=by simp only[Bool.and_eq_true,beq_iff_eq]at q;exact q.1.1
     left;rw[R9.mp hx,hf];exact M3
    .exact(ih k e hk).imp (L9 _) (L9 _)
   .simp only[q,Bool.false_eq_true,if_false]at e;split at e
    .rename_i hx;have e':kd=k:=S7 e;rcases hk with z|z
     .right;rw[R9.mp hx,e',z];exact M3
     .left;rw[R9.mp hx,e',z];exact M3
    .exact(ih k e hk).imp (L9 _) (L9 _)
 rcases h with h|h
 .exact key _ _ h (.inl rfl)
 .exact key _ _ h (.inr rfl)
def cK(I:Nat->Shared->Prop)
  (turn:∀n s,I n s->wpAny (model prog w) A (pyNext it) (λr s1=>match r with
   |none=>R (.ok .next) s1
   |some v=>wpAny (model prog w) A (letOwnedTupleGo target it v) (λ_ s1'=>wpAny (model prog w) A (assign target env v) (λ_ s2=>
     wpAny (model prog w) A (forIn ifs true λc r=>if r=true then do let ok<-isTrue c env (eval c env);pure (ForInStep.yield ok)else pure (ForInStep.yield r)) (λok s3=>
      if ok=true then wpAny (model prog w) A (eval elt env) (λx s4=>wpAny (model prog w) A (call (.builtin "list.append") [acc,x]) (λ_ s5=>∃m,m<n/\I m s5) (λ_ _=>False) s4) (λ_ _=>False) s3
      else ∃m,m<n/\I m s3) (λ_ _=>False) s2) (λ_ _=>False) s1') (λ_ _=>False) s1) (λ_ _=>False) s)
  (n:Nat) (h:I n s):codeAny (model prog w) A (.compLoop (.ListComp elt [⟨target,y9,ifs,0⟩] scope pos) 0 it acc env) R s:=by
 refine codeAny_loop rfl I (λn s hI=>?_) n h;show wpAny _ A ((compTurn (.ListComp elt [⟨target,y9,ifs,0⟩] scope pos) 0 it acc env).onRaise (λx=>do noteFrame x env;theTreesLotGoes x)) _ _ s;refine wpAny_noted ?_;rw[compTurn_list];refine f8 (a0P (f8 (R8 (turn n s hI) (λr s1 h1=>?_) λ_ _ z=>False.elim z)));cases r with
 |none=>exact M8 h1
 |some v=>
  refine f8 (R8 h1 (λ_ s1' h1'=>f8 (R8 h1' (λ_ s2 h2=>f8 (R8 h2 (λok s3 h3=>?_) λ_ _ z=>False.elim z)) λ_ _ z=>False.elim z)) λ_ _ z=>False.elim z);cases ok with
  |false=>exact M8 ⟨rfl,h3⟩
  |true=>exact f8 (f8 (R8 h3 (λx s4 h4=>f8 (R8 h4 (λ_ s5 h5=>M8 (M8 ⟨rfl,h5⟩)) λ_ _ z=>False.elim z)) λ_ _ z=>False.elim z))
def gz{X:Cx}{pins:Hu}{σ:St}{H2:Hp}{s2:Hy}{elt y9 tg:HJ}{ifs:HD}{scope:Scope}{pos:Pos}{N:Hx}{fr:HU}{it:Addr}{fp:Iu}{tn:Nat->Heap->Prop}{J:It}
  {E:Hw}{RR:Value->Addr->Result->Shared->Prop}
  (hc:X.calm=true) (hok:gx X scope N fr=true) (I2:Inv X pins σ H2 s2) (T:Turn X.prog X.w X.K tg J fp it tn) (st:tn 0 s2.heap) (f2:∀b∈fp,oO X pins H2 b)
  (k:∀(s3:Hy)(h1:Heap),Inv X pins σ (upd H2 s2.heap.objs.size (.lst [])) s3->Inv (qw X scope N fp (X.pn++pins) s3 (upd H2 s2.heap.objs.size (.lst [])) s3.heap.objs.size) [] (oP σ fr) (upd H2 s2.heap.objs.size (.lst [])) { s3 with heap:=h1,toks:=s3.toks+0 }->(∀b o,s2.heap.get? b=some o->h1.get? b=some o)->(∀b∈fp,(upd H2 s2.heap.objs.size (.lst [])) b=none)->(∀H':Hp,(∀b∈fp,H' b=none)->∀b∈fp,oO (qw X scope N fp (X.pn++pins) s3 (upd H2 s2.heap.objs.size (.lst [])) s3.heap.objs.size) [] H' b)->
   codeAny (IP X) X.A (.compLoop (.ListComp elt [⟨tg,y9,ifs,0⟩] scope pos) 0 (.ref it) (.ref s2.heap.objs.size) (eG scope (cJ X.env.cells scope.names []) s3.heap.objs.size X.env)) (RR (.ref s2.heap.objs.size) s3.heap.objs.size) { s3 with heap:=h1,toks:=s3.toks+0 }):
  wpAny (IP X) X.A (newList []) (λacc s3=>wpAny (IP X) X.A (newFunctionEnv scope X.env.globals (cJ X.env.cells scope.names []) [] X.env.qual none .none (some X.env)) (λcenv s4=>
   codeAny (IP X) X.A (.compStart (.ListComp elt [⟨tg,y9,ifs,0⟩] scope pos) 0 (.ref it) acc { cenv with scope:=relabel scope X.env }) (RR acc cenv.locals) s4) E s3) E s2:=by
 unfold gx at hok;simp only[Bool.and_eq_true,beq_iff_eq,List.all_eq_true]at hok;obtain⟨⟨⟨⟨⟨k1,k2⟩,k3⟩,k4⟩,k5⟩,k6⟩:=hok;have hcf:∀x,(x,NameKind.free)∈scope.names->(x,NameKind.cell)∉scope.names:=λx hf hc'=>by have:=k2 _ hc';simp only[bne_self_eq_false,Bool.false_or,Bool.not_eq_true',List.contains_eq_mem,decide_eq_false_iff_not]at this;exact this hf
 refine a0U ?_;have I3:Inv X pins σ (upd H2 s2.heap.objs.size (.lst [])) { s2 with heap:=s2.heap.push { cls:=.type "list",data:=.seq ([]:List Value).toArray } }:=I2.Ff (ys:=[]) (its:=[]) (t':=s2.toks) .nil (T5 _);refine gw ?_;generalize hs3:({ s2 with heap:=s2.heap.push { cls:=.type "list",data:=.seq ([]:List Value).toArray } }:Shared)=s3 at I3 ⊢;have hns1:=(Heap.Ns.new s3.heap (.type "dict")).keeps (a2w scope.names _);have kp1:∀b o,s3.heap.get? b=some o->(pushCells (s3.heap.push { cls:=.type "dict",data:=.dict #[] }) scope.names).get? b=some o:=λb o e=>a2w _ _ b o (L6 _ e);have cor:∀x c,(cellsFrom (s3.heap.objs.size+1) scope.names (cJ X.env.cells scope.names [])).lookup x=some c->X.env.cells.lookup x=some c\/(s3.heap.objs.size+1<=c/\∃v,(pushCells (s3.heap.push { cls:=.type "dict",data:=.dict #[] }) scope.names).IsCell c v):=λx c e=>by have:=xq (x:=x) (c:=c) scope.names (s3.heap.push { cls:=.type "dict",data:=.dict #[] }) (cJ X.env.cells scope.names []) (by rw[a1e];exact e);rw[a1e]at this;exact this.imp (YF _ [] λ_ z=>by simp at z) id
 generalize hh1:pushCells (s3.heap.push { cls:=.type "dict",data:=.dict #[] }) scope.names=h1 at hns1 kp1 cor ⊢;have kp0:∀b o,s2.heap.get? b=some o->s3.heap.get? b=some o:=λb o e=>by rw[<- hs3];exact L6 _ e
 have fp3:∀b∈fp,b<s3.heap.objs.size/\(upd H2 s2.heap.objs.size (.lst [])) b=none:=λb hb=>by obtain⟨o,ho,_⟩:=T.obj _ _ st b hb;refine⟨M9 (kp0 _ _ ho),?_⟩;rw[zg (N8 (M9 ho))];exact(f2 b hb).1
 have okc:(qw X scope N fp (X.pn++pins) s3 (upd H2 s2.heap.objs.size (.lst [])) s3.heap.objs.size).Ok:=by
  refine⟨I3.ok.mod,k1,I3.ok.glob,I3.ok.blt,M7 _,i4 _ _ _ (λx y c e1 e2=>I3.ok.inj x y c (YF _ [] (λ_ z=>by simp at z) e1) (YF _ [] (λ_ z=>by simp at z) e2)) (λx c e=>?_),λx hx=>?_,λx c z e=>?_,λ_=>I3.ok.hd hc,I3.ok.frames,.inl rfl,
   λb hb=>⟨N8 (fp3 b hb).1,λx c e=>?_⟩,I3.bs,O8 I3.ok.bsz I3.sz,λb o e hb=>?_,λb hb z=>?_,I3.stack,I3.XY⟩
  .obtain⟨v,hv⟩:=I3.cell x c (YF _ [] (λ_ z=>by simp at z) e);exact a1h hv.lt
  .refine a0t.mp (i5 _ _ _ ?_);rcases aN hx with hf|hf
   .have hk:=k4 _ hf;simp only[bne_self_eq_false,Bool.false_or,Bool.or_eq_true,beq_iff_eq]at hk;obtain⟨c,hcx⟩:=I3.ok.has x hk;exact .inl (Ub _ [] (.inr ⟨hf,by rw[hcx];rfl⟩))
   .exact .inr hf
  .exact i7 scope.names (s3.heap.objs.size+1) s3.heap.objs.size _ (a0I _) (.inl (List.contains_iff_mem.mp z)) e
  .rcases cor x c e with z|⟨z,_⟩
   .exact(f2 b hb).2.2.2.2.1 x c z
   .exact λq=>absurd (a0i (a12 z) (show c<s3.heap.objs.size by rw[q];exact(fp3 b hb).1)) (a0l _)
  .rcases(f2 b hb).2.2.2.1 with z|z
   .exact I2.ok.Bd b o e z
   .have:=M9 e;exact absurd (N7 this I2.ok.bsz) (Nat.not_lt.mpr z)
  .rcases O0.mp (I3.Xf b z)with z|z
   .exact(f2 b hb).2.1 z
   .exact(f2 b hb).2.2.1 z
 have lenN:(oP σ fr).length=N.length:=by unfold oP;rw[v0];exact k5.symm
 have J0:Inv (qw X scope N fp (X.pn++pins) s3 (upd H2 s2.heap.objs.size (.lst [])) s3.heap.objs.size) [] (oP σ fr) (upd H2 s2.heap.objs.size (.lst [])) { s3 with heap:=h1,toks:=s3.toks+0 }:=by
  have I4:=I3.kept (h':=h1) (t':=s3.toks+0) kp1;refine⟨okc,rfl,I3.bare,Un.kept kp1,⟨_,hns1,λi x v e1 e2 _=>?_⟩,λx c e=>(cor x c e).elim (I4.cell x c) λz=>z.2,I3.hok.fresh (M7 _),λx c e=>(cor x c e).elim (I4.Yv x c) λz=>I3.hok.fresh (a12 z.1),λp hp=>?_,I4.hok,lenN⟩
  .unfold oP at e2;rw[O2]at e2;cases hfi:fr[i]? with
   |none=>rw[hfi]at e2;cases e2
   |some o=>
    rw[hfi]at e2;cases o with
    |none=>cases e2
    |some j=>
     have e3:(σ[j]?).join=some v:=S7 e2;have hm:(x,some j)∈N.zip fr:=by refine a0H (i:=i) ?_;rw[List.getElem?_zip_eq_some];exact⟨e1,hfi⟩
     have hk:=k6 _ hm;simp only[Bool.and_eq_true,Bool.or_eq_true,beq_iff_eq,List.contains_iff_mem]at hk;obtain⟨⟨g1,g2⟩,g3⟩:=hk;have hσ:σ[j]?=some (some v):=by
      cases q:σ[j]? with
      |none=>rw[q]at e3;cases e3
      |some w=>rw[q]at e3;cases w with
       |none=>cases e3
       |some w=>cases e3;rfl
     have hkx:=k4 _ g2;simp only[bne_self_eq_false,Bool.false_or,Bool.or_eq_true,beq_iff_eq]at hkx;obtain⟨m,_,hl⟩:=I4.loc;obtain⟨u,ru,lk⟩:=hl j x v g1 hσ (by rcases hkx with z|z;exact .inr (.inl z);exact .inr (.inr z));refine⟨u,ru,.inr ⟨g3,?_⟩⟩;rcases lk with⟨z,_⟩|⟨_,c,ec,z⟩
     .rcases hkx with q|q<;>(rw[z]at q;cases q)
     .obtain⟨c',hc'⟩:=a0t.mp (Ub (cells:=X.env.cells) (x:=x) scope.names [] (.inr ⟨g2,by rw[ec];rfl⟩));have:=YF _ [] (λ_ z=>by simp at z) hc';rw[ec]at this;cases this;exact⟨c,(i6 _ _ _ (hcf x g2)).trans hc',z⟩
  .have hp':p∈X.pn++pins:=by rw[P7]at hp;exact hp
   obtain⟨q1,q2,q3,q4,q5⟩:=I4.pin p hp';refine⟨q1,q2,N8 (M9 (I3.pin p hp').1),λz=>?_,q5⟩;rcases O0.mp (I3.Xf _ z)with z|z
   .exact q3 z
   .exact q4 z
 have stat:∀{H':Hp},(∀b∈fp,H' b=none)->∀b∈fp,oO (qw X scope N fp (X.pn++pins) s3 (upd H2 s2.heap.objs.size (.lst [])) s3.heap.objs.size) [] H' b:=λhn b hb=>
  ⟨hn b hb,(okc.exf b hb).1,λz=>okc.Be b hb z,.inl hb,(okc.exf b hb).2,λp hp=>by rw[P7]at hp;exact(f2 b hb).2.2.2.2.2 p hp⟩
 have loop:=k s3 h1 I3 J0 (λb o e=>kp1 b o (kp0 b o e)) (λb hb=>(fp3 b hb).2) (λ_ hn=>stat hn);exact codeAny_compStart_list loop (T.self _ 0 _ _ _ (T.keep _ _ _ st λb _ o e=>kp1 b o (kp0 b o e)) loop)
def eI{X:Cx}{pins:Hu}{σ:St}{H2:Hp}{s2:Hy}{elt y9 tg:HJ}{ifs:HD}{scope:Scope}{pos:Pos}{N:Hx}{fr:HU}{g:TG}{tc:TT}{te:TE}{it:Addr}{fp:Iu}{tn:Nat->Heap->Prop}{J:It}
  {E:Hw}{RR:Value->Addr->Result->Shared->Prop}{Q:VK}
  (hc:X.calm=true) (hok:gx X scope N fr=true) (I2:Inv X pins σ H2 s2) (T:Turn X.prog X.w X.K tg J fp it tn) (st:tn 0 s2.heap) (f2:∀b∈fp,oO X pins H2 b)
  (hg:∀fp pn s H L,PG (qw X scope N fp pn s H L) tg g) (hi:∀fp pn s H L,PTs (qw X scope N fp pn s H L) ifs tc) (he:∀fp pn s H L,PE (qw X scope N fp pn s H L) elt te)
  (h:∀acc,H2 acc=none->∃W:Nat->Nat->St->Hp->Prop,(∃m,W 0 m (oP σ fr) (upd H2 acc (.lst [])))/\∀i m σ' H',W i m σ' H'->
   (J.stop i H'/\Q (.ref acc) H')\/(J.go i H'/\∃N:St->Hp->Prop,(∀σ' H',N σ' H'->∃m',m'<m/\W (i+1) m' σ' H')/\∀x H3,J.yld i H' x H3->g x σ' H3 λσ4 H4=>tc σ4 H4 λb H5=>
    if b=true then te σ4 H5 λv H6=>∃ys,H6 acc=some (.lst ys)/\ys.length<sizeLine/\N σ4 (upd H6 acc (.lst (ys++[v])))else N σ4 H5))
  (hRR:∀acc C m s' H',Inv X pins σ H' s'->s'.heap.Ns C m->X.s₀.heap.objs.size<=C->H' C=none->C≠X.env.locals->(∀x c,X.env.cells.lookup x=some c->c≠C)->(∀p∈X.pn++pins,p.1≠C)->Q (.ref acc) H'->RR (.ref acc) C (.ok .next) s'):
  wpAny (IP X) X.A (newList []) (λacc s3=>wpAny (IP X) X.A (newFunctionEnv scope X.env.globals (cJ X.env.cells scope.names []) [] X.env.qual none .none (some X.env)) (λcenv s4=>
   codeAny (IP X) X.A (.compStart (.ListComp elt [⟨tg,y9,ifs,0⟩] scope pos) 0 (.ref it) acc { cenv with scope:=relabel scope X.env }) (RR acc cenv.locals) s4) E s3) E s2:=by
 have hDf:H2 s2.heap.objs.size=none:=I2.hok.fresh (M7 _);obtain⟨W,⟨m0,w0⟩,turn⟩:=h _ hDf;refine gz hc hok I2 T st f2 λs3 h1 I3 J0 kp fpn stat=>?_;have hcc:(qw X scope N fp (X.pn++pins) s3 (upd H2 s2.heap.objs.size (.lst [])) s3.heap.objs.size).calm=true:=hc;refine cK (λn s'=>∃i σ' H',Inv (qw X scope N fp (X.pn++pins) s3 (upd H2 s2.heap.objs.size (.lst [])) s3.heap.objs.size) [] σ' H' s'/\tn i s'.heap/\(∀b∈fp,H' b=none)/\W i n σ' H') ?_ m0
  ⟨0,_,_,J0,T.keep _ _ _ st λb _ o e=>kp b o e,fpn,w0⟩
 rintro n s5 ⟨i,σ5,H5,I5,st5,fr5,w5⟩
 rcases turn i n σ5 H5 w5 with⟨stop,qn⟩|⟨go,NN,hNN,step⟩
 .refine thn (T.done (qw X scope N fp (X.pn++pins) s3 (upd H2 s2.heap.objs.size (.lst [])) s3.heap.objs.size) rfl rfl rfl hcc i [] s5 σ5 H5 _ I5 (stat _ fr5) st5 stop) λr s6 ⟨hr,I6⟩=>?_;subst hr;have I7:Inv X pins σ H5 s6:=I3.Bz (ch:=fp) I6.os I6.base I6.hok I6.bare λb hb=>⟨(f2 b hb).2.2.2.1,(f2 b hb).2.1,(f2 b hb).2.2.2.2.1,(f2 b hb).2.2.2.2.2⟩;obtain⟨mm,hmm,_⟩:=I6.loc;refine hRR _ _ mm s6 H5 I7 hmm I3.sz I6.free (a0a I3.lt) (λx c e z=>?_) (λp hp z=>?_) qn
  .obtain⟨v,hv⟩:=I3.cell x c e;exact absurd hv.lt (by rw[z];exact a0l _)
  .exact absurd (M9 (I3.pin p hp).1) (by rw[z];exact a0l _)
 .refine thn (T.item (qw X scope N fp (X.pn++pins) s3 (upd H2 s2.heap.objs.size (.lst [])) s3.heap.objs.size) rfl rfl rfl hcc i [] s5 σ5 H5 _ I5 (stat _ fr5) st5 go) λr s6 ⟨u,hr,h6⟩=>?_;subst hr;refine thn h6 λ_ s7 ⟨x,H7,I7,r7,y7,st7,fr7⟩=>?_;have I7':=I7.pinned (stat _ fr7) (T.obj _ _ st7);have again:∀{σ9:St}{H9:Hp}{s9:Hy},Inv (qw X scope N fp (X.pn++pins) s3 (upd H2 s2.heap.objs.size (.lst [])) s3.heap.objs.size) ([]++ai fp s7.heap) σ9 H9 s9->NN σ9 H9->
    ∃m,m<n/\∃i σ' H',Inv (qw X scope N fp (X.pn++pins) s3 (upd H2 s2.heap.objs.size (.lst [])) s3.heap.objs.size) [] σ' H' s9/\tn i s9.heap/\(∀b∈fp,H' b=none)/\W i m σ' H':=λ{σ9 H9 s9} I9 n9=>by
   obtain⟨m',hm,w9⟩:=hNN σ9 H9 n9;refine⟨m',hm,i+1,σ9,H9,I9.jN,T.keep _ _ _ st7 λb hb o e=>(I9.pin (b,o) (N9 _ (N9 _ (YE hb e)))).1,λb hb=>?_,w9⟩;obtain⟨o,e,d⟩:=T.obj _ _ st7 b hb;exact(I9.pin (b,o) (N9 _ (N9 _ (YE hb e)))).2.1
  refine thn (hg _ _ _ _ _ _ s7 σ5 H7 x u _ I7' r7 (step x H7 y7)) λ_ s8 ⟨σ8,H8,I8,q8⟩=>?_;refine thn (hi _ _ _ _ _ _ s8 σ8 H8 _ I8 q8) λok s9 ⟨H9,I9,q9⟩=>?_;cases ok with
  |false=>rw[if_neg (by decide)]at q9 ⊢;exact again I9 q9
  |true=>rw[if_pos rfl]at q9 ⊢;refine thn (he _ _ _ _ _ _ s9 σ8 H9 _ I9 q9) λy s10 ⟨v,H10,I10,r10,ys,h10,l10,q10⟩=>?_;refine thn (VF (X:=qw X scope N fp (X.pn++pins) s3 (upd H2 s2.heap.objs.size (.lst [])) s3.heap.objs.size) _ s10 σ8 H10 (.ref s2.heap.objs.size) [v] (.ref s2.heap.objs.size) [y] (λ_ H11=>NN σ8 H11) I10 rfl (.cons r10 .nil) ⟨_,ys,v,rfl,rfl,h10,l10,q10⟩) λ_ s11 ⟨_,H11,I11,_,q11⟩=>?_;exact again I11 q11
def tLC(wi:TI)(g:TG)(tc:TT)(te:TE)(fr:HU):TE:=λσ H Q=>wi σ H λJ H1=>∀acc,H1 acc=none->∃W:Nat->Nat->St->Hp->Prop,(∃m,W 0 m (oP σ fr) (upd H1 acc (.lst [])))/\∀i m σ' H',W i m σ' H'->
 (J.stop i H'/\Q (.ref acc) H')\/(J.go i H'/\∃N:St->Hp->Prop,(∀σ' H',N σ' H'->∃m',m'<m/\W (i+1) m' σ' H')/\∀x H3,J.yld i H' x H3->g x σ' H3 λσ4 H4=>tc σ4 H4 λb H5=>
  if b=true then te σ4 H5 λv H6=>∃ys,H6 acc=some (.lst ys)/\ys.length<sizeLine/\N σ4 (upd H6 acc (.lst (ys++[v])))else N σ4 H5)
def eJ{X:Cx}{pins:Hu}{σ:St}{H:Hp}{s:Hy}{scope:Scope}{N:Hx}{fr:HU}(hok:gx X scope N fr=true)(I:Inv X pins σ H s):
  scope.kind=.function/\(∀y∈scope.names,y.2=.local->scope.names.lookup y.1=some .local)/\closureFor scope X.env=pure (cJ X.env.cells scope.names []):=by
 unfold gx at hok;simp only[Bool.and_eq_true,beq_iff_eq,List.all_eq_true]at hok;obtain⟨⟨⟨⟨⟨k1,k2⟩,k3⟩,k4⟩,k5⟩,k6⟩:=hok;refine⟨k1,λy hy z=>?_,gu λy hy z=>?_⟩
 .have:=k3 y hy;rw[z]at this;simpa using this
 .have hk:=k4 y hy;rw[z]at hk;simp only[bne_self_eq_false,Bool.false_or,Bool.or_eq_true,beq_iff_eq]at hk;obtain⟨c,hcx⟩:=I.ok.has y.1 hk;rw[hcx];rfl
def Ci(N:Hx)(fr:HU)(hc:X.calm=true)(hok:gx X scope N fr=true)(hi:PI X tg y9 wi)(hg:∀fp pn s H L,PG (qw X scope N fp pn s H L) tg g)(ht:∀fp pn s H L,PTs (qw X scope N fp pn s H L) ifs tc)(he:∀fp pn s H L,PE (qw X scope N fp pn s H L) elt te)
  (hs:∀x,foldedSetIterable y9 X.env x=pure x:=by intro _;rfl):PE X (.ListComp elt [⟨tg,y9,ifs,0⟩] scope pos) (tLC wi g tc te fr):=by
 intro pins s σ H Q I h;obtain⟨k1,k3,hcl⟩:=eJ hok I;rw[eval_ListComp];refine a2h (use:=none) rfl hs hcl k1 k3 (thn (hi pins s σ H _ I h) λv s1 h1=>thn h1 λitv s2 h2=>?_);obtain⟨it,fp,tn,J,H2,e,I2,T,st2,f2,hr⟩:=h2;subst e;refine eI (Q:=Q) (RR:=λacc C=>compPost (IP X) X.A X.xe none (EP X pins σ Q) acc C) hc hok I2 T st2 f2 hg ht he hr λacc C m s' H' I' hn h1 h2 h3 h4 h5 q=>?_;exact⟨m,hn,λh' sb=>⟨.ref acc,H',I'.turned (t':=s'.toks) (λb o hb e=>(sb.2 b hb).trans e) h2 h3 (.inr h1) h4 h5,rfl,q⟩⟩
def pF(N:Hx)(fr:HU)(hN:X.N.Nodup)(hy:X.N[i]?=some y)(hl:X.env.scope.names.lookup y=some .local)(hc:X.calm=true)(hok:gx X scope N fr=true)(hi:PI X tg y9 wi)(hg:∀fp pn s H L,PG (qw X scope N fp pn s H L) tg g)
  (ht:∀fp pn s H L,PTs (qw X scope N fp pn s H L) ifs tc) (he:∀fp pn s H L,PE (qw X scope N fp pn s H L) elt te) (hsw:swapsWith (.ListComp elt [⟨tg,y9,ifs,0⟩] scope pos) (some (.Name y py)) b_.line X.env=pure true:=by rfl)
  (hs:∀x,foldedSetIterable y9 X.env x=pure x:=by intro _;rfl):PS X (.Assign [.Name y py] (.ListComp elt [⟨tg,y9,ifs,0⟩] scope pos) b_) (tE (tLC wi g tc te fr) (X3 i)):=by
 intro pins s σ H D I h;obtain⟨k1,k3,hcl⟩:=eJ hok I;rw[exec_Assign_Name_used _ _ _ _ hsw];refine f8 (a0P (f8 ?_));show wpAny _ X.A (do let _<-comprehension (.ListComp elt [⟨tg,y9,ifs,0⟩] scope pos) scope X.env _ (newList []) false (eval y9 X.env) (some (assign (.Name y py) X.env))) _ _ s;refine f8 (R8 (a2h (use:=some (assign (.Name y py) X.env)) (Q:=λ_ s'=>SP X pins D .next s') rfl hs hcl k1 k3
  (thn (hi pins s σ H _ I h) λv s1 h1=>thn h1 λitv s2 h2=>?_)) (λ_ s' hq=>M8 (M8 hq)) λ_ _ z=>z)
 obtain⟨it,fp,tn,J,H2,e,I2,T,st2,f2,hr⟩:=h2;subst e;refine eI (Q:=λv H1=>X3 i v σ H1 D.nx) (RR:=λacc C=>compPost (IP X) X.A X.xe (some (assign (.Name y py) X.env)) (λ_ s'=>SP X pins D .next s') acc C) hc hok I2 T st2 f2 hg ht he hr λacc C m s' H' I' hn h1 h2 h3 h4 h5 q=>?_;show wpAny _ X.A (assign (.Name y py) X.env (.ref acc)) _ _ _;refine wpAny_assign_Name (ag (v:=.ref acc) I' hN hy (.inl hl) rfl (λs'' I'' ⟨a,sb,ha⟩=>?_) (.inr hl));have nea:C≠a:=λz=>by
  rcases ha with e|e
  .exact h3 (z.trans e)
  .exact h4 y a e z.symm
 obtain⟨o,es,ep,ho,rr⟩:=id hn;refine⟨m,⟨o,es,ep,(sb.2 C nea).trans ho,rr⟩,λh' sb'=>⟨_,H',I''.turned (t':=s''.toks) (λb o hb e=>(sb'.2 b hb).trans e) h2 h3 (.inr h1) h4 h5,q⟩⟩
section
variable {X:Cx}
def Ha:V->Option Int->Option Int->Hp->VK->Prop:=λx lo hi H Q=>∃z,x=.str z/\z.length<=sizeLine/\Q (.str (Txt.slice z lo hi)) H
def Cj:SlR X Ha:=by
 intro pins s σ H x v vl vu lo hi sl Q I rx hs pl pu h;obtain⟨z,rfl,hz,q⟩:=h;obtain⟨t,rfl⟩:=rx;have part:∀{a:Value}{o:IA},IsPart a o->∃p:Option (Int×Tok),a=partValue p/\p.map (·.1)=o:=by
  intro a o h;cases h
  .exact⟨none,rfl,rfl⟩
  .exact⟨some (_,_),rfl,rfl⟩
 obtain⟨p1,rfl,rfl⟩:=part pl;obtain⟨p2,rfl,rfl⟩:=part pu;refine⟨"str",_,F.slot_str_getitem.lookup,typeIs_str _ _ _,wpAny_getItem_str_slice (l:=p1) (u:=p2) (st:=none) ?_ rfl ?_⟩
 .exact hs
 .exact post_val_or_str ⟨O8 (Txt.slice_le z _ _) hz,λt' k=>⟨.str _,H,I.tok _,⟨t',rfl⟩,q⟩⟩
end
def Its(x:Str):It:=⟨λi _=>i<x.cps.size,λi H v H'=>H'=H/\∃c,x.cps[i]?=some c/\v=.str ⟨#[c]⟩,λi _=>x.cps.size<=i⟩
def xw(it:Addr)(x:Str)(i:Nat)(h:Heap):Prop:=∃t,h.IsStrIter it "str_ascii_iterator" x t i\/h.IsStrIter it "str_iterator" x t i
def pG{P:HQ}{w:H_}{K:Ih}{y:Str}{py:Pos}(it:Addr)(x:Str):Turn P w K (.Name y py) (Its x) [it] it (λi h=>i<=x.cps.size/\xw it x i h)where
 mem:=by simp
 obj:=λi h st b hb=>by
  obtain rfl:b=it:=by simpa using hb
  obtain⟨_,t,⟨o,e,_,d⟩|⟨o,e,_,d⟩⟩:=st<;>exact⟨o,e,λv z=>by rw[d]at z;cases z⟩
 keep:=λi h h' st k=>by
  obtain⟨hi,t,⟨o,e,r⟩|⟨o,e,r⟩⟩:=st
  .exact⟨hi,t,.inl ⟨o,k it (by simp) o e,r⟩⟩
  .exact⟨hi,t,.inr ⟨o,k it (by simp) o e,r⟩⟩
 item:=by
  intro X hP hw hK hc i pins s σ H E I hf st hg;subst hP hw hK;have hg':i<x.cps.size:=hg;have hx:x.cps[i]?=some x.cps[i]:=Array.getElem?_eq_getElem hg';obtain⟨f0,f1,f2,f3,f4,f5⟩:=hf it (by simp);obtain⟨_,t,st|st⟩:=st
  .refine wpAny_pyNext_ascii_item st hx λh' st' sb=>⟨_,rfl,M8 ⟨.str ⟨#[x.cps[i]]⟩,H,I.turned (t':=s.toks+1) (λb o hb e=>(sb.2 b hb).trans e) f0 f1 f3 f4 f5,⟨_,rfl⟩,⟨rfl,_,hx,rfl⟩,⟨hg',t,.inl st'⟩,λb hb=>(hf b hb).1⟩⟩
  .refine wpAny_pyNext_wide_item st hx λh' st' sb=>⟨_,rfl,M8 ⟨.str ⟨#[x.cps[i]]⟩,H,I.turned (t':=s.toks+1) (λb o hb e=>(sb.2 b hb).trans e) f0 f1 f3 f4 f5,⟨_,rfl⟩,⟨rfl,_,hx,rfl⟩,⟨hg',t,.inr st'⟩,λb hb=>(hf b hb).1⟩⟩
 done:=by
  intro X hP hw hK hc i pins s σ H E I hf st hg;subst hP hw hK;have hg':x.cps.size<=i:=hg;have hx:x.cps[i]?=none:=a2B hg';obtain⟨f0,f1,f2,f3,f4,f5⟩:=hf it (by simp);obtain⟨_,t,st|st⟩:=st
  .exact wpAny_pyNext_ascii_end (I.ok.hd hc) st hx λh' eb=>⟨rfl,I.turned (t':=s.toks) (λb o hb e=>eb b o hb e) f0 f1 f3 f4 f5⟩
  .exact wpAny_pyNext_wide_end (I.ok.hd hc) st hx λh' eb=>⟨rfl,I.turned (t':=s.toks) (λb o hb e=>eb b o hb e) f0 f1 f3 f4 f5⟩
 self:=λ_ _ _ _ _ st h=>by
  obtain⟨_,t,st|st⟩:=st
  .exact wpAny_pyIter_striter_ascii st h
  .exact wpAny_pyIter_striter_wide st h
def Hb(tl:TE):TI:=λσ H R=>tl σ H λx H1=>∃z,x=.str z/\R (Its z) H1
def Ck(hl:PE X l tl):PI X (.Name y py) l (Hb tl):=by
 intro pins s σ H R I h;refine thn (hl pins s σ H _ I h) λv s1 ⟨x,H1,I1,r1,z,e,q⟩=>?_;subst e;obtain⟨t,rfl⟩:=r1;have fin:∀o:Obj,(∀h,h.get? s1.heap.objs.size=some o->xw s1.heap.objs.size z 0 h)->PIE X pins σ (.Name y py) R (.ref s1.heap.objs.size) { s1 with heap:=s1.heap.push o }->PIE X pins σ (.Name y py) R (.ref s1.heap.objs.size) { s1 with heap:=s1.heap.push o }:=λ_ _ h=>h;have mk:∀o:Obj,o.isFreed=false->(∀h:Heap,h.get? s1.heap.objs.size=some o->xw s1.heap.objs.size z 0 h)->PIE X pins σ (.Name y py) R (.ref s1.heap.objs.size) { s1 with heap:=s1.heap.push o }:=λo hf ho=>by
  have I2:Inv X pins σ H1 { s1 with heap:=s1.heap.push o }:=I1.kept (t':=s1.toks) λb u e=>L6 _ e;refine⟨s1.heap.objs.size,[s1.heap.objs.size],_,Its z,H1,rfl,I2,pG _ z,⟨T5 _,ho _ (O5 _ hf)⟩,λb hb=>?_,q⟩;obtain rfl:b=s1.heap.objs.size:=by simpa using hb
  exact I1.Bh (M7 _) (I1.hok.fresh (M7 _))
 cases ha:z.cps.all (·<128)
 .exact wpAny_pyIter_wide ha (mk _ rfl λh e=>⟨t,.inr ⟨_,e,rfl,rfl⟩⟩)
 .exact wpAny_pyIter_ascii ha (mk _ rfl λh e=>⟨t,.inl ⟨_,e,rfl,rfl⟩⟩)
section
variable {X:Cx}
def eK:∀{bs:HI}{us:HB},Vals (bs.map V.bl) us->us=bs.map Value.bool
 |[],_,.nil=>rfl
 |b::bs,_,.cons e r=>by have e':_=Value.bool b:=e;subst e';rw[eK r];rfl
end
def tO{n:Nat}{i:Int}(h0:0<=i)(h1:i<n):ixN n i=some i.toNat:=by unfold ixN;rw[if_pos h0,if_pos h1]
section
variable {C:Addr}{f g:Str}{E':XK}{σ:St}{H:Hp}{v u:V}{te tu:TE}{Q:VK}
end
section
variable {K:Ih}{C e:Addr}{f:Str}{σ:St}{H:Hp}{v:V}{te:TE}{Q:VK}{fs:Ip}
end
section
variable {te:TE}{fr:HU}{σ:St}{H:Hp}{Q:VK}{r:St}
end
abbrev TJ:=St->Hp->Str->(Str->Hp->Prop)->Prop
section
variable {X:Cx}{e:HJ}{es:HD}{t:TE}{tj:TJ}{pos:Pos}
end
section
variable {X:Cx}
def Cm:R2:=λx y H Q=>∃z i,x=.str z/\y=.int i/\z.length<=16/\-2 ^ 63<=i/\i<=1048576/\Q (.str (Txt.mul z i)) H
def gA:OpR X (binaryOp .Mult) Cm:=by intro pins s σ H x y v u Q I rx ry h;obtain⟨z,i,rfl,rfl,hz,h1,h2,q⟩:=h;obtain⟨t,rfl⟩:=rx;obtain⟨t',rfl⟩:=ry;exact PySem.W.KXi.mul rfl hz h1 h2 λt' k _ _=>⟨.str _,H,I.tok _,⟨_,rfl⟩,q⟩
end
section
variable {X:Cx}{e o c:HJ}{st:Ir}{rest a b:Ij}{t u:TS}{te to:TE}{tc:TT}{pos:Pos}
end
section
variable {X:Cx}
def Cn(i j:Int):Prop:=j≠0/\j.natAbs<2 ^ 8192
def pH:OpR X (binaryOp .FloorDiv) (rI Cn λi j=>.int (i.fdiv j)):=opI λ_ j _ _ _ _ _ hc q=>floordiv_int hc.1 q (.inl (PyProof.noPylong_of_log2 (by
 have h1:j.natAbs≠0:=by have:=hc.1;omega
 have:=(Nat.log2_lt h1).mpr hc.2;omega)))
def xx(K:Ih):V->List V->Hp->VK->Prop:=λx vs H Q=>∃(p:Addr)(bs:HI)(k:Bool),x=.ref p/\vs=[.bl k]/\SqL K H p (bs.map V.bl)/\Q (.int (bs.count k)) H
def VJ(k:Bool):∀bs:List Bool,(bs.map Value.bool).countP (isBoolOf k)=bs.count k
 |[]=>rfl
 |b::bs=>by rw[O7,List.countP_cons,List.count_cons,VJ k bs];rfl
def i8:MtM X "list.count" (xx X.K):=by
 intro pins s σ H x vs v us Q I rx rv h;obtain⟨p,bs,k,rfl,rfl,hS,q⟩:=h;cases rx;obtain⟨u,rfl,ru⟩:=rv.one;cases(show u=Value.bool k from ru);obtain⟨its,r,pl,_⟩:=I.list hS;have e:=eK r;subst e;obtain⟨⟨cls,dd,data,sl⟩,ho,hc,n,hd⟩:=id pl.isList;simp only at hc hd;subst hc hd;refine a16 a2t ⟨_,ho,rfl⟩ PySem.F.entry_list_count (PySem.F.args_list_count_2 _ _) (PySem.SeqAt.list_countAt p (bs.map Value.bool).toArray n dd sl (.bool k) (isBoolOf k)) ⟨ho,λy hy=>?_,?_⟩
 .obtain⟨b,_,rfl⟩:=N6.mp (show y∈bs.map Value.bool by simpa using hy);exact PySem.SeqAt.EqAt.bool_bool b k
 .rw[show(bs.map Value.bool).toArray.toList=bs.map Value.bool from rfl,VJ];exact⟨.int _,H,I.tok _,⟨_,rfl⟩,q⟩
def Gm(K:Ih):List V->Hp->VK->Prop:=λvs H Q=>∃(p:Addr)(ns:HY),vs=[.ref p]/\SqL K H p (ns.map V.int)/\Q (.int ns.sum) H
def cL:∀{ns:HY}{us:HB},Vals (ns.map V.int) us->∃ts:List (Int×Tok),us=ts.map (λz=>Value.int z.1 z.2)/\ts.map Prod.fst=ns
 |[],_,.nil=>⟨[],rfl,rfl⟩
 |n::ns,_,.cons ⟨t,e⟩ r=>by subst e;obtain⟨ts,rfl,rfl⟩:=cL r;exact⟨(n,t)::ts,rfl,rfl⟩
def i9(hc:X.calm=true):j0 X (.builtin "sum") (Gm X.K):=by
 intro pins s σ H xs us Q I r h;obtain⟨p,ns,rfl,hS,q⟩:=h;obtain⟨u,rfl,ru⟩:=vals1 r;cases ru;obtain⟨its,rv,pl,_⟩:=I.list hS;obtain⟨ts,rfl,rfl⟩:=cL rv;have e:(ts.map (λz=>Value.int z.1 z.2)).toArray=intItems ts.toArray:=by unfold intItems;simp
 refine sum_intListG (xs:=ts.toArray) (I.ok.hd hc) (by rw[<- e];exact pl.isList) λh' tk t' hk=>?_;refine⟨.int _,H,I.kept (t':=tk) hk,⟨t',?_⟩,q⟩;rw[preSum_eq,a0S (by simp)]
def Co(K:Ih):List V->Hp->VK->Prop:=λvs H Q=>∃(p:Addr)(ns:HY),vs=[.ref p]/\SqL K H p (ns.map V.int)/\ns≠[]/\∀M,M∈ns->(∀a∈ns,a<=M)->Q (.int M) H
def i_(hc:X.calm=true):j0 X (.builtin "max") (Co X.K):=by
 intro pins s σ H xs us Q I r h;obtain⟨p,ns,rfl,hS,hne,q⟩:=h;obtain⟨u,rfl,ru⟩:=vals1 r;cases ru;obtain⟨its,rv,pl,_⟩:=I.list hS;obtain⟨ts,rfl,rfl⟩:=cL rv;have e:(ts.map (λz=>Value.int z.1 z.2)).toArray=intItems ts.toArray:=by unfold intItems;simp
 have hsz:0<ts.toArray.size:=by
  rw[O3];cases ts with
  |nil=>exact absurd rfl hne
  |cons a r=>simp
 refine max_intList (xs:=ts.toArray) (I.ok.hd hc) (by rw[<- e];exact pl.isList) hsz λv h' tk hv hk=>?_;obtain⟨t,rfl⟩:=intItems_at hv;obtain⟨h1,h2⟩:=argBest_gt (numAt ts.toArray) (ts.toArray.size-1);refine⟨.int _,H,I.kept (t':=tk) hk,⟨t,rfl⟩,q _ ?_ λa ha=>?_⟩
 .rw[numAt_eq];exact getD_mem (by rw[v0];rw[O3]at *;omega)
 .obtain⟨j,hj,rfl⟩:=mem_getD ha;rw[v0]at hj;have:=h2 j (by rw[O3];omega);rw[numAt_eq]at this;exact this
end
abbrev aO(k:Nat)(A:Ia):Prop:=jO k { A with handled:=none }
def Fu(hr:jO k A)(h:j<=k):aO j (A.mark v):=⟨rfl,by have:=hr.dp;show A.depth+3*j+5<_;omega,by have:=hr.un;show A.units+16*j+200<_;omega⟩
def CRH(outer:List Env)(P:HQ)(w:H_)(H:Hp)(s:Hy)(Q:VK)(r:Result)(s':Hy):Prop:=
 match r with
 |.ok (.ret u)=>CE outer P w H s Q u s'
 |_=>False
structure gB(P:HQ)(w:H_)(K:HN)(mg:Hv)(base:Heap)(k:Nat)(f:Addr)(fd:Ib)(ps:Hx)(sp:Sp):Prop where
 len:∀vs H Q E,sp vs H Q E->vs.length=ps.length
 run:∀(A:Ia)(outer:List Env)(s:Hy)(H:Hp)(args:Args)(us:HB)(vs:HF) (Q:VK) (E:XK),aO k A->ib P w K mg base A outer s H->BindsTo s fd args (ps.zip us)->Vals vs us->sp vs H Q E->
  codeAny (model P w) A (.call (.ref f) args) (CRH outer P w H s Q) s
abbrev Cx.hx(X:Cx):Cx:={ X with calm:=false,xe:=λ_ _=>False }
section
variable {P:HQ}{w:H_}{K:HN}{mg:Hv}{base:Heap}
def gC
  (S:zv N ps scope) (e0:ib P w K mg base A outer s H) (hl:vs.length=ps.length) (r:Vals vs us)
  (x:InCallC s s.heap.objs.size (bindL (envOfC qual scope s.heap.objs.size f cd).kindOf (ps.zip us) λ_=>none) (cellsFrom (s.heap.objs.size+1) scope.names []) (bindC (envOfC qual scope s.heap.objs.size f cd).kindOf (ps.zip us) λ_=>none) s1):
  Inv (Xi CX P w K mg base N qual scope f cd A outer s H E).hx [] (start N vs) H s1:=by
 have I:Inv (Xi CX P w K mg base N qual scope f cd { A with handled:=none } outer s H E) [] (start N vs) H s1:=az S rfl ⟨e0.frames,e0.mod,e0.bs,e0.bsz,e0.aa,e0.frf,e0.hok,e0.bare⟩ hl r x;exact⟨⟨I.ok.mod,I.ok.kind,I.ok.glob,I.ok.blt,I.ok.above,I.ok.inj,I.ok.has,I.ok.cab,λz=>Bool.noConfusion z,I.ok.frames,I.ok.stk,I.ok.exf,I.ok.bs,I.ok.bsz,I.ok.Bd,I.ok.Be,I.ok.aa,I.ok.frf⟩,I.os,I.bare,I.base,I.loc,I.cell,I.free,I.Yv,I.pin,I.hok,I.len⟩
def Cp{k:Nat}{f:Addr}{name qual:Str}{params:Arguments}{body:Ij}{scope:Scope}{dV kV doc pm cdv ct oc:Value}{an od:Iq}
  {osl:Ie}{N ps:Hx}{sp:Sp}(lk:K.lookup f=some ⟨oc,od,.func (PySem.W.fnOf name qual params body scope dV kV doc pm an cdv ct),osl⟩) (hcd:PySem.W.codeIn K cdv qual=true) (S:zv N ps scope)
  (len:∀vs H Q E,sp vs H Q E->vs.length=ps.length)
  (Zn:∀(A:Ia)(outer:List Env)(s:Hy)(H:Hp)(vs:HF)(Q:VK)(E:XK),aO k (A.deeper (envOfC qual scope s.heap.objs.size f cdv))->sp vs H Q E->
   ∃t,PSs (Xi (CXe P w) P w K mg base N qual scope f cdv A outer s H E).hx body t/\t { nx:=λ_ H'=>Q .non H',rt:=Q } (start N vs) H):
  gB P w K mg base (k+1) f (PySem.W.fnOf name qual params body scope dV kV doc pm an cdv ct) ps sp:=by
 refine⟨len,λA outer s H args us vs Q E hr e0 hb r hsp=>?_⟩;have hl:=len _ _ _ _ hsp;have KX:K.In s.heap:=e0.mod.kin.keeps λb o e=>(e0.bs b o e).1;have lim:s.heap.NoLimit:=e0.mod.nolimit.keeps λb o e=>(e0.bs b o e).1;have hkind:∀y∈ps.zip us,scope.names.lookup y.1=some .local\/(scope.names.lookup y.1=some .cell/\((cellsFrom (s.heap.objs.size+1) scope.names []).lookup y.1).isSome=true):=λ⟨n,v⟩ hy=>by
  rcases S.par n (a1y hy).1 with q|q
  .exact .inl q
  .exact .inr ⟨q,a1j _ _ _ (.inl q)⟩
 have hdep:A.depth<recursionLimit:=hr.depth;refine a2E hdep (KX _ _ lk) rfl S.co S.gen rfl (a20 KX hcd) (hb _ _ _ _ ?_);refine a1W S.kind hkind λenv he s1 x=>?_;subst he;refine⟨lim.keeps x.toInCall.keep,codeAny_func ?_⟩;obtain⟨t,ht,hq⟩:=Zn A outer s H vs Q E (hr.deeper _) hsp;have I:Inv (Xi (CXe P w) P w K mg base N qual scope f cdv A outer s H E).hx [] (start N vs) H s1:=gC S e0 hl r x;refine R8 (ht [] s1 (start N vs) H _ I hq) (λfl s' hs=>?_) λe s' hs=>False.elim hs;have fin:∀{σ':St}{H':Hp}{v:V}{u:Value},Inv (Xi (CXe P w) P w K mg base N qual scope f cdv A outer s H E).hx [] σ' H' s'->RelV v u->Q v H'->CE outer P w H s Q u s':=
  λ{σ' H' v u} J rv q=>⟨v,H',J.os,J.bare,J.base,J.hok,rv,q⟩
 cases fl with
 |ret u=>obtain⟨v,σ',H',J,rv,q⟩:=hs;exact fin J rv q
 |next=>obtain⟨σ',H',J,q⟩:=hs;exact fin (v:=V.non) (u:=Value.none) J rfl q
 |brk=>obtain⟨_,_,_,q⟩:=hs;exact False.elim q
 |cont=>obtain⟨_,_,_,q⟩:=hs;exact False.elim q
def Fun.okH{x qual:Str}{st:Ir}{f:Addr}{fd:Ib}{N ps:Hx}{k:Nat}{sp:Sp}(F:Fun K x qual st f fd)(S:zv N ps (zj st))(len:∀vs H Q E,sp vs H Q E->vs.length=ps.length)
  (Zn:∀(cdv:Value)(A:Ia)(outer:List Env)(s:Hy)(H:Hp)(vs:HF)(Q:VK) (E:XK),aO k (A.deeper (envOfC qual (zj st) s.heap.objs.size f cdv))->sp vs H Q E->
   ∃t,PSs (Xi (CXe P w) P w K mg base N qual (zj st) f cdv A outer s H E).hx (kB st) t/\t { nx:=λ_ H'=>Q .non H',rt:=Q } (start N vs) H):gB P w K mg base (k+1) f fd ps sp:=by
 obtain⟨oc,od,kV,doc,pm,an,cdv,ct,osl,rfl,lk,hcd⟩:=F.ex;exact Cp lk hcd S len λA outer s H vs Q E hr hsp=>Zn cdv A outer s H vs Q E hr hsp
end
def Cq(sp:Sp)(t:TA):TE:=λσ H Q=>t σ H λvs H1=>sp vs H1 Q E0
def pJ(F:gB X.prog X.w X.K X.mg X.base k f fd ps sp)(hr:aO k X.A)(hg:Gl X x)(hm:X.mg x=some (.ref f))(hk:keepIn X.K (.ref f)=true)(hb:Binds X.K fd ps [])
  (ha:PA X (e::es) t) (hdb:(x==("__debug__":Str))=false:=by decide) (he:starEach (e::es) X.env=(false,eval e X.env)::starEach es X.env:=by rfl) (hpl:(backTo pos (starEach es X.env)).any (·.1)=false:=by rfl):
  PE X (.Call (.Name x p) (e::es) [] pos) (Cq sp t):=by
 intro pins s σ H Q I h;refine a0r (JL I hg hm ?_ hdb);refine a09 (h₀:=X.base) I.ok.mod.kin hk (thn (ha pos pins s σ H _ I h) λus s1 ⟨vs,H1,I1,r,q⟩=>⟨I1.kIn,?_⟩) he hpl;have hl:(us++[]).length=ps.length:=by rw[P7,<- r.length];exact F.len _ _ _ _ q
 have bd:=hb s1 us I1.kIn hl;rw[P7]at bd;refine a0G (a0K (F.run X.A X.stack s1 H1 ⟨us,[]⟩ us vs Q E0 hr I1.ic bd r q) λr s' hq=>?_);cases r with
 |error e=>exact False.elim hq
 |ok fl=>
  cases fl with
  |ret u=>exact I1.after hq
  |next=>exact False.elim hq
  |brk=>exact False.elim hq
  |cont=>exact False.elim hq
section
variable {X:Cx}{tg:HJ}
end
def la(h:0<=j):HT.sIx n d (some j)=min j.toNat n:=by
 have:=HT.xf n d j.toNat
 rwa [Int.toNat_of_nonneg h]at this
section
variable {K:Ih}{H:Hp}{Q:VK}
end
section
variable {X:Cx}
end
section
variable {X:Cx}{C:Addr}{x:Str}{p pos:Pos}
end
section
variable {X:Cx}{alts:Addr->Sp->Prop}{E:XK}{o e:HJ}{m:Str}{es:HD}{vq pos:Pos}{ta:TE}{t:TA}
end
def eM{A:Ia}{xs ys:HF}{us ws:HB}{e:Nat->Bool}(r1:Vals xs us)(r2:Vals ys ws)(he:∀j x y u v,xs[j]?=some x->ys[j]?=some y->RelV x u->RelV y v->SeqAt.EqAt A s u v (e j)):
  ∀j (h1:j<us.toArray.size) (h2:j<ws.toArray.size),SeqAt.EqAt A s us.toArray[j] ws.toArray[j] (e j):=by
 intro j h1 h2;rw[O3]at h1 h2;have l1:j<xs.length:=by rw[r1.length];exact h1
 have l2:j<ys.length:=by rw[r2.length];exact h2
 have e1:xs[j]?=some xs[j]:=N4 l1;have e2:ys[j]?=some ys[j]:=N4 l2;obtain⟨u,hu,ru⟩:=r1.get e1;obtain⟨w,hw,rw'⟩:=r2.get e2;have eu:us.toArray[j]=u:=by have:=N4 h1;rw[hu]at this;simpa using(S7 this).symm
 have ew:ws.toArray[j]=w:=by have:=N4 h2;rw[hw]at this;simpa using(S7 this).symm
 rw[eu,ew];exact he j _ _ _ _ e1 e2 ru rw'
section
variable {X:Cx}
end
section
variable {H:Hp}{Q:VK}{i j:Int}
end
def zy.none(s:zy H H')(h:H' q=Option.none):H q=Option.none:=by
 cases e:H q with
 |none=>rfl
 |some o=>rw[s _ _ e]at h;cases h
inductive PV where
 |i (n:Int)|s (x:Str)|b (c:Bool)|n
 |l (xs:List PV)|t (xs:List PV)|d (kvs:List (Key×PV))|o (c:Nat) (fs:List (Str×PV))|x (c:Nat) (fs:List (Str×PV))|sc (ns:HY)|dt (kvs:List (List Key×Int))
abbrev HW:=List PV
abbrev HZ:=(List (Key×PV))
abbrev Ic:=(List (Str×PV))
abbrev Ik:=Option PV
abbrev Iz:=(PV->PV->Option Bool)
def dtV(kvs:List (List Key×Int)):List (List Key×V):=kvs.map λq=>(q.1,V.int q.2)
inductive Out(α:Type)where
 |ok (a:α)|exc (c:Nat) (fs:Ic)|wall
abbrev HP:=(List PV->Out PV)
def Out.bind{α β:Type}:Out α->(α->Out β)->Out β
 |.ok a,f=>f a
 |.exc c fs,_=>.exc c fs
 |.wall,_=>.wall
structure RC where
 K:Frag
 cls:Nat->Addr
def KL(K:Ih)(a:Addr)(xs:HF):Prop:=∃(o:Obj)(its:Im)(n:Nat),K.lookup a=some o/\o.cls=.type "list"/\o.dict=none/\o.data=.seq its n/\its.size<=sizeLine/\Vals xs its.toList
def cM(K:Ih)(N:Hz)(H:Hp)(p:Addr)(vs:HF):Prop:=(N p/\Rd H p (.lst vs))\/KL K p vs
def cM.sq{K:Ih}{N:Hz}{H:Hp}{p:Addr}{vs:HF}(h:cM K N H p vs):SqL K H p vs:=h.elim (λz=>.inl z.2) .inr
mutual
def Rep(W:RC)(M:Hz)(H:Hp):PV->V->Prop
 |.i n,v=>v=.int n
 |.s x,v=>v=.str x
 |.b c,v=>v=.bl c
 |.n,v=>v=.non
 |.l xs,v=>∃p vs,v=.ref p/\M p/\H p=some (.lst vs)/\zX W M H xs vs
 |.t xs,v=>∃p vs,v=.ref p/\SqT W.K H p vs/\zX W M H xs vs
 |.d kvs,v=>∃p es,v=.ref p/\M p/\Rd H p (.dK es)/\qx W M H kvs es
 |.sc ns,v=>∃p,v=.ref p/\cM W.K M H p (ns.map V.int)
 |.dt kvs,v=>∃p,v=.ref p/\M p/\Rd H p (.dT (dtV kvs))
 |.o c fs,v=>∃p dx es,v=.ref p/\M p/\H p=some (.ins (W.cls c) dx es)/\wd W M H fs es
 |.x c fs,v=>∃p dx es,v=.ref p/\H p=some (XC p (W.cls c) dx)/\H dx=some (XD dx es)/\wd W M H fs es
def zX(W:RC)(M:Hz)(H:Hp):List PV->List V->Prop
 |[],vs=>vs=[]
 |x::xs,vs=>∃v r,vs=v::r/\Rep W M H x v/\zX W M H xs r
def qx(W:RC)(M:Hz)(H:Hp):List (Key×PV)->List (Key×V)->Prop
 |[],es=>es=[]
 |kx::r,es=>∃v q,es=(kx.1,v)::q/\Rep W M H kx.2 v/\qx W M H r q
def wd(W:RC)(M:Hz)(H:Hp):List (Str×PV)->List (Str×V)->Prop
 |[],es=>es=[]
 |kx::r,es=>∃v q,es=(kx.1,v)::q/\Rep W M H kx.2 v/\wd W M H r q
end
def Imm:HO->Prop
 |.lst _=>False | .dK _=>False | .dT _=>False | .set _ _=>False | .ins _ _ _=>False | .tbl _=>False
 |_=>True
def Fr(M:Hz)(H H':Hp):Prop:=∀a o,H a=some o->(M a\/Imm o)->H' a=some o
def Fr.rd(f:Fr M H H')(h:Rd H p u)(m:M p):Rd H' p u:=
 h.elim (λz=>.inl (f _ _ z (.inl m))) λ⟨o,z⟩=>.inr ⟨o,f _ _ z (.inl m)⟩
def Fr.sqT{M:Hz}{K:Ih}{H H':Hp}(f:Fr M H H'){p:Addr}{u:HF}(h:SqT K H p u):SqT K H' p u:=
 h.elim (λh=>.inl (h.elim (λz=>.inl (f _ _ z (.inr trivial))) λ⟨o,z⟩=>.inr ⟨o,f _ _ z (.inr trivial)⟩)) .inr
def cM.frame{K:Ih}{N:Hz}{H H':Hp}(f:Fr N H H'){p:Addr}{vs:HF}(h:cM K N H p vs):cM K N H' p vs:=h.elim (λz=>.inl ⟨z.1,f.rd z.2 z.1⟩) .inr
def qT(h:Rd H p u):H p≠none:=by rcases h with z|⟨_,z⟩<;>rw[z]<;>intro e<;>cases e
section
variable {W:RC}{M M':Hz}{H H':Hp}
mutual
def Rep.gen(f:Fr M H H')(s:∀a,M a->H a≠none->M' a):∀{x:PV}{v:V},Rep W M H x v->Rep W M' H' x v
 |.i n,v,h=>h
 |.s x,v,h=>h
 |.b c,v,h=>h
 |.n,v,h=>h
 |.l xs,v,h=>by unfold Rep at h ⊢;obtain⟨p,vs,e,m,r,q⟩:=h;exact⟨p,vs,e,s p m (by rw[r];intro e;cases e),f _ _ r (.inl m),zX.gen f s q⟩
 |.sc ns,v,h=>by unfold Rep at h ⊢;obtain⟨p,e,r⟩:=h;exact⟨p,e,r.elim (λz=>.inl ⟨s p z.1 (by rcases z.2 with z|⟨_,z⟩<;>rw[z]<;>intro e<;>cases e),f.rd z.2 z.1⟩) .inr⟩
 |.dt kvs,v,h=>by unfold Rep at h ⊢;obtain⟨p,e,m,r⟩:=h;exact⟨p,e,s p m (qT r),f.rd r m⟩
 |.t xs,v,h=>by unfold Rep at h ⊢;obtain⟨p,vs,e,r,q⟩:=h;exact⟨p,vs,e,f.sqT r,zX.gen f s q⟩
 |.d kvs,v,h=>by unfold Rep at h ⊢;obtain⟨p,vs,e,m,r,q⟩:=h;exact⟨p,vs,e,s p m (qT r),f.rd r m,qx.gen f s q⟩
 |.o c fs,v,h=>by unfold Rep at h ⊢;obtain⟨p,dx,es,e,m,r,q⟩:=h;exact⟨p,dx,es,e,s p m (by rw[r];intro e;cases e),f _ _ r (.inl m),wd.gen f s q⟩
 |.x c fs,v,h=>by unfold Rep at h ⊢;obtain⟨p,dx,es,e,r,r2,q⟩:=h;exact⟨p,dx,es,e,f _ _ r (.inr trivial),f _ _ r2 (.inr trivial),wd.gen f s q⟩
def zX.gen(f:Fr M H H')(s:∀a,M a->H a≠none->M' a):∀{x:HW}{v:HF},zX W M H x v->zX W M' H' x v
 |[],v,h=>h
 |x::xs,vs,h=>by unfold zX at h ⊢;obtain⟨v,r,e,h1,h2⟩:=h;exact⟨v,r,e,Rep.gen f s h1,zX.gen f s h2⟩
def qx.gen(f:Fr M H H')(s:∀a,M a->H a≠none->M' a):∀{x:HZ}{v:HL},qx W M H x v->qx W M' H' x v
 |[],v,h=>h
 | (k,x)::xs,vs,h=>by unfold qx at h ⊢;obtain⟨v,r,e,h1,h2⟩:=h;exact⟨v,r,e,Rep.gen f s h1,qx.gen f s h2⟩
def wd.gen(f:Fr M H H')(s:∀a,M a->H a≠none->M' a):∀{x:Ic}{v:Ip},wd W M H x v->wd W M' H' x v
 |[],v,h=>h
 | (k,x)::xs,vs,h=>by unfold wd at h ⊢;obtain⟨v,r,e,h1,h2⟩:=h;exact⟨v,r,e,Rep.gen f s h1,wd.gen f s h2⟩
end
end
def Fr.refl:Fr M H H:=λ_ _ h _=>h
def zy.fr(s:zy H H'):Fr M H H':=λa o h _=>s a o h
def Rep.same(h:Rep W M H x v)(s:zy H H'):Rep W M H' x v:=Rep.gen s.fr (λ_ m _=>m) h
def zX.same(h:zX W M H x v)(s:zy H H'):zX W M H' x v:=zX.gen s.fr (λ_ m _=>m) h
def qx.same(h:qx W M H x v)(s:zy H H'):qx W M H' x v:=qx.gen s.fr (λ_ m _=>m) h
def Rep.sub(h:Rep W M H x v)(s:∀a,M a->H a≠none->M' a):Rep W M' H x v:=Rep.gen Fr.refl s h
def zX.sub(h:zX W M H x v)(s:∀a,M a->H a≠none->M' a):zX W M' H x v:=zX.gen Fr.refl s h
def qx.sub(h:qx W M H x v)(s:∀a,M a->H a≠none->M' a):qx W M' H x v:=qx.gen Fr.refl s h
def wd.sub(h:wd W M H x v)(s:∀a,M a->H a≠none->M' a):wd W M' H x v:=wd.gen Fr.refl s h
def yX(W:RC)(N M:Hz)(H:Hp):PV->V->Prop
 |.l xs,v=>∃p vs,v=.ref p/\N p/\H p=some (.lst vs)/\zX W M H xs vs
 |.d kvs,v=>∃p es,v=.ref p/\N p/\Rd H p (.dK es)/\qx W M H kvs es
 |.sc ns,v=>∃p,v=.ref p/\cM W.K N H p (ns.map V.int)
 |.dt kvs,v=>∃p,v=.ref p/\N p/\Rd H p (.dT (dtV kvs))
 |.o c fs,v=>∃p dx es,v=.ref p/\N p/\H p=some (.ins (W.cls c) dx es)/\wd W M H fs es
 |x,v=>Rep W M H x v
def yX.iff:yX W M M H x v↔Rep W M H x v:=by cases x<;>simp only[yX,Rep]
def yX.gen{W:RC}{N M N' M':Hz}{H H':Hp}{x:PV}{v:V}(fN:Fr N H H')(f:Fr M H H')(sN:∀a,N a->H a≠none->N' a)(s:∀a,M a->H a≠none->M' a)(h:yX W N M H x v):yX W N' M' H' x v:=by
 cases x with
 |l xs=>obtain⟨p,vs,e,m,r,q⟩:=h;exact⟨p,vs,e,sN p m (by rw[r];intro e;cases e),fN _ _ r (.inl m),q.gen f s⟩
 |d kvs=>obtain⟨p,es,e,m,r,q⟩:=h;exact⟨p,es,e,sN p m (qT r),fN.rd r m,q.gen f s⟩
 |sc ns=>obtain⟨p,e,r⟩:=h;exact⟨p,e,r.elim (λz=>.inl ⟨sN p z.1 (qT z.2),fN.rd z.2 z.1⟩) .inr⟩
 |dt kvs=>obtain⟨p,e,m,r⟩:=h;exact⟨p,e,sN p m (qT r),fN.rd r m⟩
 |o c fs=>obtain⟨p,dx,es,e,m,r,q⟩:=h;exact⟨p,dx,es,e,sN p m (by rw[r];intro e;cases e),fN _ _ r (.inl m),q.gen f s⟩
 |i n=>exact Rep.gen f s h
 |s n=>exact Rep.gen f s h
 |b n=>exact Rep.gen f s h
 |n=>exact Rep.gen f s h
 |t n=>exact Rep.gen f s h
 |x c n=>exact Rep.gen f s h
def yX.same(h:yX W N M H x v)(s:zy H H'):yX W N M H' x v:=yX.gen s.fr s.fr (λ_ m _=>m) (λ_ m _=>m) h
def yX.sub(h:yX W N M H x v)(sN:∀a,N a->H a≠none->N' a)(s:∀a,M a->H a≠none->M' a):yX W N' M' H x v:=yX.gen Fr.refl Fr.refl sN s h
def Rep.weak(h:Rep W M H x v):yX W (λ_=>True) M H x v:=yX.sub (yX.iff.mpr h) (λ_ _ _=>trivial) (λ_ m _=>m)
def WO(W:RC)(M:Hz)(H:Hp)(p:Addr):PV->Prop
 |.l xs=>∃vs,H p=some (.lst vs)/\zX W M H xs vs
 |.d kvs=>∃es,H p=some (.dK es)/\qx W M H kvs es
 |.dt kvs=>H p=some (.dT (dtV kvs))
 |.o c fs=>∃dx es,H p=some (.ins (W.cls c) dx es)/\wd W M H fs es
 |_=>False
def WO.Ey(h:WO W M H p x)(n:N p):yX W N M H x (.ref p):=by
 cases x with
 |l xs=>obtain⟨vs,e,q⟩:=h;exact⟨p,vs,rfl,n,e,q⟩
 |d kvs=>obtain⟨es,e,q⟩:=h;exact⟨p,es,rfl,n,.inl e,q⟩
 |dt kvs=>exact⟨p,rfl,n,.inl h⟩
 |o c fs=>obtain⟨dx,es,e,q⟩:=h;exact⟨p,dx,es,rfl,n,e,q⟩
 |i n=>exact h.elim
 |s n=>exact h.elim
 |b n=>exact h.elim
 |n=>exact h.elim
 |t n=>exact h.elim
 |x c n=>exact h.elim
 |sc n=>exact h.elim
def WO.gen(h:WO W M H p x)(hp:H' p=H p)(f:Fr M H H')(s:∀a,M a->H a≠none->M' a):WO W M' H' p x:=by
 cases x with
 |l xs=>obtain⟨vs,e,q⟩:=h;exact⟨vs,hp.trans e,q.gen f s⟩
 |d kvs=>obtain⟨es,e,q⟩:=h;exact⟨es,hp.trans e,q.gen f s⟩
 |dt kvs=>exact hp.trans h
 |o c fs=>obtain⟨dx,es,e,q⟩:=h;exact⟨dx,es,hp.trans e,q.gen f s⟩
 |i n=>exact h.elim
 |s n=>exact h.elim
 |b n=>exact h.elim
 |n=>exact h.elim
 |t n=>exact h.elim
 |x c n=>exact h.elim
 |sc n=>exact h.elim
def WO.some{W:RC}{M:Hz}{H:Hp}{p:Addr}{x:PV}(h:WO W M H p x):∃o,H p=some o/\¬Imm o:=by
 cases x with
 |l xs=>obtain⟨vs,e,q⟩:=h;exact⟨_,e,id⟩
 |d kvs=>obtain⟨es,e,q⟩:=h;exact⟨_,e,id⟩
 |dt kvs=>exact⟨_,h,id⟩
 |o c fs=>obtain⟨dx,es,e,q⟩:=h;exact⟨_,e,id⟩
 |i n=>exact h.elim
 |s n=>exact h.elim
 |b n=>exact h.elim
 |n=>exact h.elim
 |t n=>exact h.elim
 |x c n=>exact h.elim
 |sc n=>exact h.elim
def WO.same(h:WO W M H p x)(s:zy H H'):WO W M H' p x:=by obtain⟨o,e,_⟩:=h.some;exact h.gen ((s _ _ e).trans e.symm) s.fr λ_ m _=>m
structure Bs where
 H0:Hp
 M0:Addr->Prop
 N0:Addr->Prop
 nz:∀a,N0 a->H0 a≠none
 pin:Option Addr
 xc:Addr->Prop
structure LC where
 W:RC
 E:XK
 fr:Bool
abbrev Sto:=List (Option PV)
def Bs.Mt(B:Bs):Addr->Prop:=λa=>B.M0 a\/B.H0 a=none
def Mof(B:Bs)(S:Ht)(P:HK):Addr->Prop:=λa=>(B.Mt a/\¬B.xc a)/\∀i,S[i]?=some 2->P i≠a
structure Rel(W:RC)(B:Bs)(S:Ht)(P:HK)(H:Hp)(σ:St)(ρ:Sto):Prop where
 same:zy B.H0 H
 len:σ.length=ρ.length
 var:∀(i:Nat) x,ρ[i]?=some (some x)->∃v,σ[i]?=some (some v)/\(S[i]?=some 2->v=.ref (P i)/\WO W (Mof B S P) H (P i) x)/\(S[i]?=some 1->yX W B.N0 (Mof B S P) H x v)/\(S[i]?≠some 2->S[i]?≠some 1->Rep W (Mof B S P) H x v)
 act:∀i,S[i]?=some 2->B.H0 (P i)=none/\∃o,H (P i)=some o/\¬Imm o
 inj:∀i j,S[i]?=some 2->S[j]?=some 2->P i=P j->i=j
 pin:S[0]?=some 2->∀p,B.pin=some p->P 0=p
 exc:∀a,B.xc a->∃o,H a=some o/\¬Imm o/\B.H0 a=none
 axc:∀i,S[i]?=some 2->¬B.xc (P i)
def Rel.keep{W:RC}{B:Bs}{S:Ht}{P:HK}{H H':Hp}{σ:St}{ρ:Sto}(R:Rel W B S P H σ ρ)(s:zy H H'):Rel W B S P H' σ ρ where
 same:=R.same.trans s
 len:=R.len
 var:=λi x e=>by obtain⟨v,h1,h2,h3,h4⟩:=R.var i x e;exact⟨v,h1,λz=>⟨(h2 z).1,(h2 z).2.same s⟩,λz=>(h3 z).same s,λz z'=>(h4 z z').same s⟩
 act:=λi h=>⟨(R.act i h).1,let⟨o,e,n⟩:=(R.act i h).2;⟨o,s _ _ e,n⟩⟩
 inj:=R.inj
 pin:=R.pin
 exc:=λa h=>let⟨o,e,n⟩:=R.exc a h;⟨o,s _ _ e,n⟩
 axc:=R.axc
def Rel.wr(R:Rel W B S P H σ ρ)(hi:S[i]?=some 2)(hl:i<ρ.length)(hσ:σ[i]?=some (some (.ref (P i))))(hn:¬Imm o)(hx:WO W (Mof B S P) (upd H (P i) o) (P i) x'):Rel W B S P (upd H (P i) o) σ (ρ.set i (some x')):=by
 obtain⟨h0,o0,e0,n0⟩:=R.act i hi;have fM:Fr (Mof B S P) H (upd H (P i) o):=λa q e m=>by
  have:a≠P i:=λz=>by
   rcases m with m|m
   .exact m.2 i hi z.symm
   .rw[z,e0]at e;cases e;exact n0 m
  rw[zg this];exact e
 have fN:Fr B.N0 H (upd H (P i) o):=λa q e m=>by
  have:a≠P i:=λz=>by
   rcases m with m|m
   .exact B.nz a m (z▸h0)
   .rw[z,e0]at e;cases e;exact n0 m
  rw[zg this];exact e
 refine⟨λa q e=>?_,by rw[S4];exact R.len,λj x e=>?_,λj hj=>?_,R.inj,R.pin,λa h=>?_,R.axc⟩
 .have:a≠P i:=λz=>by rw[z,h0]at e;cases e
  rw[zg this];exact R.same a q e
 .by_cases hij:i=j
  .subst hij;rw[O9 hl]at e;cases e;exact⟨_,hσ,λ_=>⟨rfl,hx⟩,(λz=>by rw[hi]at z;cases z),λz=>absurd hi z⟩
  .rw[O6 hij]at e;obtain⟨v,h1,h2,h3,h4⟩:=R.var j x e;refine⟨v,h1,λz=>⟨(h2 z).1,?_⟩,λz=>yX.gen fN fM (λ_ m _=>m) (λ_ m _=>m) (h3 z),λz z'=>Rep.gen fM (λ_ m _=>m) (h4 z z')⟩;have:P j≠P i:=λq=>hij (R.inj i j hi z q.symm);exact(h2 z).2.gen (zg this) fM λ_ m _=>m
 .by_cases hij:j=i
  .subst hij;exact⟨h0,o,zd,hn⟩
  .obtain⟨g0,o1,e1,n1⟩:=R.act j hj;have:P j≠P i:=λq=>hij (R.inj j i hj hi q);exact⟨g0,o1,by rw[zg this];exact e1,n1⟩
 .obtain⟨o1,e1,n1⟩:=R.exc a h;by_cases e:a=P i
  .subst e;exact⟨o,zd,hn,n1.2⟩
  .exact⟨o1,by rw[zg e];exact e1,n1⟩
def yU{S:Ht}{i j c:Nat}(h:(S.set i 0)[j]?=some 2):S[j]?=some 2/\j≠i:=by
 by_cases e:i=j
 .subst e;rw[List.getElem?_set]at h;rw[if_pos rfl]at h;split at h<;>cases h
 .rw[O6 e]at h;exact⟨h,λz=>e z.symm⟩
def Rel.set(R:Rel W B S P H σ ρ)(hx:Rep W (Mof B S P) H x v):Rel W B (S.set i 0) P H (σ.set i (some v)) (ρ.set i (some x)):=by
 have sM:∀a,Mof B S P a->H a≠none->Mof B (S.set i 0) P a:=λa m _=>⟨m.1,λj hj=>m.2 j (yU (c:=0) hj).1⟩;refine⟨R.same,by rw[S4,S4];exact R.len,λj y e=>?_,λj hj=>R.act j (yU (c:=0) hj).1,λj k hj hk=>R.inj j k (yU (c:=0) hj).1 (yU (c:=0) hk).1,λh0=>R.pin (yU (c:=0) h0).1,R.exc,λj hj=>R.axc j (yU (c:=0) hj).1⟩;by_cases hij:i=j
 .subst hij;have hl:i<ρ.length:=by
   have:=(N5.mp e).1
   rwa [S4]at this
  rw[O9 hl]at e;cases e;refine⟨v,by rw[O9 (by rw[R.len];exact hl)],λz=>absurd rfl (yU (c:=0) z).2,λz=>?_,λ_ _=>hx.sub sM⟩;rw[List.getElem?_set,if_pos rfl]at z;split at z<;>cases z
 .rw[O6 hij]at e;obtain⟨w,h1,h2,h3,h4⟩:=R.var j y e;rw[O6 hij,O6 hij];exact⟨w,h1,λz=>⟨(h2 z).1,(h2 z).2.gen rfl Fr.refl sM⟩,λz=>(h3 z).sub (λ_ m _=>m) sM,λz z'=>(h4 z z').sub sM⟩
def Rel.Hc(R:Rel W B S P H σ ρ)(s:zy H H')(hp:H p=none)(hi:i<S.length)(hi0:i≠0)(hx:WO W (λa=>Mof B S P a/\a≠p) H' p x):Rel W B (S.set i 2) (λj=>if j=i then p else P j) H' (σ.set i (some (.ref p))) (ρ.set i (some x)):=by
 have s0:B.H0 p=none:=zy.none R.same hp;have hS:∀{j},(S.set i 2)[j]?=some 2->j≠i->S[j]?=some 2:=λ{j} h n=>by rwa [O6 (λz=>n z.symm)]at h
 have sM:∀a,Mof B S P a->a≠p->Mof B (S.set i 2) (λj=>if j=i then p else P j) a:=λa m hn=>⟨m.1,λj hj=>by
  by_cases e:j=i
  .simp only[e,if_true];exact λz=>hn z.symm
  .simp only[e,if_false];exact m.2 j (hS hj e)⟩
 have sMH:∀a,Mof B S P a->H a≠none->Mof B (S.set i 2) (λj=>if j=i then p else P j) a:=λa m hn=>sM a m λz=>hn (z▸hp);have pj:∀{j},S[j]?=some 2->P j≠p:=λ{j} hj z=>by obtain⟨_,o,e,_⟩:=R.act j hj;rw[z,hp]at e;cases e
 refine⟨R.same.trans s,by rw[S4,S4];exact R.len,λj y e=>?_,λj hj=>?_,λj k hj hk e=>?_,λh0 q hq=>?_,λa h=>let⟨o,e,n⟩:=R.exc a h;⟨o,s _ _ e,n⟩,λj hj=>?_⟩
 .by_cases hij:i=j
  .subst hij;have hl:i<ρ.length:=by
    have:=(N5.mp e).1
    rwa [S4]at this
   rw[O9 hl]at e;cases e;rw[O9 (by rw[R.len];exact hl),O9 hi];refine⟨.ref p,rfl,λ_=>⟨by simp,?_⟩,(λz=>by cases z),λz=>absurd rfl z⟩;simp only[if_true];exact hx.gen rfl Fr.refl λa m _=>sM a m.1 m.2
  .rw[O6 hij]at e;obtain⟨w,h1,h2,h3,h4⟩:=R.var j y e;rw[O6 hij,O6 hij];have nij:¬j=i:=λz=>hij z.symm;simp only[nij,if_false];exact⟨w,h1,λz=>⟨(h2 z).1,((h2 z).2.gen (H':=H) rfl Fr.refl sMH).same s⟩,λz=>((h3 z).sub (λ_ m _=>m) sMH).same s,λz z'=>((h4 z z').sub sMH).same s⟩
 .by_cases hij:j=i
  .subst hij;simp only[if_true];exact⟨s0,hx.some⟩
  .simp only[hij,if_false];obtain⟨g0,o,e,n⟩:=R.act j (hS hj hij);exact⟨g0,o,s _ _ e,n⟩
 .by_cases h1:j=i
  .by_cases h2:k=i
   .rw[h1,h2]
   .simp only[h1,h2,if_true,if_false]at e;exact absurd e.symm (pj (hS hk h2))
  .by_cases h2:k=i
   .simp only[h1,h2,if_true,if_false]at e;exact absurd e (pj (hS hj h1))
   .simp only[h1,h2,if_false]at e;exact R.inj j k (hS hj h1) (hS hk h2) e
 .rw[O6 hi0]at h0;rw[if_neg (λz=>hi0 z.symm)];exact R.pin h0 q hq
 .by_cases e:j=i
  .rw[if_pos e];exact λz=>by obtain⟨o,q,_⟩:=R.exc p z;rw[hp]at q;cases q
  .rw[if_neg e];exact R.axc j (hS hj e)
def Rel.freeze(R:Rel W B S P H σ ρ)(hi:S[i]?=some 2):Rel W B (S.set i 0) P H σ ρ:=by
 have sM:∀a,Mof B S P a->H a≠none->Mof B (S.set i 0) P a:=λa m _=>⟨m.1,λj hj=>m.2 j (yU (c:=0) hj).1⟩;refine⟨R.same,R.len,λj y e=>?_,λj hj=>R.act j (yU (c:=0) hj).1,λj k hj hk=>R.inj j k (yU (c:=0) hj).1 (yU (c:=0) hk).1,λh0=>R.pin (yU (c:=0) h0).1,R.exc,λj hj=>R.axc j (yU (c:=0) hj).1⟩;obtain⟨w,h1,h2,h3,h4⟩:=R.var j y e;by_cases hij:i=j
 .subst hij;obtain⟨rfl,ha⟩:=h2 hi;have hl:i<S.length:=(N5.mp hi).1;rw[O9 hl];refine⟨_,h1,(λz=>by cases z),(λz=>by cases z),λ_ _=>yX.iff.mp ((ha.gen (H':=H) rfl Fr.refl sM).Ey ⟨⟨.inr (R.act i hi).1,λz=>?_⟩,λj hj e=>?_⟩)⟩
  .exact R.axc i hi z
  obtain⟨g1,g2⟩:=yU (c:=0) hj;exact g2 (R.inj j i g1 hi e)
 .rw[O6 hij];exact⟨w,h1,λz=>⟨(h2 z).1,(h2 z).2.gen rfl Fr.refl sM⟩,λz=>(h3 z).sub (λ_ m _=>m) sM,λz z'=>(h4 z z').sub sM⟩
def Rel.wrx(R:Rel W B S P H σ ρ)(ha:B.xc a)(hn:¬Imm o):Rel W B S P (upd H a o) σ ρ:=by
 obtain⟨o0,e0,n0,h0⟩:=R.exc a ha;have fM:Fr (Mof B S P) H (upd H a o):=λc q e m=>by
  have:c≠a:=λz=>by
   rcases m with m|m
   .exact m.1.2 (z▸ha)
   .rw[z,e0]at e;cases e;exact n0 m
  rw[zg this];exact e
 have fN:Fr B.N0 H (upd H a o):=λc q e m=>by
  have:c≠a:=λz=>by
   rcases m with m|m
   .exact B.nz c m (z▸h0)
   .rw[z,e0]at e;cases e;exact n0 m
  rw[zg this];exact e
 have pa:∀{i},S[i]?=some 2->P i≠a:=λ{i} hi z=>R.axc i hi (z▸ha);refine⟨λc q e=>?_,R.len,λj x e=>?_,λj hj=>?_,R.inj,R.pin,λc h=>?_,R.axc⟩
 .have:c≠a:=λz=>by rw[z,h0]at e;cases e
  rw[zg this];exact R.same c q e
 .obtain⟨v,h1,h2,h3,h4⟩:=R.var j x e;exact⟨v,h1,λz=>⟨(h2 z).1,(h2 z).2.gen (zg (pa z)) fM λ_ m _=>m⟩,λz=>yX.gen fN fM (λ_ m _=>m) (λ_ m _=>m) (h3 z),λz z'=>Rep.gen fM (λ_ m _=>m) (h4 z z')⟩
 .obtain⟨g0,o1,e1,n1⟩:=R.act j hj;exact⟨g0,o1,by rw[zg (pa hj)];exact e1,n1⟩
 .by_cases e:c=a
  .subst e;exact⟨o,zd,hn,h0⟩
  .obtain⟨o1,e1,n1⟩:=R.exc c h;exact⟨o1,by rw[zg e];exact e1,n1⟩
abbrev ME:=Sto->Out PV
abbrev MT:=Sto->Out Bool
abbrev MA:=Sto->Out (List PV)
inductive Fw where
 |nx (ρ:Sto)|rt (x:PV)|bk (ρ:Sto)|ct (ρ:Sto)
abbrev MS:=Sto->Out Fw
def XPo(C:LC)(B:Bs)(c:Nat)(fs:Ic):Prop:=∀e dx es H2,zy B.H0 H2->H2 e=some (XC e (C.W.cls c) dx)->H2 dx=some (XD dx es)->wd C.W B.Mt H2 fs es->C.E (.ref e) (some dx) H2
def yj(C:LC)(B:Bs)(H:Hp)(R:Hp->PV->V->Prop)(Q:VK):Out PV->Prop
 |.ok r=>∀v H2,zy H H2->R H2 r v->Q v H2
 |.exc c fs=>XPo C B c fs
 |.wall=>False
def aQ(C:LC)(B:Bs)(H:Hp)(Q:Bool->Hp->Prop):Out Bool->Prop
 |.ok r=>∀H2,zy H H2->Q r H2
 |.exc c fs=>XPo C B c fs
 |.wall=>False
def RV(C:LC)(B:Bs)(S:Ht)(P:HK)(w:Bool)(H:Hp)(x:PV)(v:V):Prop:=yX C.W (if w=true then λ_=>True else Mof B S P) (Mof B S P) H x v
def RV.rep(h:RV C B S P false H x v):Rep C.W (Mof B S P) H x v:=yX.iff.mp h
def RV.of(h:Rep C.W (Mof B S P) H x v):RV C B S P false H x v:=yX.iff.mpr h
def RV.weak(h:RV C B S P w H x v):yX C.W (λ_=>True) (Mof B S P) H x v:=yX.sub h (λ_ _ _=>trivial) λ_ m _=>m
def RV.same(h:RV C B S P w H x v)(s:zy H H'):RV C B S P w H' x v:=yX.same h s
def LE(C:LC)(S:Ht)(w:Bool)(te:TE)(m:ME):Prop:=∀B P H σ ρ,Rel C.W B S P H σ ρ->∀Q,yj C B H (RV C B S P w) Q (m ρ)->te σ H Q
def LT(C:LC)(S:Ht)(tt:TT)(m:MT):Prop:=∀B P H σ ρ,Rel C.W B S P H σ ρ->∀Q,aQ C B H Q (m ρ)->tt σ H Q
def EM(X:Cx)(C:LC)(S:Ht)(w:Bool)(e:HJ)(m:ME):Prop:=X.K=C.W.K->∃te,PE X e te/\LE C S w te m
def TM(X:Cx)(C:LC)(S:Ht)(e:HJ)(m:MT):Prop:=X.K=C.W.K->∃tt,PT X e tt/\LT C S tt m
def TWM(X:Cx)(C:LC)(S:Ht)(e:HJ)(m:MT):Prop:=X.K=C.W.K->∃tt,PW X e tt/\LT C S tt m
def yj.bind(h:yj C B H R Q (o.bind f))(k:∀r,o=.ok r->∀v H2,zy H H2->R0 H2 r v->yj C B H2 R Q (f r)->Q' v H2)(hR:∀H2,zy H H2->∀x v,R H2 x v->R H2 x v):yj C B H R0 Q' o:=by
 cases o with
 |ok r=>exact λv H2 s hr=>k r rfl v H2 s hr (by
   show yj C B H2 R Q (f r);have h:yj C B H R Q (f r):=h;revert h;cases f r with
   |ok x=>exact λh v H3 s3 hx=>h v H3 (s.trans s3) hx
   |exc c fs=>exact id
   |wall=>exact id)
 |exc c fs=>exact h
 |wall=>exact h
def qd(h:yj C B H R Q (o.bind f))(k:∀r v H2,zy H H2->R0 H2 r v->yj C B H2 R Q (f r)->Q' v H2):yj C B H R0 Q' o:=
 yj.bind h (λr _ v H2 s hr hp=>k r v H2 s hr hp) λ_ _ _ _ h=>h
def YG(h:yj C B H R Q o)(s:zy H H2):yj C B H2 R Q o:=by
 cases o with
 |ok x=>exact λv H3 s3 hx=>h v H3 (s.trans s3) hx
 |exc c fs=>exact h
 |wall=>exact h
def VL(h:aQ C B H Q o)(s:zy H H2):aQ C B H2 Q o:=by
 cases o with
 |ok x=>exact λH3 s3=>h H3 (s.trans s3)
 |exc c fs=>exact h
 |wall=>exact h
def gD(h:aQ C B H Q (o.bind f))(k:∀r v H2,zy H H2->R0 H2 r v->aQ C B H2 Q (f r)->Q' v H2):yj C B H R0 Q' o:=by
 cases o with
 |ok r=>exact λv H2 s hr=>k r v H2 s hr (VL (o:=f r) h s)
 |exc c fs=>exact h
 |wall=>exact h
def Qo(h:aQ C B H Q (o.bind f))(k:∀r H2,zy H H2->aQ C B H2 Q (f r)->Q' r H2):aQ C B H Q' o:=by
 cases o with
 |ok r=>exact λH2 s=>k r H2 s (VL (o:=f r) h s)
 |exc c fs=>exact h
 |wall=>exact h
def zc(i:Nat):ME:=λρ=>match ρ[i]? with|some (some x)=>.ok x|_=>.wall
def mC(x:PV):ME:=λ_=>.ok x
section
variable {X:Cx}{C:LC}{S:Ht}{e a b:HJ}{w w1 w2:Bool}{m m1 m2:ME}{t1 t2:MT}
def EM.weak(h:EM X C S w e m):EM X C S true e m:=λhK=>by
 obtain⟨te,h1,h2⟩:=h hK;refine⟨te,h1,λB P H σ ρ R Q q=>h2 B P H σ ρ R Q ?_⟩;revert q;cases m ρ with
 |ok r=>exact λq v H2 s hr=>q v H2 s (by unfold RV;rw[if_pos rfl];exact hr.weak)
 |exc c fs=>exact id
 |wall=>exact id
def lv(R:Rel C.W B S P H σ ρ)(q:yj C B H R' Q (zc i ρ))(k:∀x v,σ[i]?=some (some v)->ρ[i]?=some (some x)->R' H x v):XZ i σ H Q:=by
 unfold zc at q;cases e:ρ[i]? with
 |none=>rw[e]at q;exact q.elim
 |some o=>
  cases o with
  |none=>rw[e]at q;exact q.elim
  |some x=>rw[e]at q;obtain⟨v,hv,_⟩:=R.var i x e;exact⟨v,hv,q v H (zy.refl _) (k x v hv e)⟩
def zQ(h:PE X e (XZ i))(hS:S[i]?≠some 2/\S[i]?≠some 1:=by decide):EM X C S false e (zc i):=λ_=>⟨_,h,λB P H σ ρ R Q q=>lv R q λx v hv e=>by
 obtain⟨v',hv',_,_,h4⟩:=R.var i x e;rw[hv]at hv';cases hv';exact RV.of (h4 hS.1 hS.2)⟩
def Cr(h:PE X e (XZ i)):EM X C S true e (zc i):=λ_=>⟨_,h,λB P H σ ρ R Q q=>lv R q λx v hv e=>by
 obtain⟨v',hv',h2,h3,h4⟩:=R.var i x e;rw[hv]at hv';cases hv';show yX C.W (if true=true then _ else _) _ _ _ _;rw[if_pos rfl];by_cases c2:S[i]?=some 2
 .obtain⟨rfl,z⟩:=h2 c2;exact z.Ey trivial
 .by_cases c1:S[i]?=some 1
  .exact(h3 c1).sub (λ_ _ _=>trivial) λ_ m _=>m
  .exact(h4 c2 c1).weak⟩
def Ez(h:PE X e (tC v))(hx:∀M H,Rep C.W M H x v):EM X C S false e (mC x):=λ_=>⟨_,h,λB P H σ ρ R Q q=>q v H (zy.refl _) (RV.of (hx _ _))⟩
def Kj(h:PE X e (tC (.int i))):EM X C S false e (mC (.i i)):=Ez h λ_ _=>rfl
def yt(h:PE X e (tC (.str i))):EM X C S false e (mC (.s i)):=Ez h λ_ _=>rfl
def QW(h:PE X e (tC (.bl i))):EM X C S false e (mC (.b i)):=Ez h λ_ _=>rfl
def VM(h:PE X e (tC .non)):EM X C S false e (mC .n):=Ez h λ_ _=>rfl
def mOp(p:PV->PV->Out PV)(m1 m2:ME):ME:=λρ=>(m1 ρ).bind λx=>(m2 ρ).bind λy=>p x y
def mUn(p:PV->Out PV)(m1:ME):ME:=λρ=>(m1 ρ).bind p
def New(M:Hz)(H:Hp):Prop:=∀p,H p=none->M p
def Rel.new(R:Rel W B S P H σ ρ):New (Mof B S P) H:=λp h=>⟨⟨.inr (zy.none R.same h),λz=>by obtain⟨o,q,_⟩:=R.exc p z;rw[h]at q;cases q⟩,λi hi e=>by obtain⟨_,o,q,_⟩:=R.act i hi;rw[e,h]at q;cases q⟩
def RV.eq:RV C B S P false=Rep C.W (Mof B S P):=by
 funext H x v;exact propext yX.iff
def Lf2(W:RC)(r:R2)(p:PV->PV->Out PV):Prop:=∀(M:Hz)(C:LC)(B:Bs) H x y v u Q,New M H->yX W (λ_=>True) M H x v->yX W (λ_=>True) M H y u->yj C B H (Rep W M) Q (p x y)->r v u H Q
def Lf1(W:RC)(r:V->Hp->VK->Prop)(p:PV->Out PV):Prop:=∀(M:Hz)(C:LC)(B:Bs) H x v Q,New M H->yX W (λ_=>True) M H x v->yj C B H (Rep W M) Q (p x)->r v H Q
def pK(L:Lf2 C.W r p)(h1:LE C S w1 ta m1)(h2:LE C S w2 tb m2):LE C S false (tOp r ta tb) (mOp p m1 m2):=λB P H σ ρ R Q q=>
 h1 B P H σ ρ R _ (qd q λx v H1 s1 r1 q1=>h2 B P H1 σ ρ (R.keep s1) _ (qd q1 λy u H2 s2 r2 q2=>L _ C B H2 x y v u Q ((R.keep s1).keep s2).new (r1.same s2).weak r2.weak (RV.eq▸q2)))
def zI(o:OpR X (binaryOp op) r)(L:Lf2 C.W r p)(h1:EM X C S w1 a m1)(h2:EM X C S w2 b m2):EM X C S false (.BinOp a op b pos) (mOp p m1 m2):=λhK=>by obtain⟨ta,a1,a2⟩:=h1 hK;obtain⟨tb,b1,b2⟩:=h2 hK;exact⟨_,E7 o a1 b1,pK L a2 b2⟩
def lh(o:UnR X (unaryOp op) r)(L:Lf1 C.W r p)(h1:EM X C S w1 a m1):EM X C S false (.UnaryOp op a pos) (mUn p m1):=λhK=>by obtain⟨ta,a1,a2⟩:=h1 hK;exact⟨_,E8 o a1,λB P H σ ρ R Q q=>a2 B P H σ ρ R _ (qd q λx v H1 s1 r1 q1=>L _ C B H1 x v Q (R.keep s1).new r1.weak (RV.eq▸q1))⟩
def Xl(o:OpR X (compareOp op) r)(L:Lf2 C.W r p)(h1:EM X C S w1 a m1)(h2:EM X C S w2 b m2)(hm:behindInMarks op b=false):EM X C S false (.Compare a [op] [b] pos) (mOp p m1 m2):=λhK=>by obtain⟨ta,a1,a2⟩:=h1 hK;obtain⟨tb,b1,b2⟩:=h2 hK;exact⟨_,u9 o a1 b1 hm,pK L a2 b2⟩
def asB:PV->Out Bool
 |.b c=>.ok c
 |_=>.wall
def zT(m:ME):MT:=λρ=>(m ρ).bind asB
def lj(h:LE C S w te m):LT C S (BL te) (zT m):=λB P H σ ρ R Q q=>
 h B P H σ ρ R _ (gD q λx v H1 s1 r1 q1=>by
  cases x with
  |b c=>exact⟨c,(show v=.bl c from r1),q1 H1 (zy.refl _)⟩
  |_=>exact q1.elim)
def z_(o:OpR X (compareOp op) r)(L:Lf2 C.W r p)(h1:EM X C S w1 a m1)(h2:EM X C S w2 b m2)(hm:behindInMarks op b=false):TM X C S (.Compare a [op] [b] pos) (zT (mOp p m1 m2)):=λhK=>by obtain⟨ta,a1,a2⟩:=h1 hK;obtain⟨tb,b1,b2⟩:=h2 hK;exact⟨_,u_ o a1 b1 hm,lj (pK L a2 b2)⟩
variable {c:HJ}{w3:Bool}{m3:ME}
end
def pI(g:Int->Int->PV):PV->PV->Out PV
 |.i a,.i b=>.ok (g a b)
 |_,_=>.wall
def pU(g:Int->PV):PV->Out PV
 |.i a=>.ok (g a)
 |_=>.wall
def EA(hg:∀a b M H,Rep W M H (g a b) (gv a b)):Lf2 W (rI0 gv) (pI g):=λM C B H x y v u Q hM hx hy q=>by
 cases x with
 |i a=>
  cases y with
  |i b=>exact⟨a,b,hx,hy,q _ H (zy.refl _) (hg a b _ _)⟩
  |_=>exact q.elim
 |_=>exact q.elim
def Hd(hg:∀a M H,Rep W M H (g a) (gv a)):Lf1 W (rU gv) (pU g):=λM C B H x v Q hM hx q=>by
 cases x with
 |i a=>exact⟨a,hx,q _ H (zy.refl _) (hg a _ _)⟩
 |_=>exact q.elim
abbrev cN:=pI λa b=>.i (a-b)
abbrev pLt:=pI λa b=>.b (decide (a<b))
abbrev pLe:=pI λa b=>.b (decide (a<=b))
abbrev pGt:=pI λa b=>.b (decide (b<a))
abbrev pL:=pU λa=>.i (-a)
def Kk:Lf2 W (rI0 λi j=>.int (i-j)) cN:=EA λ_ _ _ _=>rfl
def aR:Lf1 W (rU λi=>.int (-i)) pL:=Hd λ_ _ _=>rfl
section
variable {W:RC}{M:Hz}{H:Hp}
def zX.nil:zX W M H [] []:=rfl
def zX.cons(h:Rep W M H x v)(t:zX W M H xs vs):zX W M H (x::xs) (v::vs):=⟨v,vs,rfl,h,t⟩
def zX.len:∀{xs:HW}{vs:HF},zX W M H xs vs->vs.length=xs.length
 |[],_,h=>by cases(show _=_ from h);rfl
 |x::xs,_,h=>by obtain⟨v,r,rfl,_,h2⟩:=h;rw[v4,v4,zX.len h2]
def zX.get:∀{xs:HW}{vs:HF}{i:Nat}{x:PV},zX W M H xs vs->xs[i]?=some x->∃v,vs[i]?=some v/\Rep W M H x v
 |[],_,_,_,_,e=>by simp at e
 |x::xs,_,0,y,h,e=>by obtain⟨v,r,rfl,h1,h2⟩:=h;simp at e;subst e;exact⟨v,rfl,h1⟩
 |x::xs,_,i+1,y,h,e=>by obtain⟨v,r,rfl,h1,h2⟩:=h;simp only[List.getElem?_cons_succ]at e ⊢;exact zX.get h2 e
def zX.Bm:∀{xs:HW}{vs:HF}{i:Nat}{v:V},zX W M H xs vs->vs[i]?=some v->∃x,xs[i]?=some x/\Rep W M H x v
 |[],_,_,_,h,e=>by cases(show _=_ from h);simp at e
 |x::xs,_,0,y,h,e=>by obtain⟨v,r,rfl,h1,h2⟩:=h;simp at e;subst e;exact⟨x,rfl,h1⟩
 |x::xs,_,i+1,y,h,e=>by obtain⟨v,r,rfl,h1,h2⟩:=h;simp only[List.getElem?_cons_succ]at e ⊢;exact zX.Bm h2 e
def zX.append:∀{xs ys:HW}{vs us:HF},zX W M H xs vs->zX W M H ys us->zX W M H (xs++ys) (vs++us)
 |[],_,_,_,h,k=>by cases(show _=_ from h);exact k
 |x::xs,_,_,_,h,k=>by obtain⟨v,r,rfl,h1,h2⟩:=h;exact⟨v,_,rfl,h1,zX.append h2 k⟩
def zX.take:∀{xs:HW}{vs:HF}(n:Nat),zX W M H xs vs->zX W M H (xs.take n) (vs.take n)
 |[],_,_,h=>by cases(show _=_ from h);simp;exact zX.nil
 |x::xs,_,0,h=>zX.nil
 |x::xs,_,n+1,h=>by obtain⟨v,r,rfl,h1,h2⟩:=h;exact⟨v,_,rfl,h1,zX.take n h2⟩
def zX.drop:∀{xs:HW}{vs:HF}(n:Nat),zX W M H xs vs->zX W M H (xs.drop n) (vs.drop n)
 |[],_,_,h=>by cases(show _=_ from h);simp;exact zX.nil
 |x::xs,_,0,h=>h
 |x::xs,_,n+1,h=>by obtain⟨v,r,rfl,h1,h2⟩:=h;exact zX.drop n h2
def zX.set{x:PV}{v:V}(hx:Rep W M H x v):∀{xs:HW}{vs:HF}(n:Nat),zX W M H xs vs->zX W M H (xs.set n x) (vs.set n v)
 |[],_,_,h=>by cases(show _=_ from h);simp;exact zX.nil
 |y::xs,_,0,h=>by obtain⟨v,r,rfl,h1,h2⟩:=h;exact⟨_,_,rfl,hx,h2⟩
 |y::xs,_,n+1,h=>by obtain⟨v,r,rfl,h1,h2⟩:=h;exact⟨v,_,rfl,h1,zX.set hx n h2⟩
def zX.ints:∀{ns:HY},zX W M H (ns.map PV.i) (ns.map V.int)
 |[]=>rfl
 |n::ns=>⟨_,_,rfl,rfl,zX.ints⟩
def zX.at(h:zX W M H xs vs)(e:atI xs i=some x):∃v,atI vs i=some v/\Rep W M H x v:=by
 unfold atI at e ⊢;rw[h.len];cases q:ixN xs.length i with
 |none=>rw[q]at e;cases e
 |some j=>rw[q]at e;exact h.get e
def zX.cut{xs:HW}{vs:HF}{lo hi:IA}(h:zX W M H xs vs):zX W M H ((xs.drop (HT.sIx xs.length 0 lo)).take (HT.sIx xs.length xs.length hi-HT.sIx xs.length 0 lo)) (o_ vs lo hi):=by unfold o_;rw[h.len];exact(h.drop _).take _
def qx.iff:∀{kvs:HZ}{es:HL},qx W M H kvs es↔es.map (·.1)=kvs.map (·.1)/\zX W M H (kvs.map (·.2)) (es.map (·.2))
 |[],es=>⟨λh=>by cases(show _=_ from h);exact⟨rfl,rfl⟩,λh=>by cases es with|nil=>rfl|cons a r=>cases h.1⟩
 |kx::r,es=>by
  constructor
  .rintro ⟨v,q,rfl,h1,h2⟩
   obtain⟨e,t⟩:=qx.iff.mp h2;exact⟨by simp only[List.map_cons,e],v,_,rfl,h1,t⟩
  .rintro ⟨e,v,q,e2,h1,h2⟩
   cases es with
   |nil=>cases e2
   |cons a es=>simp only[List.map_cons,List.cons.injEq]at e e2;refine⟨a.2,es,by rw[<- e.1],by rw[e2.1];exact h1,qx.iff.mpr ⟨e.2,by rw[e2.2];exact h2⟩⟩
def wd.lookup:∀{kvs:Ic}{es:Ip}{f:Str}{x:PV},wd W M H kvs es->kvs.lookup f=some x->∃v,es.lookup f=some v/\Rep W M H x v
 |[],_,_,_,_,e=>by cases e
 |kx::r,_,f,x,h,e=>by
  obtain⟨v,q,rfl,h1,h2⟩:=h;rw[S8]at e ⊢;by_cases c:(f==kx.1)=true
  .simp only[c]at e ⊢;cases e;exact⟨v,rfl,h1⟩
  .simp only[c]at e ⊢;exact wd.lookup h2 e
def ll(n:New M H)(hp:H p=none)(h:zX W M H xs vs):Rep W M (upd H p (.lst vs)) (.l xs) (.ref p):=⟨p,vs,rfl,n p hp,zd,h.same (zy.upd hp)⟩
def xy(hp:H p=none)(h:zX W M H xs vs):Rep W M (upd H p (.tup vs)) (.t xs) (.ref p):=⟨p,vs,rfl,SqT.of zd,h.same (zy.upd hp)⟩
end
def Cs:R2:=λx y H Q=>(rI0 (λi j=>.int (i+j)) x y H Q\/∃i j,x=.str i/\y=.str j/\i.length+j.length<=sizeLine/\Q (.str (i++j)) H)\/Gj x y H Q
def zF:OpR X (binaryOp .Add) Cs:=(BH.or gi).or BX
def zG:PV->PV->Out PV
 |.i a,.i b=>.ok (.i (a+b))
 |.s a,.s b=>if a.length+b.length<=sizeLine then .ok (.s (a++b))else .wall
 |.l a,.l b=>if a.length+b.length<=sizeLine then .ok (.l (a++b))else .wall
 |_,_=>.wall
def zH:Lf2 W Cs zG:=λM C B H x y v u Q n hx hy q=>by
 unfold zG at q;split at q
 .exact .inl (.inl ⟨_,_,hx,hy,q _ H (zy.refl _) rfl⟩)
 .split at q
  .rename_i h;exact .inl (.inr ⟨_,_,hx,hy,h,q _ H (zy.refl _) rfl⟩)
  .exact q.elim
 .split at q
  .rename_i h;obtain⟨p,vs,rfl,_,e,r⟩:=hx;obtain⟨p',vs',rfl,_,e',r'⟩:=hy;exact .inr ⟨p,p',vs,vs',rfl,rfl,e,e',by rw[r.len,r'.len];exact h,λz hz=>q _ _ (zy.upd hz) (ll n hz (r.append r'))⟩
  .exact q.elim
 .exact q.elim
def Ct:R2:=λx y H Q=>(rI o8 (λi j=>.int (i*j)) x y H Q\/rI pD (λi j=>.int (i*j)) x y H Q)\/(Cm x y H Q\/Gk x y H Q)
def qH:OpR X (binaryOp .Mult) Ct:=(BI.or xp).or (gA.or BY)
instance{i j:Int}:Decidable (o8 i j):=by unfold o8;infer_instance
instance{i j:Int}:Decidable (Bj i j):=by unfold Bj;infer_instance
instance{i j:Int}:Decidable (Bk i j):=by unfold Bk;infer_instance
def qe:PV->PV->Out PV
 |.i a,.i b=>if o8 a b\/(a.natAbs<2 ^ 8192/\b.natAbs<2 ^ 8192)then .ok (.i (a*b))else .wall
 |.s a,.i b=>if a.length<=16/\-2 ^ 63<=b/\b<=1048576 then .ok (.s (Txt.mul a b))else .wall
 |.l a,.i b=>if -(2 ^ 63)<=b/\b<2 ^ 63/\a.length*b.toNat<=sizeLine then .ok (.l (List.replicate b.toNat a).flatten)else .wall
 |_,_=>.wall
def zX.rep{W:RC}{M:Hz}{H:Hp}{xs:HW}{vs:HF}(h:zX W M H xs vs):∀n,zX W M H (List.replicate n xs).flatten (List.replicate n vs).flatten
 |0=>rfl
 |n+1=>by rw[a0p,a0p,a0E,a0E];exact h.append (h.rep n)
def qI:Lf2 W Ct qe:=λM C B H x y v u Q n hx hy q=>by
 unfold qe at q;split at q
 .split at q
  .rename_i h;rcases h with h|h
   .exact .inl (.inl ⟨_,_,hx,hy,h,q _ H (zy.refl _) rfl⟩)
   .exact .inl (.inr ⟨_,_,hx,hy,h,q _ H (zy.refl _) rfl⟩)
  .exact q.elim
 .split at q
  .rename_i h;exact .inr (.inl ⟨_,_,hx,hy,h.1,h.2.1,h.2.2,q _ H (zy.refl _) rfl⟩)
  .exact q.elim
 .split at q
  .rename_i h;obtain⟨p,vs,rfl,_,e,r⟩:=hx;exact .inr (.inr ⟨p,_,vs,rfl,hy,e,h.1,h.2.1,by rw[r.len];exact h.2.2,λz hz=>q _ _ (zy.upd hz) (ll n hz (r.rep _))⟩)
  .exact q.elim
 .exact q.elim
def Cu:R2:=λx y H Q=>rI Bj (λi j=>.int (i / j)) x y H Q\/rI Cn (λi j=>.int (i.fdiv j)) x y H Q
def lq:OpR X (binaryOp .FloorDiv) Cu:=u6.or pH
def aS:PV->PV->Out PV
 |.i a,.i b=>if Bj a b then .ok (.i (a / b))else if b≠0/\b.natAbs<2 ^ 8192 then .ok (.i (a.fdiv b))else .wall
 |_,_=>.wall
def lz:Lf2 W Cu aS:=λM C B H x y v u Q n hx hy q=>by
 unfold aS at q;split at q
 .split at q
  .rename_i h;exact .inl ⟨_,_,hx,hy,h,q _ H (zy.refl _) rfl⟩
  .split at q
   .rename_i h;exact .inr ⟨_,_,hx,hy,h,q _ H (zy.refl _) rfl⟩
   .exact q.elim
 .exact q.elim
def Cv:R2:=λx y H Q=>rI (λ_ j=>0<j) (λi j=>.int (i % j)) x y H Q\/rI (λ_ j=>j≠0) (λi j=>.int (i.fmod j)) x y H Q
def Qp:OpR X (binaryOp .Mod) Cv:=BJ.or u7
def JM:PV->PV->Out PV
 |.i a,.i b=>if 0<b then .ok (.i (a % b))else if b≠0 then .ok (.i (a.fmod b))else .wall
 |_,_=>.wall
def Qq:Lf2 W Cv JM:=λM C B H x y v u Q n hx hy q=>by
 unfold JM at q;split at q
 .split at q
  .rename_i h;exact .inl ⟨_,_,hx,hy,h,q _ H (zy.refl _) rfl⟩
  .split at q
   .rename_i h;exact .inr ⟨_,_,hx,hy,h,q _ H (zy.refl _) rfl⟩
   .exact q.elim
 .exact q.elim
def qU:PV->PV->Out PV
 |.i a,.i b=>if Bk a b then .ok (.i (a ^ b.toNat))else .wall
 |_,_=>.wall
def wB:Lf2 W (rI Bk λi j=>.int (i ^ j.toNat)) qU:=λM C B H x y v u Q n hx hy q=>by
 unfold qU at q;split at q
 .split at q
  .rename_i h;exact⟨_,_,hx,hy,h,q _ H (zy.refl _) rfl⟩
  .exact q.elim
 .exact q.elim
def cO:Lf2 W (rI0 λi j=>.bl (decide (i<j))) pLt:=EA λ_ _ _ _=>rfl
def aT:Lf2 W (rI0 λi j=>.bl (decide (i<=j))) pLe:=EA λ_ _ _ _=>rfl
def YS:Lf2 W (rI0 λi j=>.bl (decide (j<i))) pGt:=EA λ_ _ _ _=>rfl
def isN:PV->Bool
 |.n=>true
 |_=>false
def oQ(neg:Bool):PV->PV->Out PV
 |x,.n=>.ok (.b (xor neg (isN x)))
 |_,_=>.wall
def Cw(h:yX W N M H x v):decide (v=.non)=isN x:=by
 cases x with
 |n=>cases(show v=_ from h);rfl
 |i a=>cases(show v=_ from h);rfl
 |s a=>cases(show v=_ from h);rfl
 |b a=>cases(show v=_ from h);rfl
 |l a=>obtain⟨p,_,rfl,_⟩:=h;rfl
 |t a=>obtain⟨p,_,rfl,_⟩:=h;rfl
 |d a=>obtain⟨p,_,rfl,_⟩:=h;rfl
 |o c a=>obtain⟨p,_,_,rfl,_⟩:=h;rfl
 |x c a=>obtain⟨p,_,_,rfl,_⟩:=h;rfl
 |sc a=>obtain⟨p,rfl,_⟩:=h;rfl
 |dt a=>obtain⟨p,rfl,_⟩:=h;rfl
def Cy:Lf2 W (λx y H Q=>y=.non/\Q (.bl (decide (x=.non))) H) (oQ false):=λM C B H x y v u Q n hx hy q=>by
 unfold oQ at q;split at q
 .refine⟨hy,?_⟩;rw[Cw hx];exact q _ H (zy.refl _) (by rw[a0x];rfl)
 .exact q.elim
def cQ:Lf2 W (λx y H Q=>y=.non/\Q (.bl (!decide (x=.non))) H) (oQ true):=λM C B H x y v u Q n hx hy q=>by
 unfold oQ at q;split at q
 .refine⟨hy,?_⟩;rw[Cw hx];exact q _ H (zy.refl _) (by rw[a1m];rfl)
 .exact q.elim
def eB.rk(e:Rd H a (.dK kvs)):eB H a (kV k) (Xj kvs k):=.inl ⟨kvs,k,e,rfl,rfl⟩
def RFr(W:RC)(M:Hz)(H:Hp)(H2:Hp)(x:PV)(v:V):Prop:=∃p,v=.ref p/\H p=none/\WO W (λa=>M a/\a≠p) H2 p x
def RFr.rep(n:New M H)(h:RFr W M H H2 x v):Rep W M H2 x v:=by obtain⟨p,rfl,hp,h⟩:=h;exact yX.iff.mp ((h.Ey (N:=M) (n p hp)).sub (λ_ m _=>m) λ_ m _=>m.1)
def LFr(C:LC)(S:Ht)(te:TE)(m:ME):Prop:=∀B P H σ ρ,Rel C.W B S P H σ ρ->∀Q,yj C B H (RFr C.W (Mof B S P) H) Q (m ρ)->te σ H Q
def FM(X:Cx)(C:LC)(S:Ht)(e:HJ)(m:ME):Prop:=X.K=C.W.K->∃te,PE X e te/\LFr C S te m
def ZV(h:yj C B H R Q o)(k:∀x v H2,zy H H2->R' H2 x v->R H2 x v):yj C B H R' Q o:=by
 cases o with
 |ok r=>exact λv H2 s hr=>h v H2 s (k _ _ _ s hr)
 |exc c fs=>exact h
 |wall=>exact h
def FM.em(h:FM X C S e m):EM X C S false e m:=λhK=>by obtain⟨te,h1,h2⟩:=h hK;exact⟨te,h1,λB P H σ ρ R Q q=>h2 B P H σ ρ R Q (ZV q λx v H2 s hr=>RV.of (hr.rep R.new))⟩
def RVs(C:LC)(B:Bs)(S:Ht)(P:HK)(H:Hp):List Bool->List PV->List V->Prop
 |[],xs,vs=>xs=[]/\vs=[]
 |w::ws,xs,vs=>∃x v xr vr,xs=x::xr/\vs=v::vr/\RV C B S P w H x v/\RVs C B S P H ws xr vr
def gE(C:LC)(B:Bs)(H:Hp)(R:Hp->List PV->List V->Prop)(Q:List V->Hp->Prop):Out (List PV)->Prop
 |.ok r=>∀v H2,zy H H2->R H2 r v->Q v H2
 |.exc c fs=>XPo C B c fs
 |.wall=>False
def LA(C:LC)(S:Ht)(ws:HI)(ta:TA)(m:MA):Prop:=∀B P H σ ρ,Rel C.W B S P H σ ρ->∀Q,gE C B H (λH2=>RVs C B S P H2 ws) Q (m ρ)->ta σ H Q
def AM(X:Cx)(C:LC)(S:Ht)(ws:HI)(es:HD)(m:MA):Prop:=X.K=C.W.K->∃ta,PA X es ta/\LA C S ws ta m
def zm:MA:=λ_=>.ok []
def zb(m:ME)(ms:MA):MA:=λρ=>(m ρ).bind λx=>(ms ρ).bind λxs=>.ok (x::xs)
def gF{α:Type}{f:PV->Out α}{T:Hp->Out α->Prop}(hT:∀H H2 o,zy H H2->T H o->T H2 o)(hx:∀c fs,T H (.exc c fs)->XPo C B c fs)(hw:T H .wall->False)
  (h:T H (o.bind f)) (k:∀r v H2,zy H H2->R H2 r v->T H2 (f r)->Q' v H2):yj C B H R Q' o:=by
 cases o with
 |ok r=>exact λv H2 s hr=>k r v H2 s hr (hT _ _ _ s h)
 |exc c fs=>exact hx _ _ h
 |wall=>exact hw h
def cR(s:zy H H2)(h:gE C B H R Q o):gE C B H2 R Q o:=by
 cases o with
 |ok x=>exact λv H3 s3 hx=>h v H3 (s.trans s3) hx
 |exc c fs=>exact h
 |wall=>exact h
def wC(h:yj C B H R Q (o.bind f))(k:∀r v H2,zy H H2->R' H2 r v->yj C B H2 R Q (f r)->Q' v H2):gE C B H R' Q' o:=by
 cases o with
 |ok r=>exact λv H2 s hr=>k r v H2 s hr (YG (o:=f r) h s)
 |exc c fs=>exact h
 |wall=>exact h
section
variable {X:Cx}{C:LC}{S:Ht}{e a b:HJ}{es:HD}{w w1 w2:Bool}{ws:HI}{m m1 m2:ME}{ms:MA}{t1 t2:MT}{pos:Pos}
def ze:AM X C S [] [] zm:=λ_=>⟨_,Xh,λB P H σ ρ R Q q=>q [] H (zy.refl _) ⟨rfl,rfl⟩⟩
def za(h:EM X C S w e m)(hr:AM X C S ws es ms)(hs:starEach (e::es) X.env=(false,eval e X.env)::starEach es X.env:=by rfl):AM X C S (w::ws) (e::es) (zb m ms):=λhK=>by
 obtain⟨te,a1,a2⟩:=h hK;obtain⟨ta,b1,b2⟩:=hr hK;refine⟨_,Qn a1 b1 hs,λB P H σ ρ R Q q=>a2 B P H σ ρ R _ (gF (T:=λH o=>gE C B H (λH2=>RVs C B S P H2 (w::ws)) Q o) (λ_ _ _ s h=>cR s h) (λ_ _ h=>h) (λh=>h) q λx v H1 s1 r1 q1=>?_)⟩;refine b2 B P H1 σ ρ (R.keep s1) _ ?_;revert q1;cases ms ρ with
 |ok xs=>exact λq1 vs H2 s2 r2=>q1 (v::vs) H2 s2 ⟨x,v,xs,vs,rfl,rfl,r1.same s2,r2⟩
 |exc c fs=>exact id
 |wall=>exact id
def RVs.EB{B:Bs}{P:HK}{H:Hp}:∀{ws:HI}{xs:HW}{vs:HF},RVs C B S P H ws xs vs->ws.all (!·)=true->zX C.W (Mof B S P) H xs vs
 |[],_,_,⟨e1,e2⟩,_=>by subst e1;subst e2;rfl
 |w::ws,_,_,⟨x,v,xr,vr,e1,e2,h1,h2⟩,hw=>by subst e1;subst e2;simp only[List.all_cons,Bool.and_eq_true,Bool.not_eq_true']at hw;rw[hw.1]at h1;exact⟨v,vr,rfl,h1.rep,RVs.EB h2 hw.2⟩
def Kl(ms:MA):ME:=λρ=>(ms ρ).bind λxs=>if xs.length<=sizeLine then .ok (.l xs)else .wall
def wD(ms:MA):ME:=λρ=>(ms ρ).bind λxs=>if xs.length<=sizeLine then .ok (.t xs)else .wall
def kC(h:AM X C S ws es ms)(hw:ws.all (!·)=true:=by rfl):FM X C S (.List es pos) (Kl ms):=λhK=>by
 obtain⟨ta,a1,a2⟩:=h hK;refine⟨_,BM a1,λB P H σ ρ R Q q=>a2 B P H σ ρ R _ (wC q λxs vs H1 s1 r1 q1=>?_)⟩;have rs:=r1.EB hw;split at q1
 .rename_i hl;exact⟨by rw[rs.len];exact hl,λp hp=>q1 _ _ (zy.upd hp) ⟨p,rfl,zy.none s1 hp,vs,zd,(rs.sub λa m n=>⟨m,λz=>n (z▸hp)⟩).same (zy.upd hp)⟩⟩
 .exact q1.elim
def yR{x1}(h:AM X C S ws es ms)(hw:ws.all (!·)=true:=by rfl):EM X C S false (.Tuple es x1 pos) (wD ms):=λhK=>by
 obtain⟨ta,a1,a2⟩:=h hK;refine⟨_,tF a1,λB P H σ ρ R Q q=>a2 B P H σ ρ R _ (wC q λxs vs H1 s1 r1 q1=>?_)⟩;have rs:=r1.EB hw;split at q1
 .rename_i hl;exact⟨by rw[rs.len];exact hl,λp hp=>q1 _ _ (zy.upd hp) (RV.of (xy hp rs))⟩
 .exact q1.elim
def lA(t u:MT):MT:=λρ=>(t ρ).bind λc=>if c=true then u ρ else .ok false
def mOr(t u:MT):MT:=λρ=>(t ρ).bind λc=>if c=true then .ok true else u ρ
def gG(t:MT):MT:=λρ=>(t ρ).bind λc=>.ok (!c)
def Uc(m1 m2:ME):ME:=λρ=>(m1 ρ).bind λx=>(asB x).bind λc=>if c=true then m2 ρ else .ok (.b false)
def Cz(m1:ME):ME:=λρ=>(m1 ρ).bind λx=>(asB x).bind λc=>.ok (.b (!c))
def TWM.tm(h:TWM X C S e t1):TM X C S e t1:=λhK=>let⟨tt,a1,a2⟩:=h hK;⟨tt,a1.pt,a2⟩
def Ud(h:TM X C S a t1):TWM X C S (.BoolOp .And [a] pos) t1:=λhK=>let⟨tt,a1,a2⟩:=h hK;⟨tt,pw_and1 a1,a2⟩
def kD(h:TM X C S a t1):TWM X C S (.BoolOp .Or [a] pos) t1:=λhK=>let⟨tt,a1,a2⟩:=h hK;⟨tt,pw_or1 a1,a2⟩
variable {rest:HD}
def eN(h:TM X C S a t1)(h2:TWM X C S (.BoolOp .And (b::rest) pos) t2):TWM X C S (.BoolOp .And (a::b::rest) pos) (lA t1 t2):=λhK=>by
 obtain⟨tt,a1,a2⟩:=h hK;obtain⟨tu,b1,b2⟩:=h2 hK;refine⟨_,pw_and a1 b1,λB P H σ ρ R Q q=>a2 B P H σ ρ R _ (Qo q λc H1 s1 q1=>?_)⟩;cases c with
 |true=>exact B8 (b2 B P H1 σ ρ (R.keep s1) _ q1)
 |false=>exact B7 (q1 H1 (zy.refl _))
def ZL(h:TM X C S a t1)(h2:TWM X C S (.BoolOp .Or (b::rest) pos) t2):TWM X C S (.BoolOp .Or (a::b::rest) pos) (mOr t1 t2):=λhK=>by
 obtain⟨tt,a1,a2⟩:=h hK;obtain⟨tu,b1,b2⟩:=h2 hK;refine⟨_,pw_or a1 b1,λB P H σ ρ R Q q=>a2 B P H σ ρ R _ (Qo q λc H1 s1 q1=>?_)⟩;cases c with
 |true=>exact B8 (q1 H1 (zy.refl _))
 |false=>exact B7 (b2 B P H1 σ ρ (R.keep s1) _ q1)
def Xm(h:TM X C S a t1):TM X C S (.UnaryOp .Not a pos) (gG t1):=λhK=>by obtain⟨tt,a1,a2⟩:=h hK;exact⟨_,tw a1,λB P H σ ρ R Q q=>a2 B P H σ ρ R _ (Qo q λc H1 s1 q1=>q1 H1 (zy.refl _))⟩
def we(h:EM X C S w e m)(he:∀whole,isTrue e X.env whole=(do let v<-whole;standAt e.pos;holding [v] (truthy v)):=by intro _;rfl):TM X C S e (zT m):=λhK=>by obtain⟨te,a1,a2⟩:=h hK;exact⟨_,s_ a1 he,lj a2⟩
def eO{op}(h:EM X C S w a m):EM X C S w (.BoolOp op [a] pos) m:=λhK=>let⟨tt,a1,a2⟩:=h hK;⟨tt,BC a1,a2⟩
def eP(h:EM X C S w1 a m1)(h2:EM X C S false (.BoolOp .And (b::rest) pos) m2):EM X C S false (.BoolOp .And (a::b::rest) pos) (Uc m1 m2):=λhK=>by
 obtain⟨tt,a1,a2⟩:=h hK;obtain⟨tu,b1,b2⟩:=h2 hK;refine⟨_,BD a1 b1,λB P H σ ρ R Q q=>a2 B P H σ ρ R _ (qd q λx v H1 s1 r1 q1=>?_)⟩;cases x with
 |b c=>
  refine⟨c,(show v=.bl c from r1),?_⟩;cases c with
  |true=>exact B8 (b2 B P H1 σ ρ (R.keep s1) _ q1)
  |false=>exact B7 (q1 _ H1 (zy.refl _) (RV.of rfl))
 |_=>exact q1.elim
def CA(h:EM X C S w a m1):EM X C S false (.UnaryOp .Not a pos) (Cz m1):=λhK=>by
 obtain⟨tt,a1,a2⟩:=h hK;refine⟨_,BE a1,λB P H σ ρ R Q q=>a2 B P H σ ρ R _ (qd q λx v H1 s1 r1 q1=>?_)⟩;cases x with
 |b c=>exact⟨c,(show v=.bl c from r1),q1 _ H1 (zy.refl _) (RV.of rfl)⟩
 |_=>exact q1.elim
end
def qV{κ α:Type}[DecidableEq κ](kvs:List (κ×α))(k:κ):Option α:=(kvs.find? λkv=>decide (kv.1=k)).map (·.2)
def qx.get{W:RC}{M:Hz}{H:Hp}:∀{kvs:HZ}{es:HL}{k:Key}{x:PV},qx W M H kvs es->qV kvs k=some x->∃v,Xj es k=some v/\Rep W M H x v
 |[],_,_,_,_,e=>by cases e
 |kx::r,_,k,x,h,e=>by
  obtain⟨v,q,rfl,h1,h2⟩:=h;unfold qV at e;unfold Xj;rw[a1C]at e ⊢;by_cases c:kx.1=k
  .simp only[c,decide_true]at e ⊢;cases e;exact⟨v,rfl,h1⟩
  .simp only[c,decide_false]at e ⊢;exact qx.get h2 e
def qx.EC{W:RC}{M:Hz}{H:Hp}:∀{kvs:HZ}{es:HL}{k:Key},qx W M H kvs es->qV kvs k=none->Xj es k=none
 |[],_,_,h,_=>by cases(show _=_ from h);rfl
 |kx::r,_,k,h,e=>by
  obtain⟨v,q,rfl,h1,h2⟩:=h;unfold qV at e;unfold Xj;rw[a1C]at e ⊢;by_cases c:kx.1=k
  .simp only[c,decide_true]at e;cases e
  .simp only[c,decide_false]at e ⊢;exact qx.EC h2 e
def qx.He(h:qx W M H kvs es):(Xj es k).isSome=(qV kvs k).isSome:=by
 cases e:qV kvs k with
 |none=>rw[h.EC e];rfl
 |some x=>obtain⟨v,q,_⟩:=h.get e;rw[q];rfl
def pk:PV->Option Key
 |.i n=>some (.inl n)
 |.s x=>some (.inr x)
 |_=>none
def aU(h:yX W N M H x v)(e:pk x=some k):v=kV k:=by
 cases x with
 |i n=>cases e;exact h
 |s n=>cases e;exact h
 |_=>cases e
def Gn:R2:=λx y H Q=>∃a v,x=.ref a/\eB H a y (some v)/\Q v H
def lB(hu:X.A.units+1<cLine):IxR X Gn:=by
 intro value slice pins s σ H x y v u Q I rx ry h hs;obtain⟨a,w',rfl,g,q⟩:=h;cases rx;have hT:=cF I g;unfold subscriptTail;refine f8 ?_;rw[getitemInPython_of_ne hT.not_modules];refine f8 (wpAny_specialOf hT PySem.F.slot_dict_getitem.lookup ?_);have fin:wpAny (IP X) X.A (subscripted slice false (.ref a) u) (λr s₃=>wpAny (IP X) X.A (letTemporaryGo value (.ref a) r >>= λ_=>pure r) (EP X pins σ Q) X.xe s₃) X.xe s:=by rw[hs];exact wpAny_operating (R8 (iQ hu I g ry λw' s3 I3 rw'=>⟨_,H,I3,rw',q⟩) (λr s₃ h₃=>f8 (wpAny_letTemporaryGo (M8 h₃))) λ_ _ x=>x)
 first
  |exact M8 (f8 fin)
  |exact f8 (M8 (f8 fin))
  |exact f8 fin
def Gp(K:Ih):R2:=λx y H Q=>rIx K x y H Q\/Gn x y H Q
def ZM{α:Type}:Option α->Out α
 |some a=>.ok a
 |none=>.wall
def pIx:PV->PV->Out PV
 |.l xs,.i k=>ZM (atI xs k)
 |.t xs,.i k=>ZM (atI xs k)
 |.sc ns,.i k=>ZM ((atI ns k).map PV.i)
 |.s z,.i k=>if z.length<=sizeLine then ZM ((atI z.cps.toList k).map λc=>.s ⟨#[c]⟩)else .wall
 |.d kvs,y=>ZM ((pk y).bind λk=>qV kvs k)
 |_,_=>.wall
def y_(h:yj C B H R Q (ZM o)):∃x,o=some x/\∀v H2,zy H H2->R H2 x v->Q v H2:=by
 cases o with
 |none=>exact h.elim
 |some x=>exact⟨x,rfl,h⟩
def CB:Lf2 W (Gp W.K) pIx:=λM C B H x y v u Q n hx hy q=>by
 unfold pIx at q;split at q
 .obtain⟨x,e,q⟩:=y_ q;obtain⟨p,vs,rfl,_,hl,r⟩:=hx;obtain⟨v,hv,rv⟩:=r.at e;exact .inl (.inl ⟨p,vs,_,v,rfl,hy,SqL.of hl,hv,q v H (zy.refl _) rv⟩)
 .obtain⟨x,e,q⟩:=y_ q;obtain⟨p,vs,rfl,hl,r⟩:=hx;obtain⟨v,hv,rv⟩:=r.at e;exact .inl (.inr (.inl ⟨p,vs,_,v,rfl,hy,hl,hv,q v H (zy.refl _) rv⟩))
 .obtain⟨x,e,q⟩:=y_ q;obtain⟨p,rfl,hl⟩:=hx;obtain⟨z,hz,rfl⟩:=u8.mp e;refine .inl (.inl ⟨p,_,_,.int z,rfl,hy,hl.sq,?_,q _ H (zy.refl _) rfl⟩);unfold atI at hz ⊢;rw[v0];cases c:ixN _ _ with
  |none=>rw[c]at hz;cases hz
  |some j=>rw[c,Option.bind_some]at hz;show(List.map V.int _)[j]?=_;rw[O2,hz];rfl
 .split at q
  .rename_i hl;obtain⟨x,e,q⟩:=y_ q;obtain⟨z,hz,rfl⟩:=u8.mp e;exact .inl (.inr (.inr ⟨_,_,z,hx,hy,hl,hz,q _ H (zy.refl _) rfl⟩))
  .exact q.elim
 .obtain⟨x,e,q⟩:=y_ q;obtain⟨p,es,rfl,_,hl,r⟩:=hx;obtain⟨k,hk,e⟩:=O4.mp e;obtain⟨v,hv,rv⟩:=r.get e;exact .inr ⟨p,v,rfl,by rw[aU hy hk,<- hv];exact eB.rk hl,q v H (zy.refl _) rv⟩
 .exact q.elim
def aV(hu:X.A.units+1<cLine)(h1:EM X C S w1 a m1)(h2:EM X C S w2 b m2)(hs:X7 b:=by intro _ _;rfl):EM X C S false (.Subscript a b pos) (mOp pIx m1 m2):=λhK=>by obtain⟨ta,a1,a2⟩:=h1 hK;obtain⟨tb,b1,b2⟩:=h2 hK;exact⟨_,BQ (tG.or (lB hu)) a1 b1 hs,pK (by rw[hK];exact CB) a2 b2⟩
def toV:PV->Option V
 |.i a=>some (.int a)
 |.s a=>some (.str a)
 |.b a=>some (.bl a)
 |.n=>some .non
 |_=>none
def VN(h:yX W N M H x v)(e:toV x=some u):v=u/\KW u=true:=by cases x<;>first|(cases e;exact⟨h,rfl⟩)|cases e
def ED:Option Bool->Option Bool->Option Bool
 |some a,some b=>some (a&&b)
 |_,_=>none
def cS(f:Iz):List PV->List PV->Option Bool
 |[],[]=>some true
 |x::xs,y::ys=>ED (f x y) (cS f xs ys)
 |_,_=>some false
def Bn(f:Iz)(b:HZ):List (Key×PV)->Option Bool
 |[]=>some true
 |kx::r=>match qV b kx.1 with
  |none=>some false
  |some y=>ED (f kx.2 y) (Bn f b r)
def CC(x y:PV):Option Bool:=match toV x,toV y with|some a,some b=>some (eqV a b)|_,_=>none
def ae:Nat->PV->PV->Option Bool
 |n+1,.l xs,.l ys=>cS (ae n) xs ys
 |n+1,.t xs,.t ys=>cS (ae n) xs ys
 |_,x,y=>CC x y
def EE(n:Nat):PV->PV->Option Bool
 |.d a,.d b=>if a.length=b.length then Bn (ae n) b a else some false
 |x,y=>ae n x y
def QX(h:ED a b=some c):∃p q,a=some p/\b=some q/\c=(p&&q):=by cases a<;>cases b<;>first|(cases h;done)|(cases h;exact⟨_,_,rfl,rfl,rfl⟩)
def eQ{f:Iz}:∀{xs ys:HW}{b:Bool},cS f xs ys=some b->xs.length≠ys.length->b=false
 |[],[],_,_,h=>absurd rfl h
 |[],_::_,_,h,_=>by cases h;rfl
 |_::_,[],_,h,_=>by cases h;rfl
 |x::xs,y::ys,b,h,n=>by obtain⟨p,q,_,h2,rfl⟩:=QX h;rw[eQ h2 (λz=>n (by rw[v4,v4,z])),a1K]
def cT{f:Iz}:∀{xs ys:HW}{b:Bool},cS f xs ys=some b->∃e:Nat->Bool,(∀j x y,xs[j]?=some x->ys[j]?=some y->f x y=some (e j))/\b=((List.range (min xs.length ys.length)).all e&&xs.length==ys.length)
 |[],[],b,h=>⟨λ_=>true,(λj x y h=>by simp at h),by cases h;rfl⟩
 |[],_::_,b,h=>⟨λ_=>true,(λj x y h=>by simp at h),by cases h;simp⟩
 |_::_,[],b,h=>⟨λ_=>true,(λj x y _ h=>by simp at h),by cases h;simp⟩
 |x::xs,y::ys,b,h=>by
  obtain⟨p,q,h1,h2,rfl⟩:=QX h;obtain⟨e,he,rfl⟩:=cT h2;refine⟨λj=>match j with|0=>p|j+1=>e j,λj a c ha hc=>?_,?_⟩
  .cases j with
   |zero=>simp only[List.getElem?_cons_zero,Option.some.injEq]at ha hc;subst ha;subst hc;exact h1
   |succ j=>simp only[List.getElem?_cons_succ]at ha hc;exact he j a c ha hc
  .simp only[List.length_cons,Nat.add_min_add_right,List.range_succ_eq_map,List.all_cons,List.all_map,Bool.and_assoc];congr 1;simp[Function.comp_def]
section
variable {X:Cx}{pins:Hu}{σ:St}{H:Hp}{s:Hy}{W:RC}
def xA(I:Inv X pins σ H s)(hK:W.K=X.K):∀{n:Nat}{x y:PV}{b:Bool}{v:V}{N M N' M':Hz},ae n x y=some b->yX W N M H x v->yX W N' M' H y v->b=true:=by
 have fl:∀{x y:PV}{b:Bool}{v:V}{N M N' M':Hz},CC x y=some b->yX W N M H x v->yX W N' M' H y v->b=true:=by
  intro x y b v N M N' M' h h1 h2;unfold CC at h;cases ex:toV x with
  |none=>rw[ex]at h;cases h
  |some a=>
   cases ey:toV y with
   |none=>rw[ex,ey]at h;cases h
   |some c=>rw[ex,ey]at h;obtain⟨e1,f1⟩:=VN h1 ex;obtain⟨e2,_⟩:=VN h2 ey;cases h;rw[<- e1]at f1 ⊢;rw[<- e2];cases v<;>first|rfl|(cases f1;done)|(simp[eqV];done)
 intro n
 induction n with
 |zero=>intro x y b v N M N' M' h;exact fl (by cases x<;>cases y<;>exact h)
 |succ n ih=>
  have its:∀{xs ys:HW}{vs:HF}{b:Bool}{M M':Hz},cS (ae n) xs ys=some b->zX W M H xs vs->zX W M' H ys vs->b=true:=by
   intro xs
   induction xs with
   |nil=>intro ys vs b M M' h h1 h2;cases(show _=_ from h1);cases ys with
    |nil=>cases h;rfl
    |cons y ys=>obtain⟨_,_,e,_⟩:=h2;cases e
   |cons x xs ihx=>
    intro ys vs b M M' h h1 h2;obtain⟨v,r,rfl,hx,hr⟩:=h1;cases ys with
    |nil=>cases(show _=_ from h2)
    |cons y ys=>obtain⟨v',r',e,hy,hr'⟩:=h2;cases e;obtain⟨p,q,hp,hq,rfl⟩:=QX h;rw[ih hp (yX.iff.mpr hx) (yX.iff.mpr hy),ihx hq hr hr'];rfl
  intro x y b v N M N' M' h h1 h2;cases x with
  |l xs=>
   cases y with
   |l ys=>obtain⟨p,vs,rfl,_,e,r⟩:=h1;obtain⟨p',vs',e2,_,e',r'⟩:=h2;cases e2;rw[e]at e';cases e';exact its h r r'
   |_=>exact fl h h1 h2
  |t xs=>
   cases y with
   |t ys=>obtain⟨p,vs,rfl,e,r⟩:=h1;obtain⟨p',vs',e2,e',r'⟩:=h2;cases e2;rw[hK]at e e';cases I.ah e e';exact its h r r'
   |_=>exact fl h h1 h2
  |_=>exact fl (by cases y<;>exact h) h1 h2
def tP(ry:RelV y u)(rx:RelV x v)(fy:KW y=true)(fx:KW x=true):SeqAt.RcAt A s u v (eqV y x)/\SeqAt.RcNeAt A s u v (!eqV y x):=by
 cases y with
 |non=>
  cases ry;cases x with
  |non=>cases rx;exact⟨SeqAt.RcAt.none_none,SeqAt.RcNeAt.none_none⟩
  |bl b=>cases rx;exact⟨SeqAt.RcAt.none_bool b,SeqAt.RcNeAt.none_bool b⟩
  |int b=>obtain⟨t,rfl⟩:=rx;exact⟨SeqAt.RcAt.none_int b t,SeqAt.RcNeAt.none_int b t⟩
  |str b=>obtain⟨t,rfl⟩:=rx;exact⟨SeqAt.RcAt.none_str b t,SeqAt.RcNeAt.none_str b t⟩
  |_=>exact absurd (show false=true from fx) M6
 |bl a=>
  cases ry;cases x with
  |non=>cases rx;exact⟨SeqAt.RcAt.bool_none a,SeqAt.RcNeAt.bool_none a⟩
  |bl b=>cases rx;exact⟨SeqAt.RcAt.bool_bool a b,SeqAt.RcNeAt.bool_bool a b⟩
  |int b=>obtain⟨t,rfl⟩:=rx;exact⟨SeqAt.RcAt.bool_int a b t,SeqAt.RcNeAt.bool_int a b t⟩
  |str b=>obtain⟨t,rfl⟩:=rx;exact⟨SeqAt.RcAt.bool_str a b t,SeqAt.RcNeAt.bool_str a b t⟩
  |_=>exact absurd (show false=true from fx) M6
 |int a=>
  obtain⟨t',rfl⟩:=ry;cases x with
  |non=>cases rx;exact⟨SeqAt.RcAt.int_none a t',SeqAt.RcNeAt.int_none a t'⟩
  |bl b=>cases rx;exact⟨SeqAt.RcAt.int_bool a t' b,SeqAt.RcNeAt.int_bool a t' b⟩
  |int b=>obtain⟨t,rfl⟩:=rx;exact⟨SeqAt.RcAt.int_int a t' b t,SeqAt.RcNeAt.int_int a t' b t⟩
  |str b=>obtain⟨t,rfl⟩:=rx;exact⟨SeqAt.RcAt.int_str a t' b t,SeqAt.RcNeAt.int_str a t' b t⟩
  |_=>exact absurd (show false=true from fx) M6
 |str a=>
  obtain⟨t',rfl⟩:=ry;cases x with
  |non=>cases rx;exact⟨SeqAt.RcAt.str_none a t',SeqAt.RcNeAt.str_none a t'⟩
  |bl b=>cases rx;exact⟨SeqAt.RcAt.str_bool a t' b,SeqAt.RcNeAt.str_bool a t' b⟩
  |int b=>obtain⟨t,rfl⟩:=rx;exact⟨SeqAt.RcAt.str_int a t' b t,SeqAt.RcNeAt.str_int a t' b t⟩
  |str b=>obtain⟨t,rfl⟩:=rx;exact⟨SeqAt.RcAt.str_str a t' b t,SeqAt.RcNeAt.str_str a t' b t⟩
  |_=>exact absurd (show false=true from fx) M6
 |_=>exact absurd (show false=true from fy) M6
def Ue(h:CC x y=some b)(h1:yX W N M H x xv)(h2:yX W N' M' H y yv)(ru:RelV xv u)(rv:RelV yv v):
  SeqAt.EqAt A s u v b/\SeqAt.RcAt A s u v b/\SeqAt.RcNeAt A s u v (!b):=by
 unfold CC at h;cases ex:toV x with
 |none=>rw[ex]at h;cases h
 |some a=>
  cases ey:toV y with
  |none=>rw[ex,ey]at h;cases h
  |some c=>rw[ex,ey]at h;cases h;obtain⟨rfl,f1⟩:=VN h1 ex;obtain⟨rfl,f2⟩:=VN h2 ey;exact⟨tH ru rv f1 f2,(tP ru rv f1 f2).1,(tP ru rv f1 f2).2⟩
def xB(I:Inv X pins σ H s)(hK:W.K=X.K):∀(n:Nat){A:Ia}{x y:PV}{b:Bool}{xv yv:V}{u v:Value}{N M N' M':Hz},ae n x y=some b->yX W N M H x xv->yX W N' M' H y yv->RelV xv u->RelV yv v->A.units+n<cLine->
  SeqAt.EqAt A s u v b/\SeqAt.RcAt A s u v b/\SeqAt.RcNeAt A s u v (!b):=by
 intro n
 induction n with
 |zero=>intro A x y b xv yv u v N M N' M' h h1 h2 ru rv _;exact Ue (by cases x<;>cases y<;>exact h) h1 h2 ru rv
 |succ n ih=>
  intro A x y b xv yv u v N M N' M' h h1 h2 ru rv hu;have top:∀{p q:Addr},u=.ref p->v=.ref q->xv=.ref p->yv=.ref q->SeqAt.RcAt A s u v b/\SeqAt.RcNeAt A s u v (!b)->SeqAt.EqAt A s u v b/\SeqAt.RcAt A s u v b/\SeqAt.RcNeAt A s u v (!b):=λ{p q} e1 e2 e3 e4 hr=>by
   refine⟨?_,hr⟩;by_cases c:p=q
   .subst c;rw[e1,e2];rw[xA I hK h (e3▸h1) (e4▸h2)];exact SeqAt.EqAt.same _
   .rw[e1,e2]at hr ⊢;exact SeqAt.EqAt.of_refs c hr.1
  cases x with
  |l xs=>
   cases y with
   |l ys=>
    obtain⟨p,vs,rfl,_,e,r⟩:=h1;obtain⟨p',vs',rfl,_,e',r'⟩:=h2;cases ru;cases rv;refine top rfl rfl rfl rfl ?_;obtain⟨us,r1,p1,_⟩:=I.list (SqL.of e);obtain⟨ws,r2,p2,_⟩:=I.list (SqL.of e');have l1:us.toArray.size=xs.length:=by rw[O3,<- r1.length,r.len]
    have l2:ws.toArray.size=ys.length:=by rw[O3,<- r2.length,r'.len]
    by_cases hl:xs.length=ys.length
    .obtain⟨f,hf,rfl⟩:=cT h;rw[hl,a0Z,Bool.and_true,Nat.min_self,<- hl,<- l1];have it:=eM (A:=A.in1) (e:=f) (s:=s) r1 r2 λj x y u v hx hy ru rv=>by obtain⟨x',hx',rx'⟩:=r.Bm hx;obtain⟨y',hy',ry'⟩:=r'.Bm hy;exact(ih (A:=A.in1) (hf j x' y' hx' hy') (yX.iff.mpr rx') (yX.iff.mpr ry') ru rv (by show A.units+1+n<cLine;omega)).1
     exact⟨SeqAt.RcAt.lists p1.isList p2.isList (by rw[l1,l2,hl]) (by omega) it,SeqAt.RcNeAt.lists p1.isList p2.isList (by rw[l1,l2,hl]) (by omega) it⟩
    .rw[eQ h hl];exact⟨SeqAt.RcAt.lists_lengths p1.isList p2.isList (by rw[l1,l2];simpa using hl) (by omega),SeqAt.RcNeAt.lists_lengths p1.isList p2.isList (by rw[l1,l2];simpa using hl) (by omega)⟩
   |_=>exact Ue h h1 h2 ru rv
  |t xs=>
   cases y with
   |t ys=>
    obtain⟨p,vs,rfl,e,r⟩:=h1;obtain⟨p',vs',rfl,e',r'⟩:=h2;cases ru;cases rv;refine top rfl rfl rfl rfl ?_;rw[hK]at e e';obtain⟨us,r1,p1,_⟩:=I.tuple e;obtain⟨ws,r2,p2,_⟩:=I.tuple e';have l1:us.toArray.size=xs.length:=by rw[O3,<- r1.length,r.len]
    have l2:ws.toArray.size=ys.length:=by rw[O3,<- r2.length,r'.len]
    obtain⟨f,hf,rfl⟩:=cT h;have it:=eM (A:=A.in1) (e:=f) (s:=s) r1 r2 λj x y u v hx hy ru rv=>by obtain⟨x',hx',rx'⟩:=r.Bm hx;obtain⟨y',hy',ry'⟩:=r'.Bm hy;exact(ih (A:=A.in1) (hf j x' y' hx' hy') (yX.iff.mpr rx') (yX.iff.mpr ry') ru rv (by show A.units+1+n<cLine;omega)).1
    rw[<- l1,<- l2];exact⟨SeqAt.RcAt.tuples p1 p2 (by omega) it,SeqAt.RcNeAt.tuples p1 p2 (by omega) it⟩
   |_=>exact Ue h h1 h2 ru rv
  |_=>exact Ue (by cases y<;>exact h) h1 h2 ru rv
def CD{es:HL}{vs:IC}(r:KV es vs){k:Key}{v:V}(h:Xj es k=some v):∃u,valueAt vs k=some u/\RelV v u:=Xe.some_of (v:=v) (o:=valueAt vs k) (by rw[<- h];exact KV.val r k)
def xC{es:HL}{vs:IC}(r:KV es vs){k:Key}(h:Xj es k=none):valueAt vs k=none:=by
 have:=KV.val r k;rw[h]at this;cases e:valueAt vs k with
 |none=>rfl
 |some u=>rw[e]at this;exact this.elim
def cU(I:Inv X pins σ H s)(hK:W.K=X.K){n:Nat}{A:Ia}(hu:A.units+n<cLine){b:HZ}{eb:HL}{vb:IC}{M M':Hz}(rb:qx W M' H b eb)(kb:KV eb vb):
  ∀{a:HZ}{ea:HL}{va:IC}{r:Bool},qx W M H a ea->KV ea va->Bn (ae n) b a=some r->KeqHits A s vb va r
 |[],_,_,_,h,k,e=>by cases(show _=_ from h);cases k;cases e;exact .nil
 |kx::a,_,_,r,h,k,e=>by
  obtain⟨v,q,rfl,h1,h2⟩:=h;cases k with
  |@cons _ u _ us rr kk=>
   obtain⟨k',u⟩:=u;obtain⟨e1,ru⟩:=rr;cases e1;unfold Bn at e;cases hy:qV b kx.1 with
   |none=>rw[hy]at e;cases e;exact .miss (xC kb (rb.EC hy))
   |some y=>rw[hy]at e;obtain⟨p,q,hp,hq,rfl⟩:=QX e;obtain⟨yv,hyv,ry⟩:=rb.get hy;obtain⟨yu,hyu,ryu⟩:=CD kb hyv;exact .hit hyu (xB I hK n hp (yX.iff.mpr h1) (yX.iff.mpr ry) ru ryu hu).1 (cU I hK hu rb kb h2 kk hq)
end
def Fv(W:RC)(neg:Bool):R2:=λxv yv H Q=>∃M x y b,yX W (λ_=>True) M H x xv/\yX W (λ_=>True) M H y yv/\EE 8 x y=some b/\Q (.bl (xor neg b)) H
def lD:(∃a b,x=.d a/\y=.d b)\/EE n x y=ae n x y:=by
 cases x with
 |d a=>cases y with
  |d b=>exact .inl ⟨a,b,rfl,rfl⟩
  |_=>exact .inr rfl
 |_=>exact .inr rfl
def tQ(hK:W.K=X.K)(hu:X.A.units+64<cLine):OpR X (compareOp .Eq) (Fv W false):=by
 intro pins s σ H xv yv u v Q I ru rv h;obtain⟨M,x,y,b,h1,h2,e,q⟩:=h;rw[a0x]at q;rcases lD (n:=8) (x:=x) (y:=y)with⟨a,c,rfl,rfl⟩|z
 .obtain⟨p,es,rfl,_,ha,ra⟩:=h1;obtain⟨p',es',rfl,_,hb,rb⟩:=h2;cases ru;cases rv;obtain⟨_,na,va,ka,da⟩:=ZS I.hok ha;obtain⟨_,nb,vb,kb,db⟩:=ZS I.hok hb;have l1:va.length=a.length:=by rw[<- a0k ka];have:=T1 List.length (qx.iff.mp ra).1;simpa using this
  have l2:vb.length=c.length:=by rw[<- a0k kb];have:=T1 List.length (qx.iff.mp rb).1;simpa using this
  have e:(if a.length=c.length then Bn (ae 8) c a else some false)=some b:=e;by_cases hl:a.length=c.length
  .rw[if_pos hl]at e;refine keq_eq na nb da db (by omega) (λ_=>cU I hK (A:=X.A.in1) (by show X.A.units+1+8<cLine;omega) rb kb ra ka e) ?_;rw[l1,l2,hl,a0Z,a1n];exact⟨.bl b,H,I,rfl,q⟩
  .rw[if_neg hl]at e;cases e;refine keq_eq (r:=false) na nb da db (by omega) (λz=>absurd (by rw[<- l1,<- l2,z]) hl) ?_;rw[a1K];exact⟨.bl false,H,I,rfl,q⟩
 .rw[z]at e;exact(xB I hK 8 e h1 h2 ru rv (by omega)).2.1 _ _ _ _ ⟨.bl b,H,I,rfl,q⟩
def CF(hK:W.K=X.K)(hu:X.A.units+64<cLine):OpR X (compareOp .NotEq) (Fv W true):=by
 intro pins s σ H xv yv u v Q I ru rv h;obtain⟨M,x,y,b,h1,h2,e,q⟩:=h;rw[a1m]at q;rcases lD (n:=8) (x:=x) (y:=y)with⟨a,c,rfl,rfl⟩|z
 .obtain⟨p,es,rfl,_,ha,ra⟩:=h1;obtain⟨p',es',rfl,_,hb,rb⟩:=h2;cases ru;cases rv;obtain⟨_,na,va,ka,da⟩:=ZS I.hok ha;obtain⟨_,nb,vb,kb,db⟩:=ZS I.hok hb;have l1:va.length=a.length:=by rw[<- a0k ka];have:=T1 List.length (qx.iff.mp ra).1;simpa using this
  have l2:vb.length=c.length:=by rw[<- a0k kb];have:=T1 List.length (qx.iff.mp rb).1;simpa using this
  have e:(if a.length=c.length then Bn (ae 8) c a else some false)=some b:=e;by_cases hl:a.length=c.length
  .rw[if_pos hl]at e;refine keq_ne na nb da db (by omega) (λ_=>cU I hK (A:=X.A.in1) (by show X.A.units+1+8<cLine;omega) rb kb ra ka e) ?_;rw[l1,l2,hl,a0Z,a1n];exact⟨.bl (!b),H,I,rfl,q⟩
  .rw[if_neg hl]at e;cases e;refine keq_ne (r:=false) na nb da db (by omega) (λz=>absurd (by rw[<- l1,<- l2,z]) hl) ?_;rw[a1K];exact⟨.bl (!false),H,I,rfl,q⟩
 .rw[z]at e;exact(xB I hK 8 e h1 h2 ru rv (by omega)).2.2 _ _ _ _ ⟨.bl (!b),H,I,rfl,q⟩
def qK(neg:Bool)(x y:PV):Out PV:=match EE 8 x y with|some b=>.ok (.b (xor neg b))|none=>.wall
def lE:Lf2 W (Fv W neg) (qK neg):=λM C B H x y v u Q n hx hy q=>by
 unfold qK at q;cases e:EE 8 x y with
 |none=>rw[e]at q;exact q.elim
 |some b=>rw[e]at q;exact⟨M,x,y,b,hx,hy,e,q _ H (zy.refl _) rfl⟩
def xD(hu:X.A.units+64<cLine)(h1:EM X C S w1 a m1)(h2:EM X C S w2 b m2):EM X C S false (.Compare a [.Eq] [b] pos) (mOp (qK false) m1 m2):=λhK=>Xl (tQ hK.symm hu) lE h1 h2 (X0 _ (by decide) (by decide)) hK
def QY(hu:X.A.units+64<cLine)(h1:EM X C S w1 a m1)(h2:EM X C S w2 b m2):TM X C S (.Compare a [.Eq] [b] pos) (zT (mOp (qK false) m1 m2)):=λhK=>z_ (tQ hK.symm hu) lE h1 h2 (X0 _ (by decide) (by decide)) hK
def gH(hu:X.A.units+64<cLine)(h1:EM X C S w1 a m1)(h2:EM X C S w2 b m2):TM X C S (.Compare a [.NotEq] [b] pos) (zT (mOp (qK true) m1 m2)):=λhK=>z_ (CF hK.symm hu) lE h1 h2 (X0 _ (by decide) (by decide)) hK
def inP(v:V):List PV->Option Bool
 |[]=>some false
 |y::r=>match toV y,inP v r with
  |some u,some b=>some (eqV u v||b)
  |_,_=>none
def lF{W:RC}{M:Hz}{H:Hp}{v:V}:∀{ys:HW}{vs:HF}{b:Bool},zX W M H ys vs->inP v ys=some b->vs.all KW=true/\inV v vs=b
 |[],_,_,h,e=>by cases(show _=_ from h);cases e;exact⟨rfl,rfl⟩
 |y::ys,_,b,h,e=>by
  obtain⟨u,r,rfl,h1,h2⟩:=h;unfold inP at e;cases hy:toV y with
  |none=>rw[hy]at e;cases e
  |some u'=>
   cases hr:inP v ys with
   |none=>rw[hy,hr]at e;cases e
   |some b'=>rw[hy,hr]at e;cases e;obtain⟨rfl,f⟩:=VN (yX.iff.mpr h1) hy;obtain⟨f2,e2⟩:=lF h2 hr;exact⟨by rw[a1l,f,f2];rfl,by unfold inV at e2 ⊢;rw[a0m,e2]⟩
def Fx(K:Ih)(neg:Bool):R2:=λx y H Q=>(rIn K neg x y H Q\/∃i j,x=.str i/\y=.str j/\Q (.bl (xor neg (!(Builtin.Str.occurrences j i 0 j.length 1).isEmpty))) H)\/∃a o,y=.ref a/\eB H a x o/\Q (.bl (xor neg o.isSome)) H
def CG(hu:X.A.units+1<cLine):OpR X (compareOp .In) (Fx X.K false):=by
 intro pins s σ H x y v u Q I rx ry h;rcases h with(h|⟨i,j,e1,e2,q⟩)|⟨a,o,rfl,g,q⟩
 .exact iP pins s σ H x y v u Q I rx ry h
 .exact iG pins s σ H x y v u Q I rx ry ⟨i,j,e1,e2,by rw[a0x]at q;exact q⟩
 .obtain rfl:u=Value.ref a:=ry;exact G7 hu I g rx λs3 I3=>⟨.bl o.isSome,H,I3,rfl,by rw[a0x]at q;exact q⟩
def lG(hu:X.A.units+1<cLine):OpR X (compareOp .NotIn) (Fx X.K true):=by
 intro pins s σ H x y v u Q I rx ry h;rcases h with(h|⟨i,j,e1,e2,q⟩)|⟨a,o,rfl,g,q⟩
 .exact aC pins s σ H x y v u Q I rx ry h
 .exact aE pins s σ H x y v u Q I rx ry ⟨i,j,e1,e2,by rw[a1m]at q;exact q⟩
 .obtain rfl:u=Value.ref a:=ry;exact xk hu I g rx λs3 I3=>⟨.bl (!o.isSome),H,I3,rfl,by rw[a1m]at q;exact q⟩
def pIn(neg:Bool):PV->PV->Out PV
 |x,.l ys=>ZM (((toV x).bind λv=>inP v ys).map λb=>.b (xor neg b))
 |x,.t ys=>ZM (((toV x).bind λv=>inP v ys).map λb=>.b (xor neg b))
 |.s i,.s j=>.ok (.b (xor neg (!(Builtin.Str.occurrences j i 0 j.length 1).isEmpty)))
 |x,.d kvs=>ZM ((pk x).map λk=>.b (xor neg (qV kvs k).isSome))
 |_,_=>.wall
def lH:(if neg=true then !b else b)=xor neg b:=by cases neg<;>simp
def CH:Lf2 W (Fx W.K neg) (pIn neg):=λM C B H x y v u Q n hx hy q=>by
 unfold pIn at q;split at q
 .obtain⟨z,e,q⟩:=y_ q;obtain⟨b,hb,rfl⟩:=u8.mp e;obtain⟨xv,hxv,hb⟩:=O4.mp hb;obtain⟨p,vs,rfl,_,hl,r⟩:=hy;obtain⟨rfl,f⟩:=VN hx hxv;obtain⟨f2,e2⟩:=lF r hb;exact .inl (.inl ⟨p,vs,rfl,.inl (SqL.of hl),f,f2,by rw[e2,lH];exact q _ H (zy.refl _) rfl⟩)
 .obtain⟨z,e,q⟩:=y_ q;obtain⟨b,hb,rfl⟩:=u8.mp e;obtain⟨xv,hxv,hb⟩:=O4.mp hb;obtain⟨p,vs,rfl,hl,r⟩:=hy;obtain⟨rfl,f⟩:=VN hx hxv;obtain⟨f2,e2⟩:=lF r hb;exact .inl (.inl ⟨p,vs,rfl,.inr hl,f,f2,by rw[e2,lH];exact q _ H (zy.refl _) rfl⟩)
 .exact .inl (.inr ⟨_,_,hx,hy,q _ H (zy.refl _) rfl⟩)
 .obtain⟨z,e,q⟩:=y_ q;obtain⟨k,hk,rfl⟩:=u8.mp e;obtain⟨p,es,rfl,_,hl,r⟩:=hy;exact .inr ⟨p,_,rfl,by rw[aU hx hk];exact eB.rk hl,by rw[r.He];exact q _ H (zy.refl _) rfl⟩
 .exact q.elim
section
variable {X:Cx}{C:LC}{S:Ht}{e a b:HJ}{es:HD}{w w1 w2:Bool}{ws:HI}{m m1 m2:ME}{ms:MA}{pos p:Pos}{x:Str}
def pM(hu:X.A.units+1<cLine)(h1:EM X C S w1 a m1)(h2:EM X C S w2 b m2)(hm:behindInMarks .In b=false:=by with_unfolding_all rfl):TM X C S (.Compare a [.In] [b] pos) (zT (mOp (pIn false) m1 m2)):=λhK=>z_ (CG hu) (by rw[hK];exact CH) h1 h2 hm hK
def YH(hu:X.A.units+1<cLine)(h1:EM X C S w1 a m1)(h2:EM X C S w2 b m2)(hm:behindInMarks .NotIn b=false:=by with_unfolding_all rfl):TM X C S (.Compare a [.NotIn] [b] pos) (zT (mOp (pIn true) m1 m2)):=λhK=>z_ (lG hu) (by rw[hK];exact CH) h1 h2 hm hK
def pN(W:RC)(M:Hz)(H:Hp):List PV->List V->Prop
 |[],vs=>vs=[]
 |x::xs,vs=>∃v r,vs=v::r/\yX W (λ_=>True) M H x v/\pN W M H xs r
def RVs.weak{B:Bs}{P:HK}{H:Hp}:∀{ws:HI}{xs:HW}{vs:HF},RVs C B S P H ws xs vs->pN C.W (Mof B S P) H xs vs
 |[],_,_,⟨e1,e2⟩=>by subst e1;subst e2;rfl
 |w::ws,_,_,⟨x,v,xr,vr,e1,e2,h1,h2⟩=>by subst e1;subst e2;exact⟨v,vr,rfl,h1.weak,RVs.weak h2⟩
def LfC(W:RC)(r:List V->Hp->VK->Prop)(p:HP):Prop:=∀(M:Hz)(C:LC)(B:Bs) H xs vs Q,New M H->pN W M H xs vs->yj C B H (Rep W M) Q (p xs)->r vs H Q
def LfF(W:RC)(r:List V->Hp->VK->Prop)(p:HP):Prop:=∀(M:Hz)(C:LC)(B:Bs) H xs vs Q,New M H->pN W M H xs vs->yj C B H (RFr W M H) Q (p xs)->r vs H Q
def zh(g:HP)(ms:MA):ME:=λρ=>(ms ρ).bind g
def CJ(L:LfC C.W r g)(h:LA C S ws ta ms):LE C S false (tCB r ta) (zh g ms):=λB P H σ ρ R Q q=>
 h B P H σ ρ R _ (wC q λxs vs H1 s1 r1 q1=>L _ C B H1 xs vs Q (R.keep s1).new r1.weak (RV.eq▸q1))
def cV(h:yj C B H (RFr W M H) Q o)(s:zy H H2):yj C B H2 (RFr W M H2) Q o:=by
 cases o with
 |ok x=>exact λv H3 s3 hx=>h v H3 (s.trans s3) (let⟨p,e,hp,hr⟩:=hx;⟨p,e,zy.none s hp,hr⟩)
 |exc c fs=>exact h
 |wall=>exact h
def VO(h:yj C B H (RFr W M H) Q (o.bind f))(k:∀r v H2,zy H H2->R' H2 r v->yj C B H2 (RFr W M H2) Q (f r)->Q' v H2):gE C B H R' Q' o:=by
 cases o with
 |ok r=>exact λv H2 s hr=>k r v H2 s hr (cV (o:=f r) h s)
 |exc c fs=>exact h
 |wall=>exact h
def CK(L:LfF C.W r g)(h:LA C S ws ta ms):LFr C S (tCB r ta) (zh g ms):=λB P H σ ρ R Q q=>
 h B P H σ ρ R _ (VO q λxs vs H1 s1 r1 q1=>L _ C B H1 xs vs Q (R.keep s1).new r1.weak q1)
def Vl{id:String}{r:List V->Hp->VK->Prop}{g:HP}(hc:X.K=C.W.K->j0 X (.builtin id) r)(L:LfC C.W r g)(hg:Gl X x)(hm:X.mg x=none)(hv:bootBuiltins x=some (.builtin id))(ha:AM X C S ws (e::es) ms)(hn:x≠"__name__":=by decide)(hdb:(x==("__debug__":Str))=false:=by decide)
  (he:starEach (e::es) X.env=(false,eval e X.env)::starEach es X.env:=by rfl) (hpl:(backTo pos (starEach es X.env)).any (·.1)=false:=by rfl):EM X C S false (.Call (.Name x p) (e::es) [] pos) (zh g ms):=λhK=>by
 obtain⟨ta,a1,a2⟩:=ha hK;exact⟨_,X5 (hc hK) hg hm hv a1 hn hdb he hpl,CJ L a2⟩
def eR{id:String}{r:List V->Hp->VK->Prop}{g:HP}(hc:X.K=C.W.K->j0 X (.type id) r)(L:LfC C.W r g)(hg:Gl X x)(hm:X.mg x=none)(hv:bootBuiltins x=some (.type id))(ha:AM X C S ws (e::es) ms)(hn:x≠"__name__":=by decide)(hdb:(x==("__debug__":Str))=false:=by decide)
  (he:starEach (e::es) X.env=(false,eval e X.env)::starEach es X.env:=by rfl) (hpl:(backTo pos (starEach es X.env)).any (·.1)=false:=by rfl):EM X C S false (.Call (.Name x p) (e::es) [] pos) (zh g ms):=λhK=>by
 obtain⟨ta,a1,a2⟩:=ha hK;exact⟨_,aA (hc hK) hg hm hv a1 hn hdb he hpl,CJ L a2⟩
def eS{id:String}{r:List V->Hp->VK->Prop}{g:HP}(hc:X.K=C.W.K->j0 X (.type id) r)(L:LfF C.W r g)(hg:Gl X x)(hm:X.mg x=none)(hv:bootBuiltins x=some (.type id))(ha:AM X C S ws (e::es) ms)(hn:x≠"__name__":=by decide)(hdb:(x==("__debug__":Str))=false:=by decide)
  (he:starEach (e::es) X.env=(false,eval e X.env)::starEach es X.env:=by rfl) (hpl:(backTo pos (starEach es X.env)).any (·.1)=false:=by rfl):FM X C S (.Call (.Name x p) (e::es) [] pos) (zh g ms):=λhK=>by
 obtain⟨ta,a1,a2⟩:=ha hK;exact⟨_,aA (hc hK) hg hm hv a1 hn hdb he hpl,CK L a2⟩
end
def wg:List PV->Out PV
 |[.l xs]=>.ok (.i xs.length)
 |[.t xs]=>.ok (.i xs.length)
 |[.sc xs]=>.ok (.i xs.length)
 |[.d xs]=>.ok (.i xs.length)
 |[.s z]=>if z.length<=sizeLine then .ok (.i z.length)else .wall
 |_=>.wall
def qx.len(h:qx W M H a es):es.length=a.length:=by have:=T1 List.length (qx.iff.mp h).1;simpa using this
def CL(K:Ih):List V->Hp->VK->Prop:=λxs H Q=>(∃x n,xs=[x]/\Ge K x H n/\Q (.int n) H)\/∃a kvs,xs=[V.ref a]/\Rd H a (.dK kvs)/\Q (.int kvs.length) H
def lI:j0 X (.builtin "len") (λxs H Q=>∃a kvs,xs=[V.ref a]/\Rd H a (.dK kvs)/\Q (.int kvs.length) H):=by intro pins s σ H xs us Q I r h;obtain⟨a,kvs,rfl,e,q⟩:=h;obtain⟨u,rfl,ru⟩:=vals1 r;cases ru;exact Fj I e λt s' I'=>⟨.int _,H,I',⟨t,rfl⟩,q⟩
def CM:LfC W (CL W.K) wg:=λM C B H xs vs Q n h q=>by
 unfold wg at q;split at q
 .obtain⟨v,r,rfl,⟨p,vs,rfl,_,hl,rr⟩,hr⟩:=h;cases(show _=_ from hr);exact .inl ⟨_,vs.length,rfl,.inl ⟨vs,SqL.of hl,rfl⟩,q _ H (zy.refl _) (by rw[rr.len];rfl)⟩
 .obtain⟨v,r,rfl,⟨p,vs,rfl,hl,rr⟩,hr⟩:=h;cases(show _=_ from hr);exact .inl ⟨_,vs.length,rfl,.inr ⟨vs,hl,rfl⟩,q _ H (zy.refl _) (by rw[rr.len];rfl)⟩
 .obtain⟨v,r,rfl,⟨p,rfl,hl⟩,hr⟩:=h;cases(show _=_ from hr);exact .inl ⟨_,_,rfl,.inl ⟨_,hl.sq,rfl⟩,q _ H (zy.refl _) (by rw[v0];rfl)⟩
 .obtain⟨v,r,rfl,⟨p,es,rfl,_,hl,rr⟩,hr⟩:=h;cases(show _=_ from hr);exact .inr ⟨_,es,rfl,hl,q _ H (zy.refl _) (by rw[rr.len];rfl)⟩
 .split at q
  .rename_i hz;obtain⟨v,r,rfl,hx,hr⟩:=h;cases(show _=_ from hr);cases(show _=_ from hx);exact .inl ⟨_,_,rfl,⟨hz,rfl⟩,q _ H (zy.refl _) rfl⟩
  .exact q.elim
 .exact q.elim
def kl(hg:Gl X "len")(hm:X.mg "len"=none)(ha:AM X C S ws [e] ms)(he:starEach [e] X.env=[(false,eval e X.env)]:=by rfl):EM X C S false (.Call (.Name "len" p) [e] [] pos) (zh wg ms):=
 Vl (r:=CL C.W.K) (λhK=>hK▸o9.or lI) CM hg hm PySem.boot_len ha (he:=he)
def xE:List PV->Out PV
 |[.l xs]=>.ok (.l xs)
 |[.t xs]=>.ok (.l xs)
 |[.sc xs]=>.ok (.l (xs.map PV.i))
 |_=>.wall
def Km(r:zX W M H xs vs)(hl:H l=none):RFr W M H (upd H l (.lst vs)) (.l xs) (.ref l):=
 ⟨l,rfl,hl,vs,zd,(r.sub λa m n=>⟨m,λz=>n (z▸hl)⟩).same (zy.upd hl)⟩
def xF(r:qx W M H xs vs)(hl:H l=none):RFr W M H (upd H l (.dK vs)) (.d xs) (.ref l):=
 ⟨l,rfl,hl,vs,zd,(r.sub λa m n=>⟨m,λz=>n (z▸hl)⟩).same (zy.upd hl)⟩
def xG:LfF W (λxs H Q=>∃p ys,xs=[.ref p]/\(SqL W.K H p ys\/SqT W.K H p ys)/\∀l,H l=none->Q (.ref l) (upd H l (.lst ys))) xE:=λM C B H xs vs Q n h q=>by
 unfold xE at q;split at q
 .obtain⟨v,r,rfl,⟨p,vs,rfl,_,hl,rr⟩,hr⟩:=h;cases(show _=_ from hr);exact⟨p,vs,rfl,.inl (SqL.of hl),λl hl=>q _ _ (zy.upd hl) (Km rr hl)⟩
 .obtain⟨v,r,rfl,⟨p,vs,rfl,hl,rr⟩,hr⟩:=h;cases(show _=_ from hr);exact⟨p,vs,rfl,.inr hl,λl hl=>q _ _ (zy.upd hl) (Km rr hl)⟩
 .obtain⟨v,r,rfl,⟨p,rfl,hl⟩,hr⟩:=h;cases(show _=_ from hr);exact⟨p,_,rfl,.inl hl.sq,λl hl=>q _ _ (zy.upd hl) (Km zX.ints hl)⟩
 .exact q.elim
def toI:PV->Option Int
 |.i a=>some a
 |_=>none
def oR:List PV->Option (List Int)
 |[]=>some []
 |x::r=>match toI x,oR r with|some a,some b=>some (a::b)|_,_=>none
def cW{W:RC}{M:Hz}{H:Hp}:∀{xs:HW}{vs:HF}{ns:HY},zX W M H xs vs->oR xs=some ns->vs=ns.map V.int
 |[],_,_,h,e=>by cases(show _=_ from h);cases e;rfl
 |x::xs,_,ns,h,e=>by
  obtain⟨v,r,rfl,h1,h2⟩:=h;unfold oR at e;cases x with
  |i a=>
   cases hr:oR xs with
   |none=>rw[hr]at e;cases e
   |some b=>rw[hr]at e;cases e;rw[O7,<- cW h2 hr,(show v=_ from h1)]
  |_=>cases e
def Ug:∀{ns:HY},oR (ns.map PV.i)=some ns
 |[]=>rfl
 |n::ns=>by show(match toI (.i n),oR (ns.map PV.i)with|some a,some b=>some (a::b)|_,_=>none)=_;rw[Ug];rfl
def ie:List Int->Int
 |[]=>0
 |[a]=>a
 |a::r=>max a (ie r)
def Uh:∀{ns:HY},ns≠[]->ie ns∈ns
 |[],h=>absurd rfl h
 |[a],_=>by simp[ie]
 |a::b::r,_=>by
  have ih:=Uh (ns:=b::r) (by simp);show max a (ie (b::r))∈_;rcases Int.le_total a (ie (b::r))with h|h
  .rw[Int.max_eq_right h];exact L9 _ ih
  .rw[Int.max_eq_left h];exact M3
def lJ:∀{ns:HY}{a:Int},a∈ns->a<=ie ns
 |[],_,h=>by cases h
 |[b],a,h=>by simp at h;subst h;exact a1Q _
 |b::c::r,a,h=>by
  show a<=max b (ie (c::r));rcases O0.mp h with rfl|h
  .exact Int.le_max_left ..
  .exact Int.le_trans (lJ h) (Int.le_max_right ..)
def lK:List PV->Out PV
 |[.i a,.i b]=>.ok (.i (max a b))
 |[.l xs]=>ZM ((oR xs).bind λns=>if ns=[]then none else some (.i (ie ns)))
 |_=>.wall
def gI:List PV->Out PV
 |[.i a,.i b]=>.ok (.i (min a b))
 |_=>.wall
def WS:List PV->Out PV
 |[.l xs]=>ZM ((oR xs).map λns=>.i ns.sum)
 |_=>.wall
def CN:LfC W (λxs H Q=>∃i j,xs=[.int i,.int j]/\Q (.int (if j<i then j else i)) H) gI:=λM C B H xs vs Q n h q=>by
 unfold gI at q;split at q
 .obtain⟨v,r,rfl,hx,v2,r2,rfl,hx2,hr⟩:=h;cases(show _=_ from hr);cases(show _=_ from hx);cases(show _=_ from hx2);exact⟨_,_,rfl,q _ H (zy.refl _) (by show V.int _=V.int _;congr 1;omega)⟩
 .exact q.elim
def CO:LfC W (λxs H Q=>(∃i j,xs=[.int i,.int j]/\Q (.int (if j>i then j else i)) H)\/Co W.K xs H Q) lK:=λM C B H xs vs Q n h q=>by
 unfold lK at q;split at q
 .obtain⟨v,r,rfl,hx,v2,r2,rfl,hx2,hr⟩:=h;cases(show _=_ from hr);cases(show _=_ from hx);cases(show _=_ from hx2);exact .inl ⟨_,_,rfl,q _ H (zy.refl _) (by show V.int _=V.int _;congr 1;omega)⟩
 .obtain⟨z,e,q⟩:=y_ q;obtain⟨ns,hn,e⟩:=O4.mp e;by_cases hz:ns=[]
  .rw[if_pos hz]at e;cases e
  .rw[if_neg hz]at e;cases e;obtain⟨v,r,rfl,⟨p,vs,rfl,_,hl,rr⟩,hr⟩:=h;cases(show _=_ from hr);rw[cW rr hn]at hl;refine .inr ⟨p,ns,rfl,SqL.of hl,hz,λM hM hM2=>?_⟩;have:M=ie ns:=Int.le_antisymm (lJ hM) (hM2 _ (Uh hz));rw[this];exact q _ H (zy.refl _) rfl
 .exact q.elim
def CP:LfC W (Gm W.K) WS:=λM C B H xs vs Q n h q=>by
 unfold WS at q;split at q
 .obtain⟨z,e,q⟩:=y_ q;obtain⟨ns,hn,rfl⟩:=u8.mp e;obtain⟨v,r,rfl,⟨p,vs,rfl,_,hl,rr⟩,hr⟩:=h;cases(show _=_ from hr);rw[cW rr hn]at hl;exact⟨p,ns,rfl,SqL.of hl,q _ H (zy.refl _) rfl⟩
 .exact q.elim
def CQ:List PV->Option (List Bool)
 |[]=>some []
 |x::r=>match x,CQ r with | .b a,some b=>some (a::b)|_,_=>none
def lL{W:RC}{M:Hz}{H:Hp}:∀{xs:HW}{vs:HF}{ns:HI},zX W M H xs vs->CQ xs=some ns->vs=ns.map V.bl
 |[],_,_,h,e=>by cases(show _=_ from h);cases e;rfl
 |x::xs,_,ns,h,e=>by
  obtain⟨v,r,rfl,h1,h2⟩:=h;unfold CQ at e;cases x with
  |b a=>
   cases hr:CQ xs with
   |none=>rw[hr]at e;cases e
   |some b=>rw[hr]at e;cases e;rw[O7,<- lL h2 hr,(show v=_ from h1)]
  |_=>cases e
def eT(hc:X.calm=true)(hg:Gl X "max")(hm:X.mg "max"=none)(ha:AM X C S ws (e::es) ms)(he:starEach (e::es) X.env=(false,eval e X.env)::starEach es X.env:=by rfl)(hpl:(backTo pos (starEach es X.env)).any (·.1)=false:=by rfl):EM X C S false (.Call (.Name "max" p) (e::es) [] pos) (zh lK ms):=
 Vl (λhK=>hK▸(iH hc).or (i_ hc)) CO hg hm PyProof.Rows.boot_max ha (he:=he) (hpl:=hpl)
def CS(hc:X.calm=true)(hg:Gl X "min")(hm:X.mg "min"=none)(ha:AM X C S ws (e::es) ms)(he:starEach (e::es) X.env=(false,eval e X.env)::starEach es X.env:=by rfl)(hpl:(backTo pos (starEach es X.env)).any (·.1)=false:=by rfl):EM X C S false (.Call (.Name "min" p) (e::es) [] pos) (zh gI ms):=
 Vl (λhK=>iI hc) CN hg hm PyProof.Rows.boot_min ha (he:=he) (hpl:=hpl)
def QZ(hc:X.calm=true)(hg:Gl X "sum")(hm:X.mg "sum"=none)(ha:AM X C S ws [e] ms)(he:starEach [e] X.env=[(false,eval e X.env)]:=by rfl):EM X C S false (.Call (.Name "sum" p) [e] [] pos) (zh WS ms):=
 Vl (λhK=>hK▸i9 hc) CP hg hm PyProof.Rows.boot_sum ha (he:=he)
def ZW(W:RC)(M:Hz)(H:Hp):List Bool->List PV->List V->Prop
 |[],xs,vs=>xs=[]/\vs=[]
 |w::ws,xs,vs=>∃x v xr vr,xs=x::xr/\vs=v::vr/\yX W (if w=true then λ_=>True else M) M H x v/\ZW W M H ws xr vr
def RVs.args{C:LC}{B:Bs}{S:Ht}{P:HK}{H:Hp}:∀{ws:HI}{xs:HW}{vs:HF},RVs C B S P H ws xs vs->ZW C.W (Mof B S P) H ws xs vs
 |[],_,_,h=>h
 |w::ws,_,_,⟨x,v,xr,vr,e1,e2,h1,h2⟩=>⟨x,v,xr,vr,e1,e2,h1,RVs.args h2⟩
def ZW.len{W:RC}{M:Hz}{H:Hp}:∀{ws:HI}{xs:HW}{vs:HF},ZW W M H ws xs vs->vs.length=ws.length/\xs.length=ws.length
 |[],_,_,⟨e1,e2⟩=>by subst e1;subst e2;exact⟨rfl,rfl⟩
 |w::ws,_,_,⟨x,v,xr,vr,e1,e2,h1,h2⟩=>by subst e1;subst e2;exact⟨by rw[v4,v4,(ZW.len h2).1],by rw[v4,v4,(ZW.len h2).2]⟩
def RtV(W:RC)(fr:Bool)(M:Hz)(H H2:Hp)(r:PV)(v:V):Prop:=if fr=true then RFr W (λa=>M a\/H a=none) H H2 r v else Rep W (λa=>M a\/H a=none) H2 r v
def Fy(W:RC)(fr:Bool)(M:Hz)(H:Hp)(Q:VK)(E:XK):Out PV->Prop
 |.ok r=>∀v H2,zy H H2->RtV W fr M H H2 r v->Q v H2
 |.exc c fs=>∀e dx es H2,zy H H2->H2 e=some (XC e (W.cls c) dx)->H2 dx=some (XD dx es)->wd W (λa=>M a\/H a=none) H2 fs es->E (.ref e) (some dx) H2
 |.wall=>False
def lsp(W:RC)(fr:Bool)(ws:HI)(g:HP):Sp:=λvs H Q E=>∃M xs,ZW W M H ws xs vs/\Fy W fr M H Q E (g xs)
def lM{W:RC}{fr:Bool}{ws:HI}{g:HP}{n:Nat}(h:ws.length=n):∀vs H Q E,lsp W fr ws g vs H Q E->vs.length=n:=λvs H Q E ⟨M,xs,a,_⟩=>a.len.1.trans h
def RFr.sub(h:RFr W M H H2 x v)(s:∀a,M a->M' a):RFr W M' H H2 x v:=by obtain⟨p,e,hp,h⟩:=h;exact⟨p,e,hp,h.gen rfl Fr.refl λa m _=>⟨s a m.1,m.2⟩⟩
section
variable {X:Cx}{C:LC}{S:Ht}{e a b o:HJ}{es:HD}{w w1 w2 fr:Bool}{ws:HI}{m m1 m2:ME}{ms:MA}{pos p vq:Pos}{x mn:Str}{k:Nat}{f:Addr}{fd:Ib}{ps:Hx}{g:HP}
def lN(R:Rel C.W B S P H σ ρ)(q:XPo C B c fs):∀e dx es H2,zy H H2->H2 e=some (XC e (C.W.cls c) dx)->H2 dx=some (XD dx es)->wd C.W (λa=>Mof B S P a\/H a=none) H2 fs es->C.E (.ref e) (some dx) H2:=
 λe dx es H2 s h1 h2 h3=>q e dx es H2 (R.same.trans s) h1 h2 (h3.sub λa m _=>m.elim (λm=>m.1.1) λn=>.inr (zy.none R.same n))
def tR{B:Bs}{P:HK}{H:Hp}{σ:St}{ρ:Sto}{Q:VK}{o:Out PV}(R:Rel C.W B S P H σ ρ)(q:yj C B H (RV C B S P false) Q o):Fy C.W fr (Mof B S P) H Q C.E o:=by
 have sM:∀a,(Mof B S P a\/H a=none)->Mof B S P a:=λa m=>m.elim id λn=>R.new a n;cases o with
 |ok r=>
  intro v H2 s hr;refine q v H2 s (RV.of ?_);unfold RtV at hr;cases fr with
  |true=>rw[if_pos rfl]at hr;exact(hr.sub sM).rep R.new
  |false=>rw[if_neg M6]at hr;exact hr.sub λa m _=>sM a m
 |exc c fs=>exact lN R q
 |wall=>exact q
def xH{B:Bs}{P:HK}{H:Hp}{σ:St}{ρ:Sto}{Q:VK}{o:Out PV}(R:Rel C.W B S P H σ ρ)(q:yj C B H (RFr C.W (Mof B S P) H) Q o):Fy C.W true (Mof B S P) H Q C.E o:=by
 have sM:∀a,(Mof B S P a\/H a=none)->Mof B S P a:=λa m=>m.elim id λn=>R.new a n;cases o with
 |ok r=>intro v H2 s hr;unfold RtV at hr;rw[if_pos rfl]at hr;exact q v H2 s (hr.sub sM)
 |exc c fs=>exact lN R q
 |wall=>exact q
def xI(F:jr X.prog X.w X.K X.mg X.base (CXe X.prog X.w) k f fd ps (lsp C.W fr ws g))(hr:jO k X.A)(hg:Gl X x)(hm:X.mg x=some (.ref f))(hk:keepIn X.K (.ref f)=true)(hb:Binds X.K fd ps [])(hx:Passes (CXe X.prog X.w) X C.E)(ha:AM X C S ws (e::es) ms)
  (hdb:(x==("__debug__":Str))=false:=by decide) (he:starEach (e::es) X.env=(false,eval e X.env)::starEach es X.env:=by rfl) (hpl:(backTo pos (starEach es X.env)).any (·.1)=false:=by rfl):EM X C S false (.Call (.Name x p) (e::es) [] pos) (zh g ms):=λhK=>by
 obtain⟨ta,a1,a2⟩:=ha hK;refine⟨_,X4 F hr hg hm hk hb .nil hx a1 hdb he hpl,λB P H σ ρ R Q q=>a2 B P H σ ρ R _ (wC q λxs vs H1 s1 r1 q1=>?_)⟩;rw[P7];exact⟨_,xs,r1.args,tR (R.keep s1) q1⟩
def cX(F:jr X.prog X.w X.K X.mg X.base (CXe X.prog X.w) k f fd ps (lsp C.W true ws g))(hr:jO k X.A)(hg:Gl X x)(hm:X.mg x=some (.ref f))(hk:keepIn X.K (.ref f)=true)(hb:Binds X.K fd ps [])(hx:Passes (CXe X.prog X.w) X C.E)(ha:AM X C S ws (e::es) ms)
  (hdb:(x==("__debug__":Str))=false:=by decide) (he:starEach (e::es) X.env=(false,eval e X.env)::starEach es X.env:=by rfl) (hpl:(backTo pos (starEach es X.env)).any (·.1)=false:=by rfl):FM X C S (.Call (.Name x p) (e::es) [] pos) (zh g ms):=λhK=>by
 obtain⟨ta,a1,a2⟩:=ha hK;refine⟨_,X4 F hr hg hm hk hb .nil hx a1 hdb he hpl,λB P H σ ρ R Q q=>a2 B P H σ ρ R _ (VO q λxs vs H1 s1 r1 q1=>?_)⟩;rw[P7];exact⟨_,xs,r1.args,xH (R.keep s1) q1⟩
def aW(cs:Ht)(f:Str)(m:ME):ME:=λρ=>(m ρ).bind λx=>match x with
 |.x c fs=>if c∈cs then ZM (fs.lookup f)else .wall
 |_=>.wall
def Qr(h:EM X C S w e m)(hc:∀c∈cs,QV X.K (C.W.cls c)/\findIn X.K (.ref (C.W.cls c)) fn=some none)(hb:attributeBase e fn X.env (eval e X.env)=eval e X.env:=by rfl):EM X C S false (.Attribute e fn pos) (aW cs fn m):=λhK=>by
 obtain⟨te,a1,a2⟩:=h hK;refine⟨_,xm a1 hb,λB P H σ ρ R Q q=>a2 B P H σ ρ R _ (qd q λx v H1 s1 r1 q1=>?_)⟩;cases x with
 |x c fs=>
  obtain⟨p,dx,es,rfl,hp,hd,hf⟩:=r1;by_cases hcs:c∈cs
  .have q1:yj C B H1 (RV C B S P false) Q (if c∈cs then ZM (fs.lookup fn)else .wall):=q1;rw[if_pos hcs]at q1;obtain⟨y,e,q1⟩:=y_ q1;obtain⟨v,hv,rv⟩:=hf.lookup e;exact⟨p,_,dx,es,v,rfl,(hc c hcs).1,(hc c hcs).2,.inl hp,hd,hv,q1 v H1 (zy.refl _) (RV.of rv)⟩
  .have q1:yj C B H1 (RV C B S P false) Q (if c∈cs then ZM (fs.lookup fn)else .wall):=q1;rw[if_neg hcs]at q1;exact q1.elim
 |_=>exact q1.elim
inductive Kd where
 |int|str|bool|none|list|tuple|dict|obj (c:Nat)|exc (c:Nat)
 deriving DecidableEq
def kd:PV->Option Kd
 |.i _=>some .int | .s _=>some .str | .b _=>some .bool | .n=>some .none | .l _=>some .list | .t _=>some .tuple | .d _=>some .dict | .o c _=>some (.obj c) | .x c _=>some (.exc c)
 |.sc _=>Option.none
 |.dt _=>Option.none
def tyK(W:RC):Kd->Value
 |.int=>.type "int" | .str=>.type "str" | .bool=>.type "bool" | .none=>.type "NoneType" | .list=>.type "list" | .tuple=>.type "tuple" | .dict=>.type "dict" | .obj c=>.ref (W.cls c) | .exc c=>.ref (W.cls c)
def EF(W:RC):Kd->Prop
 |.obj c=>Cls W.K (W.cls c)/\findIn W.K (.ref (W.cls c)) "__class__"=some (some (.builtin "object.__class__"))/\specialIn W.K (.builtin "object.__class__") "__get__"=some (some (.builtin "getset_descriptor.__get__"))/\takesIn W.K (.builtin "object.__class__")=some true/\mroIn W.K (W.cls c) (.type "object")=some true
 |.exc c=>QV W.K (W.cls c)/\XIs W.K (W.cls c)
 |_=>True
def lO(W:RC)(f:IG):List (Kd×Bool)->Prop
 |[]=>True
 |q::r=>(EF W q.1/\f (tyK W q.1)=some q.2)/\lO W f r
def lO.get{W:RC}{f:IG}:∀{tab:List (Kd×Bool)}{k:Kd}{b:Bool},lO W f tab->tab.lookup k=some b->EF W k/\f (tyK W k)=some b
 |[],_,_,_,h=>by cases h
 |q::r,k,b,t,h=>by
  rw[S8]at h;by_cases e:(k==q.1)=true
  .simp only[e]at h;cases h;rw[R9.mp e];exact t.1
  .simp only[e]at h;exact lO.get t.2 h
def eU(tab:List (Kd×Bool))(x:PV):Out PV:=ZM (((kd x).bind λk=>tab.lookup k).map PV.b)
def Hf(W:RC)(f:IG)(cv:V):List V->Hp->VK->Prop:=λvs H Q=>∃(M:Hz)(x:PV)(v:V)(k:Kd)(b:Bool),vs=[v,cv]/\yX W (λ_=>True) M H x v/\kd x=some k/\EF W k/\f (tyK W k)=some b/\Q (.bl b) H
def CT{pins:Hu}{σ:St}{H:Hp}{s:Hy}{W:RC}{N M:Hz}{x:PV}{v:V}{u:Value}{k:Kd}(hK:X.K=W.K)(I:Inv X pins σ H s)(h:yX W N M H x v)(ru:RelV v u)(hk:kd x=some k)(ok:EF W k):∃P,KitX X.K u (tyK W k) P/\P s.heap/\u≠.builtin "__main__.__loader__#opaque":=by
 cases x with
 |i a=>cases hk;exact cH I ru (.inl (by rw[(show v=_ from h)];exact .int a))
 |s a=>cases hk;exact cH I ru (.inl (by rw[(show v=_ from h)];exact .str a))
 |b a=>cases hk;exact cH I ru (.inl (by rw[(show v=_ from h)];exact .bl a))
 |n=>cases hk;exact cH I ru (.inl (by rw[(show v=_ from h)];exact .non))
 |l a=>cases hk;obtain⟨p,vs,rfl,_,hl,_⟩:=h;exact cH I ru (.inl (.lst hl))
 |t a=>cases hk;obtain⟨p,vs,rfl,hl,_⟩:=h;cases(show u=Value.ref p from ru);rw[<- hK]at hl;obtain⟨its,_,⟨o,h1,h2,_⟩,_⟩:=I.tuple hl;exact⟨_,kitx_tuple,⟨o,h1,h2⟩,λz=>nomatch z⟩
 |d a=>cases hk;obtain⟨p,vs,rfl,_,hl,_⟩:=h;cases(show u=Value.ref p from ru);obtain⟨_,_,ws,_,dd⟩:=ZS I.hok hl;obtain⟨o,es,ep,h1,h2,_⟩:=dd;exact⟨_,kitx_dict,⟨o,h1,h2.1⟩,λz=>nomatch z⟩
 |o c a=>cases hk;obtain⟨p,dx,es,rfl,_,hl,_⟩:=h;obtain⟨o1,o2,o3,o4,o5⟩:=ok;rw[<- hK]at o1 o2 o3 o4 o5;exact cH I ru (.inl (.ins hl o1 o2 o3 o4 o5))
 |x c a=>cases hk;obtain⟨p,dx,es,rfl,hl,hd,_⟩:=h;obtain⟨o1,o2⟩:=ok;rw[<- hK]at o1 o2;exact cH I ru (.inr ⟨p,_,dx,es,rfl,rfl,o1,o2,.inl hl,hd⟩)
 |sc a=>cases hk
 |dt a=>cases hk
def pO(hK:X.K=W.K)(hc:Ft cv=some cl):j0 X (.builtin "isinstance") (Hf W (λt=>kitOne W.K t cl) cv):=by intro pins s σ H xs us Q I r h;obtain⟨M,x,v,k,b,rfl,hx,hk,ok,hb,q⟩:=h;obtain⟨u,c,rfl,rx,rc⟩:=vals2 r;obtain⟨P,kx,hP,hne⟩:=CT hK I hx rx hk ok;rw[pC rc hc];rw[<- hK]at hb;exact kia_one kx I.kIn hP hb hne λtk=>⟨.bl b,H,I.tok _,rfl,q⟩
def ZX(hg:Gl X "isinstance")(hm:X.mg "isinstance"=none)(h:EM X C S w e m)(hc:PE X ce (tC cv))(hcl:Ft cv=some cl)(tb:lO C.W (λt=>kitOne C.W.K t cl) tab)
  (he:starEach [e,ce] X.env=[(false,eval e X.env),(false,eval ce X.env)]:=by rfl) (he2:starEach [ce] X.env=[(false,eval ce X.env)]:=by rfl):EM X C S false (.Call (.Name "isinstance" p) [e,ce] [] pos) (mUn (eU tab) m):=λhK=>by
 obtain⟨te,a1,a2⟩:=h hK;refine⟨_,X5 (pO hK hcl) hg hm PyProof.Rows.boot_isinstance (Qn a1 (Qn hc Xh he2) (by rw[he,he2])) (by decide) (by decide) (by rw[he,he2]) (by rw[he2];rfl),λB P H σ ρ R Q q=>a2 B P H σ ρ R _ (qd q λx v H1 s1 r1 q1=>?_)⟩;obtain⟨z,ez,q1⟩:=y_ q1;obtain⟨b,hb,rfl⟩:=u8.mp ez;obtain⟨k,hk,hb⟩:=O4.mp hb;obtain⟨ok,hv⟩:=tb.get hb;exact⟨_,x,v,k,b,rfl,r1.weak,hk,ok,hv,q1 _ H1 (zy.refl _) (RV.of rfl)⟩
abbrev MO:=Sto->Out (Option Int)
def LO(C:LC)(S:Ht)(to:TO)(m:MO):Prop:=∀B P H σ ρ,Rel C.W B S P H σ ρ->∀Q:Option Int->Hp->Prop,(match m ρ with | .ok r=>∀H2,zy H H2->Q r H2 | .exc c fs=>XPo C B c fs | .wall=>False)->to σ H Q
def OM(X:Cx)(C:LC)(S:Ht)(e:IF)(m:MO):Prop:=X.K=C.W.K->∃to,PO X e to/\LO C S to m
def cY:MO:=λ_=>.ok none
def asI:PV->Out (Option Int)
 |.i a=>.ok (some a)
 |_=>.wall
def wF(m:ME):MO:=λρ=>(m ρ).bind asI
def Qs:OM X C S none cY:=λ_=>⟨_,iK,λB P H σ ρ R Q q=>q H (zy.refl _)⟩
def Qt(h:EM X C S w e m):OM X C S (some e) (wF m):=λhK=>by
 obtain⟨te,a1,a2⟩:=h hK;refine⟨_,iL a1,λB P H σ ρ R Q q=>a2 B P H σ ρ R _ ?_⟩;unfold wF at q;revert q;cases m ρ with
 |ok x=>
  intro q v H2 s r;cases x with
  |i a=>exact⟨a,r,q H2 s⟩
  |_=>exact q.elim
 |exc c fs=>exact id
 |wall=>exact id
def cf{α:Type}(xs:List α)(lo hi:IA):List α:=(xs.drop (HT.sIx xs.length 0 lo)).take (HT.sIx xs.length xs.length hi-HT.sIx xs.length 0 lo)
def pSl:PV->Option Int->Option Int->Out PV
 |.l xs,lo,hi=>.ok (.l (cf xs lo hi))
 |.sc ns,lo,hi=>.ok (.l ((cf ns lo hi).map PV.i))
 |.s z,lo,hi=>if z.length<=sizeLine then .ok (.s (Txt.slice z lo hi))else .wall
 |_,_,_=>.wall
def mSl(pp:PV->Option Int->Option Int->Out PV)(m:ME)(lo hi:MO):ME:=λρ=>(m ρ).bind λx=>(lo ρ).bind λl=>(hi ρ).bind λh=>pp x l h
def pP{ns:HY}{lo hi:IA}:o_ (ns.map V.int) lo hi=(cf ns lo hi).map V.int:=by unfold o_ cf;rw[v0,a1X,List.map_drop]
variable {lo hi:IF}{ml mh:MO}{p2:Pos}
def wG(h:EM X C S w e m)(hl:OM X C S lo ml)(hh:OM X C S hi mh):EM X C S false (.Subscript e (.Slice lo hi none p2) pos) (mSl pSl m ml mh):=λhK=>by
 obtain⟨te,a1,a2⟩:=h hK;obtain⟨tl,b1,b2⟩:=hl hK;obtain⟨th,c1,c2⟩:=hh hK;refine⟨_,ej (iO.or Cj) a1 b1 c1,λB P H σ ρ R Q q=>a2 B P H σ ρ R _ (qd q λx v H1 s1 r1 q1=>b2 B P H1 σ ρ (R.keep s1) _ ?_)⟩;revert q1;cases ml ρ with
 |exc c fs=>exact id
 |wall=>exact id
 |ok l=>
  intro q1 H2 s2;refine c2 B P H2 σ ρ ((R.keep s1).keep s2) _ ?_;have q1:yj C B H1 (RV C B S P false) Q ((mh ρ).bind λh=>pSl x l h):=q1;have q1:=YG q1 s2;revert q1;cases mh ρ with
  |exc c fs=>exact id
  |wall=>exact id
  |ok h=>
   intro q1 H3 s3;have q1:=YG (o:=pSl x l h) q1 s3;have r3:=(r1.same s2).same s3;have N3:=(((R.keep s1).keep s2).keep s3).new;cases x with
   |l xs=>obtain⟨p,vs,rfl,_,hp,rr⟩:=r3;exact .inl ⟨p,vs,rfl,SqL.of hp,λz hz=>q1 _ _ (zy.upd hz) (RV.of ((Km rr.cut hz).rep N3))⟩
   |sc ns=>obtain⟨p,rfl,hp⟩:=r3;exact .inl ⟨p,_,rfl,hK▸hp.sq,λz hz=>q1 _ _ (zy.upd hz) (by rw[pP];exact RV.of ((Km zX.ints hz).rep N3))⟩
   |s z=>
    unfold pSl at q1;by_cases hz:z.length<=sizeLine
    .simp only[hz,if_true]at q1;exact .inr ⟨z,r3,hz,q1 _ H3 (zy.refl _) (RV.of rfl)⟩
    .simp only[hz,if_false]at q1;exact q1.elim
   |_=>exact q1.elim
end
def tS(C:LC)(B:Bs)(H:Hp)(x:PV)(v:V):Prop:=if C.fr=true then RFr C.W B.Mt B.H0 H x v else Rep C.W B.Mt H x v
def YT(C:LC)(B:Bs)(S' Sb Sc:Ht)(D:Ends):Out Fw->Prop
 |.ok (.nx ρ')=>∀P' H' σ',Rel C.W B S' P' H' σ' ρ'->D.nx σ' H'
 |.ok (.rt x)=>∀v H',zy B.H0 H'->tS C B H' x v->D.rt v H'
 |.ok (.bk ρ')=>∀P' H' σ',Rel C.W B Sb P' H' σ' ρ'->D.bk σ' H'
 |.ok (.ct ρ')=>∀P' H' σ',Rel C.W B Sc P' H' σ' ρ'->D.ct σ' H'
 |.exc c fs=>XPo C B c fs
 |.wall=>False
def LS(C:LC)(S S' Sb Sc:Ht)(ts:TS)(m:MS):Prop:=∀B P H σ ρ,Rel C.W B S P H σ ρ->∀D,YT C B S' Sb Sc D (m ρ)->ts D σ H
def SM(X:Cx)(C:LC)(S S' Sb Sc:Ht)(st:Ir)(m:MS):Prop:=X.K=C.W.K->∃ts,PS X st ts/\LS C S S' Sb Sc ts m
def SsM(X:Cx)(C:LC)(S S' Sb Sc:Ht)(st:Ij)(m:MS):Prop:=X.K=C.W.K->∃ts,PSs X st ts/\LS C S S' Sb Sc ts m
def zY:MS:=λρ=>.ok (.nx ρ)
def yY(a b:MS):MS:=λρ=>(a ρ).bind λf=>match f with
 |.nx ρ'=>b ρ'
 |.rt x=>.ok (.rt x)
 |.bk ρ'=>.ok (.bk ρ')
 |.ct ρ'=>.ok (.ct ρ')
def js(i:Nat)(m:ME):MS:=λρ=>(m ρ).bind λx=>.ok (.nx (ρ.set i (some x)))
def KY(m:ME):MS:=λρ=>(m ρ).bind λ_=>.ok (.nx ρ)
def kA(m:ME):MS:=λρ=>(m ρ).bind λx=>.ok (.rt x)
def sIf(t:MT)(a b:MS):MS:=λρ=>(t ρ).bind λc=>if c=true then a ρ else b ρ
section
variable {X:Cx}{C:LC}{S S' S1 Sb Sc:Ht}{e a b o:HJ}{es:HD}{w w1 w2:Bool}{ws:HI}{m m1 m2:ME}{ms:MA}{t1:MT}{s1 s2:MS}{pos p pos':Pos}{x:Str}{st:Ir}{sts stt:Ij}{i:Nat}
def z9:SsM X C S S Sb Sc [] zY:=λ_=>⟨_,iw,λB P H σ ρ R D q=>q P H σ R⟩
def CU(h1:LS C S S1 Sb Sc t s1)(h2:LS C S1 S' Sb Sc u s2):LS C S S' Sb Sc (E1 t u) (yY s1 s2):=λB P H σ ρ R D q=>by
 refine h1 B P H σ ρ R _ ?_;unfold yY at q;revert q;cases s1 ρ with
 |ok f=>
  cases f with
  |nx ρ'=>exact λq P' H' σ' R'=>h2 B P' H' σ' ρ' R' D q
  |rt x=>exact id
  |bk ρ'=>exact id
  |ct ρ'=>exact id
 |exc c fs=>exact id
 |wall=>exact id
def zk(h1:SM X C S S1 Sb Sc st s1)(h2:SsM X C S1 S' Sb Sc sts s2):SsM X C S S' Sb Sc (st::sts) (yY s1 s2):=λhK=>by obtain⟨t,a1,a2⟩:=h1 hK;obtain⟨u,b1,b2⟩:=h2 hK;exact⟨_,Vi a1 b1,CU a2 b2⟩
def zo(h1:SM X C S S' Sb Sc st s1):SsM X C S S' Sb Sc [st] s1:=λhK=>by obtain⟨t,a1,a2⟩:=h1 hK;exact⟨_,ZQ a1,a2⟩
def lQ(i:Nat)(h:SsM X C (S.set i 0) S' Sb Sc sts s1)(hi:S[i]?=some 2:=by rfl):SsM X C S S' Sb Sc sts s1:=λhK=>by obtain⟨t,a1,a2⟩:=h hK;exact⟨t,a1,λB P H σ ρ R D q=>a2 B P H σ ρ (R.freeze hi) D q⟩
def tT(h:LE C S false te m):LS C S (S.set i 0) Sb Sc (tE te (X3 i)) (js i m):=λB P H σ ρ R D q=>by
 refine h B P H σ ρ R _ ?_;unfold js at q;revert q;cases m ρ with
 |ok x=>exact λq v H2 s r=>q P H2 _ ((R.keep s).set r.rep)
 |exc c fs=>exact id
 |wall=>exact id
def CV(hN:X.N.Nodup)(hi:X.N[i]?=some x)(hx:Loc X.env.scope x)(h:EM X C S false e m)(hs:swapsWith e (some (.Name x pos')) pos.line X.env=pure false:=by rfl)(hf:X.fn x=true\/X.env.scope.names.lookup x=some .local:=by first|exact .inl rfl|exact .inr rfl|assumption):
  SM X C S (S.set i 0) Sb Sc (.Assign [.Name x pos'] e pos) (js i m):=λhK=>by
 obtain⟨te,a1,a2⟩:=h hK;exact⟨_,ef hN hi hx a1 hs hf,tT a2⟩
def lR(h:LFr C S te m)(hl:i<S.length)(h0:i≠0):LS C S (S.set i 2) Sb Sc (tE te (X3 i)) (js i m):=λB P H σ ρ R D q=>by
 refine h B P H σ ρ R _ ?_;unfold js at q;revert q;cases m ρ with
 |ok x=>exact λq v H2 s ⟨p,e,hp,r⟩=>by subst e;exact q _ H2 _ (R.Hc s hp hl h0 r)
 |exc c fs=>exact id
 |wall=>exact id
def Qu(hN:X.N.Nodup)(hi:X.N[i]?=some x)(hx:Loc X.env.scope x)(h:FM X C S e m)(hl:i<S.length:=by decide)(h0:i≠0:=by decide)(hs:swapsWith e (some (.Name x pos')) pos.line X.env=pure false:=by rfl)(hf:X.fn x=true\/X.env.scope.names.lookup x=some .local:=by first|exact .inl rfl|exact .inr rfl|assumption):
  SM X C S (S.set i 2) Sb Sc (.Assign [.Name x pos'] e pos) (js i m):=λhK=>by
 obtain⟨te,a1,a2⟩:=h hK;exact⟨_,ef hN hi hx a1 hs hf,lR a2 hl h0⟩
def JN(h:EM X C S w e m)(hs:swapsWith e none pos.line X.env=pure false:=by rfl):SM X C S S Sb Sc (.Expr e pos) (KY m):=λhK=>by
 obtain⟨te,a1,a2⟩:=h hK;refine⟨_,X2 a1 hs,λB P H σ ρ R D q=>a2 B P H σ ρ R _ ?_⟩;unfold KY at q;revert q;cases m ρ with
 |ok x=>exact λq v H2 s r=>q P H2 σ (R.keep s)
 |exc c fs=>exact id
 |wall=>exact id
def yq(h:EM X C S false e m)(hf:C.fr=false:=by rfl):SM X C S S' Sb Sc (.Return (some e) pos) (kA m):=λhK=>by
 obtain⟨te,a1,a2⟩:=h hK;refine⟨_,d9 a1,λB P H σ ρ R D q=>a2 B P H σ ρ R _ ?_⟩;unfold kA at q;revert q;cases m ρ with
 |ok x=>exact λq v H2 s r=>q v H2 (R.same.trans s) (by unfold tS;rw[hf,if_neg M6];exact r.rep.sub λa m _=>m.1.1)
 |exc c fs=>exact id
 |wall=>exact id
def lS(h:FM X C S e m)(hf:C.fr=true:=by rfl):SM X C S S' Sb Sc (.Return (some e) pos) (kA m):=λhK=>by
 obtain⟨te,a1,a2⟩:=h hK;refine⟨_,d9 a1,λB P H σ ρ R D q=>a2 B P H σ ρ R _ ?_⟩;unfold kA at q;revert q;cases m ρ with
 |ok x=>exact λq v H2 s r=>q v H2 (R.same.trans s) (by
   unfold tS;rw[if_pos hf];obtain⟨p,e,hp,r⟩:=r;exact⟨p,e,zy.none R.same hp,r.gen rfl Fr.refl λa m _=>⟨m.1.1.1,m.2⟩⟩)
 |exc c fs=>exact id
 |wall=>exact id
def xJ(h:PE X e (XZ i))(hi:S[i]?=some 2:=by rfl)(hf:C.fr=true:=by rfl):SM X C S S' Sb Sc (.Return (some e) pos) (kA (zc i)):=λhK=>by
 refine⟨_,d9 h,λB P H σ ρ R D q=>?_⟩;unfold kA zc at q;cases hρ:ρ[i]? with
 |none=>rw[hρ]at q;exact q.elim
 |some o=>
  cases o with
  |none=>rw[hρ]at q;exact q.elim
  |some y=>rw[hρ]at q;obtain⟨v,hv,h2,_,_⟩:=R.var i y hρ;obtain⟨rfl,ra⟩:=h2 hi;refine⟨_,hv,q _ H R.same ?_⟩;unfold tS;rw[if_pos hf];exact⟨P i,rfl,(R.act i hi).1,ra.gen rfl Fr.refl λa m _=>⟨m.1.1,λz=>m.2 i hi z.symm⟩⟩
def y8(h:TM X C S c t1)(h1:SsM X C S S' Sb Sc sts s1)(h2:SsM X C S S' Sb Sc stt s2):SM X C S S' Sb Sc (.If c sts stt pos) (sIf t1 s1 s2):=λhK=>by
 obtain⟨tt,a1,a2⟩:=h hK;obtain⟨t,b1,b2⟩:=h1 hK;obtain⟨u,c1,c2⟩:=h2 hK;refine⟨_,BF a1 b1 c1,λB P H σ ρ R D q=>a2 B P H σ ρ R _ ?_⟩;unfold sIf at q;revert q;cases t1 ρ with
 |ok k=>
  intro q H2 s;cases k with
  |true=>exact B8 (b2 B P H2 σ ρ (R.keep s) D q)
  |false=>exact B7 (c2 B P H2 σ ρ (R.keep s) D q)
 |exc c fs=>exact id
 |wall=>exact id
def Rel.at2(R:Rel W B S P H σ ρ)(hi:S[i]?=some 2)(e:ρ[i]?=some (some y)):σ[i]?=some (some (.ref (P i)))/\WO W (Mof B S P) H (P i) y/\i<ρ.length:=by obtain⟨v,hv,h2,_,_⟩:=R.var i y e;obtain⟨rfl,ra⟩:=h2 hi;exact⟨hv,ra,(N5.mp e).1⟩
def Mof.wr{W:RC}{B:Bs}{P:HK}{H:Hp}{σ:St}{ρ:Sto}{o:HO}(R:Rel W B S P H σ ρ)(hi:S[i]?=some 2):Fr (Mof B S P) H (upd H (P i) o):=λa q e m=>by
 obtain⟨_,o0,e0,n0⟩:=R.act i hi;have:a≠P i:=λz=>by
  rcases m with m|m
  .exact m.2 i hi z.symm
  .rw[z,e0]at e;cases e;exact n0 m
 rw[zg this];exact e
def tU(i:Nat)(m:ME):MS:=λρ=>match ρ[i]? with
 |some (some (.l xs))=>(m ρ).bind λy=>if xs.length<sizeLine then .ok (.nx (ρ.set i (some (.l (xs++[y])))))else .wall
 |_=>.wall
def aX(ho:PE X o (XZ i))(h:EM X C S false e m)(hi:S[i]?=some 2:=by rfl)(WN:attributeBase o "append" X.env (eval o X.env)=eval o X.env:=by rfl)
  (Bg:((backTo p (starEach [e] X.env)).all (λx=>!x.1)&&(backToKw p (keywordEach [] X.env)).all (λx=>x.1.isSome)&&decide ([e].length+([]:List Keyword).length+(if([]:List Keyword).isEmpty then 0 else 1)<30))=true:=by rfl)
  (WM:(vq.endLine==p.line)=true:=by rfl) (hs:starEach [e] X.env=[(false,eval e X.env)]:=by rfl) (hsw:swapsWith (.Call (.Attribute o "append" vq) [e] [] p) none pos.line X.env=pure false:=by rfl):
  SM X C S S Sb Sc (.Expr (.Call (.Attribute o "append" vq) [e] [] p) pos) (tU i m):=λhK=>by
 obtain⟨te,a1,a2⟩:=h hK;refine⟨_,X2 (xi a0O a2i a2j VF ho (Qn a1 Xh hs) WN Bg WM hs rfl) hsw,λB P H σ ρ R D q=>?_⟩;unfold tU at q;split at q
 .rename_i xs hx;obtain⟨hσ,⟨vs,hp,rr⟩,hl⟩:=R.at2 hi hx;refine⟨_,hσ,.inl ⟨rfl,_,SqL.of hp⟩,a2 B P H σ ρ R _ ?_⟩;revert q;cases m ρ with
  |ok y=>
   intro q v H2 s r;have q:YT C B S Sb Sc D (if xs.length<sizeLine then .ok (.nx (ρ.set i (some (.l (xs++[y])))))else .wall):=q;split at q
   .rename_i hz;have R2:=R.keep s;refine⟨_,vs,v,rfl,rfl,s _ _ hp,by rw[rr.len];exact hz,q P _ σ (R2.wr hi hl hσ (by exact id) ?_)⟩;have f:=Mof.wr (o:=.lst (vs++[v])) R2 hi;exact⟨_,zd,((rr.same s).append (.cons r.rep .nil)).gen f λ_ m _=>m⟩
   .exact q.elim
  |exc c fs=>exact id
  |wall=>exact id
 .exact q.elim
def dput{κ α:Type}[DecidableEq κ](kvs:List (κ×α))(k:κ)(v:α):List (κ×α):=
 if kvs.any (λkv=>decide (kv.1=k))=true then kvs.map (λkv=>if kv.1=k then(kv.1,v)else kv)else kvs++[(k,v)]
end
def qx.put(h:qx W M H a es)(hx:Rep W M H x v):qx W M H (dput a k x) (putK es k v):=by
 have key:∀{a:HZ}{es:HL},qx W M H a es->a.any (λkv=>decide (kv.1=k))=es.any (λkv=>decide (kv.1=k))/\qx W M H (a.map λkv=>if kv.1=k then(kv.1,x)else kv) (es.map λkv=>if kv.1=k then(kv.1,v)else kv)/\qx W M H (a++[(k,x)]) (es++[(k,v)]):=by
  intro a
  induction a with
  |nil=>intro es h;cases(show _=_ from h);exact⟨rfl,rfl,v,[],rfl,hx,rfl⟩
  |cons kx a ih=>
   intro es h;obtain⟨u,q,rfl,h1,h2⟩:=h;obtain⟨i1,i2,i3⟩:=ih h2;refine⟨by rw[a0m,a0m,i1],?_,⟨u,_,rfl,h1,i3⟩⟩;rw[O7,O7];by_cases e:kx.1=k
   .rw[if_pos e,if_pos e];exact⟨v,_,rfl,hx,i2⟩
   .rw[if_neg e,if_neg e];exact⟨u,_,rfl,h1,i2⟩
 obtain⟨i1,i2,i3⟩:=key h;unfold dput putK;rw[i1];split
 .exact i2
 .exact i3
section
variable {X:Cx}{C:LC}{S S' S1 Sb Sc:Ht}{e a b o:HJ}{es:HD}{w w1 w2:Bool}{ws:HI}{m m1 m2:ME}{ms:MA}{t1:MT}{s1 s2:MS}{pos p pos':Pos}{x:Str}{st:Ir}{sts stt:Ij}{i:Nat}
def xK(i:Nat)(mk mv:ME):MS:=λρ=>(mv ρ).bind λv=>match ρ[i]? with
 |some (some (.d kvs))=>(mk ρ).bind λy=>match pk y with
  |some k=>if kvs.length<sizeLine then .ok (.nx (ρ.set i (some (.d (dput kvs k v)))))else .wall
  |none=>.wall
 |_=>.wall
def tV(hu:X.A.units+1<cLine)(ho:PE X o (XZ i))(hk:EM X C S w a m1)(hv:EM X C S false e m2)(hi:S[i]?=some 2:=by rfl)(hs:swapsWith e (some (.Subscript o a pos')) pos.line X.env=pure false:=by rfl):
  SM X C S S Sb Sc (.Assign [.Subscript o a pos'] e pos) (xK i m1 m2):=λhK=>by
 obtain⟨ta,a1,a2⟩:=hk hK;obtain⟨tv,b1,b2⟩:=hv hK;refine⟨_,iU hu ho a1 b1 hs,λB P H σ ρ R D q=>b2 B P H σ ρ R _ ?_⟩;unfold xK at q;revert q;cases m2 ρ with
 |ok y=>
  intro q v H1 sm1 rv;have R1:=R.keep sm1;have q:YT C B S Sb Sc D (match ρ[i]? with
   |some (some (.d kvs))=>(m1 ρ).bind λz=>match pk z with
    |some k=>if kvs.length<sizeLine then .ok (.nx (ρ.set i (some (.d (dput kvs k y)))))else .wall
    |none=>.wall
   |_=>.wall):=q
  split at q
  .rename_i kvs hx;obtain⟨hσ,⟨es,hp,rr⟩,hl⟩:=R1.at2 hi hx;refine⟨_,hσ,a2 B P H1 σ ρ R1 _ ?_⟩;revert q;cases m1 ρ with
   |ok z=>
    intro q u H2 sm2 ru;have R2:=R1.keep sm2;have q:YT C B S Sb Sc D (match pk z with
     |some k=>if kvs.length<sizeLine then .ok (.nx (ρ.set i (some (.d (dput kvs k y)))))else .wall
     |none=>.wall):=q
    split at q
    .rename_i k hk;split at q
     .rename_i hz;have hp2:=sm2 _ _ hp;refine⟨_,_,rfl,by rw[aU ru.weak hk];exact Bl.k hp2 (by rw[qx.len rr];exact hz),q P _ σ (R2.wr hi hl hσ (by exact id) ?_)⟩;have f:=Mof.wr (o:=.dK (putK es k v)) R2 hi;exact⟨_,zd,((rr.same sm2).put (rv.rep.same sm2)).gen f λ_ m _=>m⟩
     .exact q.elim
    .exact q.elim
   |exc c fs=>exact id
   |wall=>exact id
  .exact q.elim
 |exc c fs=>exact id
 |wall=>exact id
def Ui(i:Nat)(mk mv:ME):MS:=λρ=>(mv ρ).bind λv=>match ρ[i]? with
 |some (some (.l xs))=>(mk ρ).bind λy=>match y with
  |.i k=>match ixN xs.length k with
   |some j=>.ok (.nx (ρ.set i (some (.l (xs.set j v)))))
   |none=>.wall
  |_=>.wall
 |_=>.wall
def cZ(ho:PE X o (XZ i))(hk:EM X C S w a m1)(hv:EM X C S false e m2)(hi:S[i]?=some 2:=by rfl)
  (ha:∀v,assign (.Subscript o a p) X.env v=(do
   let ov<-holding [v] (eval o X.env)
   let iv<-holding [v,ov] (eval a X.env)
   standAt p
   holding [v,ov,iv] (setItem ov iv v)
   release [v,ov,iv] []):=by intro _;rfl)
  (hs:swapsWithSole [.Subscript o a p] e pos.line X.env=pure false:=by rfl) (hw:swappedStores [.Subscript o a p] e X.env=pure none:=by rfl) (h1:(assignEach [.Subscript o a p] X.env).map (·.2)=[assign (.Subscript o a p) X.env]:=by rfl):
  SM X C S S Sb Sc (.Assign [.Subscript o a p] e pos) (Ui i m1 m2):=λhK=>by
 obtain⟨ta,a1,a2⟩:=hk hK;obtain⟨tv,b1,b2⟩:=hv hK;refine⟨_,iA b1 (BG ho a1 set_list ha) hs hw h1,λB P H σ ρ R D q=>b2 B P H σ ρ R _ ?_⟩;unfold Ui at q;revert q;cases m2 ρ with
 |ok y=>
  intro q v H1 sm1 rv;have R1:=R.keep sm1;have q:YT C B S Sb Sc D (match ρ[i]? with
   |some (some (.l xs))=>(m1 ρ).bind λz=>match z with
    |.i k=>match ixN xs.length k with
     |some j=>.ok (.nx (ρ.set i (some (.l (xs.set j y)))))
     |none=>.wall
    |_=>.wall
   |_=>.wall):=q
  split at q
  .rename_i xs hx;obtain⟨hσ,⟨vs,hp,rr⟩,hl⟩:=R1.at2 hi hx;refine⟨_,hσ,a2 B P H1 σ ρ R1 _ ?_⟩;revert q;cases m1 ρ with
   |ok z=>
    intro q u H2 sm2 ru;have R2:=R1.keep sm2;cases z with
    |i k=>
     have q:YT C B S Sb Sc D (match ixN xs.length k with
      |some j=>.ok (.nx (ρ.set i (some (.l (xs.set j y)))))
      |none=>.wall):=q
     split at q
     .rename_i j hj;refine⟨_,vs,k,j,rfl,ru,sm2 _ _ hp,by rw[rr.len];exact hj,q P _ σ (R2.wr hi hl hσ (by exact id) ?_)⟩;have f:=Mof.wr (o:=.lst (vs.set j v)) R2 hi;exact⟨_,zd,(zX.set (rv.rep.same sm2) j (rr.same sm2)).gen f λ_ m _=>m⟩
     .exact q.elim
    |_=>exact q.elim
   |exc c fs=>exact id
   |wall=>exact id
  .exact q.elim
 |exc c fs=>exact id
 |wall=>exact id
end
section
variable {X:Cx}{C:LC}{S S' S1 Sb Sc:Ht}{e a b o:HJ}{es:HD}{w w1 w2:Bool}{ws:HI}{m m1 m2:ME}{ms:MA}{t1:MT}{s1 s2:MS}{pos p pos':Pos}{x:Str}{st:Ir}{sts stt:Ij}{i:Nat}
abbrev MG:=PV->Sto->Option Sto
def LG(C:LC)(S S':Ht)(g:TG)(mg:MG):Prop:=∀B P H σ ρ x v,Rel C.W B S P H σ ρ->Rep C.W (Mof B S P) H x v->∀Q:St->Hp->Prop,(∃ρ',mg x ρ=some ρ'/\∀σ',Rel C.W B S' P H σ' ρ'->Q σ' H)->g v σ H Q
def GM(X:Cx)(C:LC)(S S':Ht)(tg:HJ)(mg:MG):Prop:=X.K=C.W.K->∃g,PG X tg g/\LG C S S' g mg
def gNm(i:Nat):MG:=λx ρ=>some (ρ.set i (some x))
def qW(hN:X.N.Nodup)(hi:X.N[i]?=some x)(hx:Loc X.env.scope x)(hf:X.fn x=true\/X.env.scope.names.lookup x=some .local:=by first|exact .inl rfl|exact .inr rfl|assumption):GM X C S (S.set i 0) (.Name x pos) (gNm i):=
 λ_=>⟨_,iy hN hi hx hf,λB P H σ ρ x v R r Q ⟨ρ',e,k⟩=>by cases e;exact k _ (R.set r)⟩
abbrev MGs:=List PV->Sto->Option Sto
def LGs(C:LC)(S S':Ht)(g:TGs)(mg:MGs):Prop:=∀B P H σ ρ xs vs,Rel C.W B S P H σ ρ->zX C.W (Mof B S P) H xs vs->∀Q:St->Hp->Prop,(∃ρ',mg xs ρ=some ρ'/\∀σ',Rel C.W B S' P H σ' ρ'->Q σ' H)->g vs σ H Q
def GsM(X:Cx)(C:LC)(S S':Ht)(tgs:HD)(mg:MGs):Prop:=X.K=C.W.K->∃g,PGs X tgs g/\LGs C S S' g mg
def aY:MGs:=λxs ρ=>match xs with
 |[]=>some ρ
 |_=>none
def yN(g:MG)(gs:MGs):MGs:=λxs ρ=>match xs with
 |x::r=>(g x ρ).bind λρ'=>gs r ρ'
 |[]=>none
def Xn:GsM X C S S [] aY:=λ_=>⟨_,iz,λB P H σ ρ xs vs R r Q ⟨ρ',e,k⟩=>by
 cases xs with
 |nil=>cases e;cases(show _=_ from r);exact⟨rfl,k _ R⟩
 |cons x xs=>cases e⟩
def Mof.le{B:Bs}{S S':Ht}{P:HK}(h:∀j:Nat,S'[j]?=some 2->S[j]?=some 2){a:Addr}(m:Mof B S P a):Mof B S' P a:=⟨m.1,λj hj=>m.2 j (h j hj)⟩
def yx(h1:GM X C S S1 e g)(h2:GsM X C S1 S' es gs)(hS:∀j:Nat,S1[j]?=some 2->S[j]?=some 2)(hs:(assignEach (e::es) X.env).map (·.2)=assign e X.env::(assignEach es X.env).map (·.2):=by rfl):GsM X C S S' (e::es) (yN g gs):=λhK=>by
 obtain⟨t,a1,a2⟩:=h1 hK;obtain⟨u,b1,b2⟩:=h2 hK;refine⟨_,d_ a1 b1 hs,λB P H σ ρ xs vs R r Q ⟨ρ',e,k⟩=>?_⟩;cases xs with
 |nil=>cases e
 |cons x xs=>
  obtain⟨v,vr,rfl,rx,rr⟩:=r;have e:(g x ρ).bind (λρ'=>gs xs ρ')=some ρ':=e;cases hg:g x ρ with
  |none=>rw[hg]at e;cases e
  |some ρ1=>rw[hg]at e;exact⟨v,vr,rfl,a2 B P H σ ρ x v R rx _ ⟨ρ1,hg,λσ' R'=>b2 B P H σ' ρ1 xs vr R' (rr.sub λa m _=>Mof.le hS m) Q ⟨ρ',e,k⟩⟩⟩
def gTp(n:Nat)(gs:MGs):MG:=λx ρ=>match x with
 |.t xs=>if xs.length=n then gs xs ρ else none
 |_=>none
def Xo(hc:X.calm=true)(h:GsM X C S S' es gs)(hn:(assignEach es X.env).length=n:=by rfl)(hst:(assignEach es X.env).findIdx? (·.1)=none:=by rfl):GM X C S S' (.Tuple es k pos) (gTp n gs):=λhK=>by
 obtain⟨t,a1,a2⟩:=h hK;refine⟨_,tD hc a1 hn hst,λB P H σ ρ x v R r Q ⟨ρ',e,k⟩=>?_⟩;cases x with
 |t xs=>
  obtain⟨p,vs,rfl,hp,rr⟩:=r;have e:(if xs.length=n then gs xs ρ else none)=some ρ':=e;by_cases hl:xs.length=n
  .rw[if_pos hl]at e;exact⟨p,vs,rfl,hK▸hp,by rw[rr.len];exact hl,a2 B P H σ ρ xs vs R rr Q ⟨ρ',e,k⟩⟩
  .rw[if_neg hl]at e;cases e
 |_=>cases e
def Bo(g:MG)(m:ME):MS:=λρ=>(m ρ).bind λx=>(ZM (g x ρ)).bind λρ'=>.ok (.nx ρ')
def CW(h:EM X C S false e m)(hg:GM X C S S' tg g)(hs:swapsWithSole [tg] e pos.line X.env=pure false:=by rfl)(hw:swappedStores [tg] e X.env=pure none:=by rfl)(h1:(assignEach [tg] X.env).map (·.2)=[assign tg X.env]:=by rfl):SM X C S S' Sb Sc (.Assign [tg] e pos) (Bo g m):=λhK=>by
 obtain⟨te,a1,a2⟩:=h hK;obtain⟨t,b1,b2⟩:=hg hK;refine⟨_,iA a1 b1 hs hw h1,λB P H σ ρ R D q=>a2 B P H σ ρ R _ ?_⟩;unfold Bo at q;revert q;cases m ρ with
 |ok x=>
  intro q v H2 s r;have q:YT C B S' Sb Sc D ((ZM (g x ρ)).bind λρ'=>.ok (.nx ρ')):=q;cases hgx:g x ρ with
  |some ρ1=>rw[hgx]at q;exact b2 B P H2 σ ρ x v (R.keep s) r.rep _ ⟨ρ1,hgx,λσ' R'=>q P H2 σ' R'⟩
  |none=>rw[hgx]at q;exact q.elim
 |exc c fs=>exact id
 |wall=>exact id
def NA(B:Bs)(S:Ht)(P:HK):Addr->Prop:=λa=>¬B.xc a/\∀i,S[i]?=some 2->P i≠a
def xM(W:RC)(M N:Hz)(H2:Hp)(J:It)(xs:HW):Prop:=∀H',Fr N H2 H'->
 (∀i x,xs[i]?=some x->J.go i H'/\∀v H'',J.yld i H' v H''->zy H' H''/\∀M':Addr->Prop,(∀a,M a->H2 a≠none->M' a)->Rep W M' H'' x v)/\J.stop xs.length H'
abbrev MI:=Sto->Out (List PV)
def NAc(c:Bool)(B:Bs)(S:Ht)(P:HK):Addr->Prop:=if c=true then λ_=>True else NA B S P
def lT(C:LC)(B:Bs)(S:Ht)(P:HK)(c:Bool)(H:Hp)(R:It->Hp->Prop):Out (List PV)->Prop
 |.ok xs=>∀J H2,zy H H2->xM C.W (Mof B S P) (NAc c B S P) H2 J xs->R J H2
 |.exc c fs=>XPo C B c fs
 |.wall=>False
def LI(C:LC)(S:Ht)(c:Bool)(wi:TI)(mi:MI):Prop:=∀B P H σ ρ,Rel C.W B S P H σ ρ->∀R:It->Hp->Prop,lT C B S P c H R (mi ρ)->wi σ H R
def IM(X:Cx)(C:LC)(S:Ht)(c:Bool)(tg y9:HJ)(mi:MI):Prop:=X.K=C.W.K->∃wi,PI X tg y9 wi/\LI C S c wi mi
def km(g:MG)(b:MS):List PV->Sto->Out Fw
 |[],ρ=>.ok (.nx ρ)
 |x::xs,ρ=>(ZM (g x ρ)).bind λρ1=>(b ρ1).bind λf=>match f with
  |.nx ρ2=>km g b xs ρ2
  |.ct ρ2=>km g b xs ρ2
  |.bk ρ2=>.ok (.nx ρ2)
  |.rt v=>.ok (.rt v)
def ZN(mi:MI)(g:MG)(b:MS):MS:=λρ=>(mi ρ).bind λxs=>km g b xs ρ
end
open Classical in
def Bs.loop(B:Bs)(S:Ht)(P:HK)(H:Hp)(hz:∀a,B.N0 a->(¬((∃i,S[i]?=some 2/\P i=a)\/B.xc a))/\H a≠none):Bs where
 H0:=λa=>if(∃i,S[i]?=some 2/\P i=a)\/B.xc a then none else H a
 M0:=B.Mt
 N0:=B.N0
 nz:=λa h=>by rw[if_neg (hz a h).1];exact(hz a h).2
 pin:=B.pin
 xc:=B.xc
section
variable {W:RC}{B:Bs}{S S':Ht}{P P':HK}{H H':Hp}{σ σ':St}{ρ ρ':Sto}
def Rel.hz(R:Rel W B S P H σ ρ):∀a,B.N0 a->(¬((∃i,S[i]?=some 2/\P i=a)\/B.xc a))/\H a≠none:=λa h=>by
 have h0:=B.nz a h;refine⟨λz=>z.elim (λ⟨i,hi,e⟩=>h0 (e▸(R.act i hi).1)) (λz=>h0 (R.exc a z).choose_spec.2.2),λz=>?_⟩;cases q:B.H0 a with
 |none=>exact h0 q
 |some o=>rw[R.same a o q]at z;cases z
def Q1(R:Rel W B S P H σ ρ)(h:(B.loop S P H R.hz).H0 a=none):B.H0 a=none:=by
 cases q:B.H0 a with
 |none=>rfl
 |some o=>have n:¬((∃i,S[i]?=some 2/\P i=a)\/B.xc a):=λz=>z.elim (λ⟨i,hi,e⟩=>by rw[<- e,(R.act i hi).1]at q;cases q) (λz=>by rw[(R.exc a z).choose_spec.2.2]at q;cases q);unfold Bs.loop at h;dsimp only at h;rw[if_neg n,R.same a o q]at h;cases h
def Q2(R:Rel W B S P H σ ρ):zy B.H0 (B.loop S P H R.hz).H0:=λa o h=>by have n:¬((∃i,S[i]?=some 2/\P i=a)\/B.xc a):=λz=>z.elim (λ⟨i,hi,e⟩=>by rw[<- e,(R.act i hi).1]at h;cases h) (λz=>by rw[(R.exc a z).choose_spec.2.2]at h;cases h);unfold Bs.loop;dsimp only;rw[if_neg n];exact R.same a o h
def VP(R:Rel W B S P H σ ρ)(h:(B.loop S P H R.hz).Mt a):B.Mt a:=h.elim id λz=>.inr (Q1 R z)
def Rel.loop(R:Rel W B S P H σ ρ):Rel W (B.loop S P H R.hz) S P H σ ρ:=by
 have sM:∀a,Mof B S P a->H a≠none->Mof (B.loop S P H R.hz) S P a:=λa m _=>⟨⟨.inl m.1.1,m.1.2⟩,m.2⟩;refine⟨λa o h=>?_,R.len,λi x e=>?_,λi hi=>⟨?_,(R.act i hi).2⟩,R.inj,R.pin,λa h=>?_,R.axc⟩
 .unfold Bs.loop at h;dsimp only at h;split at h
  .cases h
  .exact h
 .obtain⟨v,h1,h2,h3,h4⟩:=R.var i x e;exact⟨v,h1,λz=>⟨(h2 z).1,(h2 z).2.gen rfl Fr.refl sM⟩,λz=>(h3 z).sub (λ_ m _=>m) sM,λz z'=>(h4 z z').sub sM⟩
 .unfold Bs.loop;dsimp only;rw[if_pos (.inl ⟨i,hi,rfl⟩)]
 .obtain⟨o,e,n,_⟩:=R.exc a h;exact⟨o,e,n,by unfold Bs.loop;dsimp only;rw[if_pos (.inr h)]⟩
def Rel.aZ(R:Rel W B S P H σ ρ)(R':Rel W (B.loop S P H R.hz) S' P' H' σ' ρ'):Rel W B S' P' H' σ' ρ':=by have sM:∀a,Mof (B.loop S P H R.hz) S' P' a->H' a≠none->Mof B S' P' a:=λa m _=>⟨⟨VP R m.1.1,m.1.2⟩,m.2⟩;refine⟨(Q2 R).trans R'.same,R'.len,λi x e=>?_,λi hi=>⟨Q1 R (R'.act i hi).1,(R'.act i hi).2⟩,R'.inj,R'.pin,λa h=>let⟨o,e,n⟩:=R'.exc a h;⟨o,e,n.1,Q1 R n.2⟩,R'.axc⟩;obtain⟨v,h1,h2,h3,h4⟩:=R'.var i x e;exact⟨v,h1,λz=>⟨(h2 z).1,(h2 z).2.gen rfl Fr.refl sM⟩,λz=>(h3 z).sub (λ_ m _=>m) sM,λz z'=>(h4 z z').sub sM⟩
def xN(R:Rel W B S P H σ ρ)(s:zy (B.loop S P H R.hz).H0 H'):Fr (NA B S P) H H':=λa o h m=>by
 have n:¬((∃i,S[i]?=some 2/\P i=a)\/B.xc a):=λz=>by
  rcases z with⟨i,hi,e⟩|z
  .rcases m with m|m
   .exact m.2 i hi e
   .obtain⟨_,o0,e0,n0⟩:=R.act i hi;rw[e,h]at e0;cases e0;exact n0 m
  .rcases m with m|m
   .exact m.1 z
   .obtain⟨o0,e0,n0,_⟩:=R.exc a z;rw[h]at e0;cases e0;exact n0 m
 refine s a o ?_;unfold Bs.loop;dsimp only;rw[if_neg n];exact h
def eV(hW:C.W=W)(R:Rel W B S P H σ ρ)(q:XPo C B c fs):XPo C (B.loop S P H R.hz) c fs:=λe dx es H2 s h1 h2 h3=>q e dx es H2 ((Q2 R).trans s) h1 h2 (h3.sub λa m _=>VP R m)
def lU(hW:C.W=W)(R:Rel W B S P H σ ρ)(h:tS C (B.loop S P H R.hz) H' x v):tS C B H' x v:=by
 unfold tS at h ⊢;by_cases f:C.fr=true
 .rw[if_pos f]at h ⊢;obtain⟨p,e,hp,r⟩:=h;exact⟨p,e,Q1 R hp,r.gen rfl Fr.refl λa m _=>⟨VP R m.1,m.2⟩⟩
 .rw[if_neg f]at h ⊢;exact h.sub λa m _=>VP R m
end
def Uj(hi:∀R:It->Hp->Prop,lT C B S P false H R (mi ρ)->wi σ H R)(hg:LG C S S1 g mg)(hb:LS C S1 S S S tb mb)(R:Rel C.W B S P H σ ρ)(D:Ends)(q:YT C B S Sb Sc D (ZN mi mg mb ρ)):Bi wi g tb D σ H:=by
 refine hi _ ?_;unfold ZN at q;revert q;cases mi ρ with
 |exc c fs=>exact id
 |wall=>exact id
 |ok xs=>
  intro q J H2 s2 io;have R2:=R.keep s2;have q:YT C B S Sb Sc D (km mg mb xs ρ):=q;refine⟨λi n σ' H'=>n=xs.length-i/\i<=xs.length/\∃ρ' P',Rel C.W (B.loop S P H2 R2.hz) S P' H' σ' ρ'/\YT C B S Sb Sc D (km mg mb (xs.drop i) ρ'),⟨_,rfl,T5 _,ρ,P,R2.loop,q⟩,?_⟩
  rintro i n σ' H' ⟨rfl,hle,ρ',P',R',q'⟩
  have io':=io H' (xN R2 R'.same);by_cases hlt:i<xs.length
  .have hx:xs[i]?=some xs[i]:=N4 hlt;obtain⟨go,yl⟩:=io'.1 i _ hx;refine .inr ⟨go,λσ2 H2'=>i+1<=xs.length/\∃ρ' P',Rel C.W (B.loop S P H2 R2.hz) S P' H2' σ2 ρ'/\YT C B S Sb Sc D (km mg mb (xs.drop (i+1)) ρ'),λσ2 H2' h=>⟨xs.length-(i+1),by omega,rfl,h.1,h.2⟩,λv H'' hy=>?_⟩;obtain⟨sy,ry⟩:=yl v H'' hy;have Ry:=R'.keep sy;have rx:=ry (Mof (B.loop S P H2 R2.hz) S P') λa m hn=>⟨⟨.inl m.1.1,m.1.2⟩,λj hj e=>by
    have z:=(R'.act j hj).1;rw[e]at z;unfold Bs.loop at z;dsimp only at z;rw[if_neg (λz=>z.elim (λ⟨k,hk,ek⟩=>m.2 k hk ek) m.1.2)]at z;exact hn z⟩
   rw[a0s hlt]at q';have q':YT C B S Sb Sc D ((ZM (mg xs[i] ρ')).bind λρ1=>(mb ρ1).bind λf=>match f with
    |.nx ρ2=>km mg mb (xs.drop (i+1)) ρ2
    |.ct ρ2=>km mg mb (xs.drop (i+1)) ρ2
    |.bk ρ2=>.ok (.nx ρ2)
    |.rt v=>.ok (.rt v)):=q'
   cases hgx:mg xs[i] ρ' with
   |none=>rw[hgx]at q';exact q'.elim
   |some ρ1=>
    rw[hgx]at q';refine hg _ P' H'' σ' ρ' _ v Ry rx _ ⟨ρ1,hgx,λσ1 R1=>hb _ P' H'' σ1 ρ1 R1 _ ?_⟩;have q':YT C B S Sb Sc D ((mb ρ1).bind λf=>match f with
     |.nx ρ2=>km mg mb (xs.drop (i+1)) ρ2
     |.ct ρ2=>km mg mb (xs.drop (i+1)) ρ2
     |.bk ρ2=>.ok (.nx ρ2)
     |.rt v=>.ok (.rt v)):=q'
    revert q';cases mb ρ1 with
    |exc c fs=>exact λq'=>eV rfl R2 q'
    |wall=>exact id
    |ok f=>
     cases f with
     |nx ρ2=>exact λq' P3 H3 σ3 R3=>⟨hlt,ρ2,P3,R3,q'⟩
     |ct ρ2=>exact λq' P3 H3 σ3 R3=>⟨hlt,ρ2,P3,R3,q'⟩
     |bk ρ2=>exact λq' P3 H3 σ3 R3=>q' P3 H3 σ3 (R2.aZ R3)
     |rt x=>exact λq' v H3 s3 h3=>q' v H3 ((Q2 R2).trans s3) (lU rfl R2 h3)
  .have e:i=xs.length:=by omega
   subst e;rw[a1q]at q';exact .inl ⟨io'.2,q' P' H' σ' (R2.aZ R')⟩
def CY(hi:LI C S false wi mi)(hg:LG C S S1 g mg)(hb:LS C S1 S S S tb mb):LS C S S Sb Sc (Bi wi g tb) (ZN mi mg mb):=λB P H σ ρ R D q=>Uj (hi B P H σ ρ R) hg hb R D q
def Zo(hp:PassesOwn (IP X) X.A X.env X.xe)(hc:X.calm=true)(hi:IM X C S false tg y9 mi)(hg:GM X C S S1 tg mg)(hb:SsM X C S1 S S S body mb)(hs:∀x,foldedSetIterable y9 X.env x=pure x:=by intro _;rfl):
  SM X C S S Sb Sc (.For tg y9 body [] pos) (ZN mi mg mb):=λhK=>by
 obtain⟨wi,a1,a2⟩:=hi hK;obtain⟨g,b1,b2⟩:=hg hK;obtain⟨tb,c1,c2⟩:=hb hK;exact⟨_,aj hp hc a1 b1 c1 hs,CY a2 b2 c2⟩
def LEn(C:LC)(S:Ht)(te:TE)(m:ME):Prop:=∀B P H σ ρ,Rel C.W B S P H σ ρ->∀Q,yj C B H (λH2=>yX C.W (NA B S P) (Mof B S P) H2) Q (m ρ)->te σ H Q
def EN(X:Cx)(C:LC)(S:Ht)(e:HJ)(m:ME):Prop:=X.K=C.W.K->∃te,PE X e te/\LEn C S te m
section
variable {X:Cx}{C:LC}{S S' S1 Sb Sc:Ht}{e a b o y9 tg:HJ}{es:HD}{w w1 w2:Bool}{ws:HI}{m m1 m2:ME}{ms:MA}{t1:MT}{s1 s2:MS}{pos p pos':Pos}{x:Str}{st:Ir}{sts stt:Ij}{i:Nat}
def Mof.na{B:Bs}{P:HK}{a:Addr}(m:Mof B S P a):NA B S P a:=⟨m.1.2,m.2⟩
def EM.en(h:EM X C S false e m):EN X C S e m:=λhK=>by obtain⟨te,a1,a2⟩:=h hK;exact⟨te,a1,λB P H σ ρ R Q q=>a2 B P H σ ρ R Q (ZV q λx v H2 s hr=>yX.sub hr (λa m _=>Mof.na m) λ_ m _=>m)⟩
def lV(h:PE X e (XZ i))(hS:S[i]?=some 1:=by rfl):EN X C S e (zc i):=λ_=>⟨_,h,λB P H σ ρ R Q q=>lv R q λx v hv e=>by
 obtain⟨v',hv',_,h3,_⟩:=R.var i x e;rw[hv]at hv';cases hv';refine yX.sub (h3 hS) (λa n _=>?_) λ_ m _=>m;have h0:=B.nz a n;exact⟨λz=>h0 (R.exc a z).choose_spec.2.2,λj hj e=>h0 (e▸(R.act j hj).1)⟩⟩
def Gq(K:Ih)(tl:TE):TI:=λσ H R=>tl σ H λx H1=>(∃a,x=.ref a/\(∃xs,SqL K H1 a xs)/\R (Itl K a) H1)\/∃a,x=.ref a/\(∃xs,SqT K H1 a xs)/\R (Itt K a) H1
def lW(hl:PE X l tl):PI X tg l (Gq X.K tl):=by
 intro pins s σ H R I h;refine thn (hl pins s σ H _ I h) λv s1 ⟨x,H1,I1,r1,q1⟩=>?_;rcases q1 with⟨a,e,⟨xs,hq⟩,q⟩|⟨a,e,⟨xs,hq⟩,q⟩
 .subst e;cases r1;obtain⟨its,rv,p,hz⟩:=I1.list hq;refine wpAny_pyIter_list p.isList ?_;refine⟨s1.heap.objs.size,[s1.heap.objs.size],_,_,H1,rfl,I1.kept (t':=s1.toks) λb o e=>L6 _ e,iB a _,⟨_,O5 _ rfl,rfl,rfl⟩,λb hb=>?_,q⟩;have e:b=s1.heap.objs.size:=by simpa using hb
  subst e;exact I1.Bh (M7 _) (I1.hok.fresh (M7 _))
 .subst e;cases r1;obtain⟨its,rv,p,hz⟩:=I1.tuple hq;refine wpAny_pyIter_tuple (show s1.heap.IsTuple a its.toArray from p) ?_;refine⟨s1.heap.objs.size,[s1.heap.objs.size],_,_,H1,rfl,I1.kept (t':=s1.toks) λb o e=>L6 _ e,gf a _,⟨_,O5 _ rfl,rfl,rfl⟩,λb hb=>?_,q⟩;have e:b=s1.heap.objs.size:=by simpa using hb
  subst e;exact I1.Bh (M7 _) (I1.hok.fresh (M7 _))
def lX{W:RC}{K:Ih}{M N:Hz}{H2:Hp}{a:Addr}{xs:HW}{vs:HF}(hMN:∀a,M a->N a)(h:∀H',Fr N H2 H'->SqL K H' a vs)(r:zX W M H2 xs vs):xM W M N H2 (Itl K a) xs:=λH' f=>by refine⟨λi x hx=>?_,vs,h H' f,by rw[r.len];exact M7 _⟩;obtain⟨v,hv,rv⟩:=r.get hx;refine⟨⟨vs,v,h H' f,hv⟩,λv' H'' hy=>?_⟩;obtain⟨rfl,y⟩:=hy;have:=y vs (h _ f);rw[hv]at this;cases this;exact⟨zy.refl _,λM' sM=>Rep.gen (λa o h m=>f a o h (m.imp (hMN a) id)) (λa m n=>sM a m n) rv⟩
def CZ{W:RC}{K:Ih}{M N:Hz}{H2:Hp}{a:Addr}{xs:HW}{vs:HF}(hMN:∀a,M a->N a)(h:∀H',Fr N H2 H'->SqT K H' a vs)(r:zX W M H2 xs vs):xM W M N H2 (Itt K a) xs:=λH' f=>by refine⟨λi x hx=>?_,vs,h H' f,by rw[r.len];exact M7 _⟩;obtain⟨v,hv,rv⟩:=r.get hx;refine⟨⟨vs,v,h H' f,hv⟩,λv' H'' hy=>?_⟩;obtain⟨rfl,y⟩:=hy;have:=y vs (h _ f);rw[hv]at this;cases this;exact⟨zy.refl _,λM' sM=>Rep.gen (λa o h m=>f a o h (m.imp (hMN a) id)) (λa m n=>sM a m n) rv⟩
def items:PV->Out (List PV)
 |.l xs=>.ok xs
 |.t xs=>.ok xs
 |.sc ns=>.ok (ns.map PV.i)
 |_=>.wall
def qy(m:ME):MI:=λρ=>(m ρ).bind items
variable {cc:Bool}
def Mof.nac{B:Bs}{P:HK}{a:Addr}(m:Mof B S P a):NAc cc B S P a:=by
 unfold NAc;cases cc with
 |true=>rw[if_pos rfl];trivial
 |false=>rw[if_neg M6];exact Mof.na m
def lY(hK:X.K=C.W.K)(a2:∀B P H σ ρ,Rel C.W B S P H σ ρ->∀Q,yj C B H (λH2=>yX C.W (NAc cc B S P) (Mof B S P) H2) Q (m ρ)->te σ H Q):LI C S cc (Gq X.K te) (qy m):=λB P H σ ρ R Q q=>by
 refine a2 B P H σ ρ R _ ?_;unfold qy at q;revert q;cases m ρ with
 |exc c fs=>exact id
 |wall=>exact id
 |ok y=>
  intro q v H2 s r;cases y with
  |l xs=>obtain⟨p,vs,rfl,n,hp,rr⟩:=r;exact .inl ⟨p,rfl,⟨vs,SqL.of hp⟩,q _ H2 s (lX (λa m=>Mof.nac m) (λH' f=>SqL.of (f _ _ hp (.inl n))) rr)⟩
  |t xs=>obtain⟨p,vs,rfl,hp,rr⟩:=r;rw[<- hK]at hp;exact .inr ⟨p,rfl,⟨vs,hp⟩,q _ H2 s (CZ (λa m=>Mof.nac m) (λH' f=>f.sqT hp) rr)⟩
  |sc ns=>obtain⟨p,rfl,hp⟩:=r;rw[<- hK]at hp;exact .inl ⟨p,rfl,⟨_,hp.sq⟩,q _ H2 s (lX (vs:=ns.map V.int) (λa m=>Mof.nac m) (λH' f=>(hp.frame f).sq) zX.ints)⟩
  |_=>exact q.elim
def Xp(h:EN X C S e m):IM X C S false tg e (qy m):=λhK=>by obtain⟨te,a1,a2⟩:=h hK;exact⟨_,lW a1,lY hK a2⟩
def VQ(h:EM X C S w e m):IM X C S true tg e (qy m):=λhK=>by obtain⟨te,a1,a2⟩:=h hK;exact⟨_,lW a1,lY hK λB P H σ ρ R Q q=>a2 B P H σ ρ R Q (ZV q λx v H2 s r=>r.weak)⟩
def gJ(lo:Int)(n:Nat):List PV:=(List.range n).map λk=>.i (lo+(k:Nat))
def xO{lo:Int}{n i:Nat}{x:PV}(h:(gJ lo n)[i]?=some x):i<n/\x=.i (lo+i):=by unfold gJ at h;rw[O2]at h;obtain⟨k,hk,rfl⟩:=u8.mp h;rw[N5]at hk;obtain⟨h1,h2⟩:=hk;rw[S9]at h1;rw[a1S]at h2;subst h2;exact⟨h1,rfl⟩
def xP{lo:Int}{n:Nat}:(gJ lo n).length=n:=by unfold gJ;rw[v0,S9]
def tW{W:RC}{M N:Hz}{H2:Hp}{lo:Int}{n:Nat}:xM W M N H2 (Itr lo n) (gJ lo n):=λH' f=>by refine⟨λi x hx=>?_,by rw[xP];exact M7 _⟩;obtain⟨hi,rfl⟩:=xO hx;refine⟨hi,λv H'' hy=>?_⟩;obtain⟨rfl,rfl⟩:=hy;exact⟨zy.refl _,λ_ _=>rfl⟩
def lZ:List PV->Out (List PV)
 |[.i n]=>if -(2 ^ 62)<=n/\n<2 ^ 62 then .ok (gJ 0 n.toNat)else .wall
 |_=>.wall
def l6:List PV->Out (List PV)
 |[.i a,.i b]=>if -(2 ^ 62)<=a/\a<2 ^ 62/\-(2 ^ 62)<=b/\b<2 ^ 62 then .ok (gJ a (b-a).toNat)else .wall
 |_=>.wall
def wj(ms:MA):MI:=λρ=>(ms ρ).bind lZ
def l7(ms:MA):MI:=λρ=>(ms ρ).bind l6
def wH(hg:Gl X "range")(hm:X.mg "range"=none)(ha:AM X C S ws [a] ms)(hs:starEach [a] X.env=[(false,eval a X.env)]:=by rfl):IM X C S cc tg (.Call (.Name "range" p) [a] [] pos) (wj ms):=λhK=>by
 obtain⟨ta,a1,a2⟩:=ha hK;refine⟨_,iC hg hm a1 hs,λB P H σ ρ R Q q=>a2 B P H σ ρ R _ ?_⟩;unfold wj at q;revert q;cases ms ρ with
 |exc c fs=>exact id
 |wall=>exact id
 |ok xs=>
  intro q vs H2 s r;have r:=r.weak;have q:lT C B S P cc H Q (lZ xs):=q;unfold lZ at q;split at q
  .split at q
   .rename_i hn;obtain⟨v,r',rfl,hx,hr⟩:=r;cases(show _=_ from hr);cases(show _=_ from hx);exact⟨_,rfl,hn.1,hn.2,q _ H2 s tW⟩
   .exact q.elim
  .exact q.elim
def xQ(hg:Gl X "range")(hm:X.mg "range"=none)(ha:AM X C S ws [a,b] ms)(hs:starEach [a,b] X.env=[(false,eval a X.env),(false,eval b X.env)]:=by rfl)(hs2:starEach [b] X.env=[(false,eval b X.env)]:=by rfl):IM X C S cc tg (.Call (.Name "range" p) [a,b] [] pos) (l7 ms):=λhK=>by
 obtain⟨ta,a1,a2⟩:=ha hK;refine⟨_,iD hg hm a1 hs hs2,λB P H σ ρ R Q q=>a2 B P H σ ρ R _ ?_⟩;unfold l7 at q;revert q;cases ms ρ with
 |exc c fs=>exact id
 |wall=>exact id
 |ok xs=>
  intro q vs H2 s r;have r:=r.weak;have q:lT C B S P cc H Q (l6 xs):=q;unfold l6 at q;split at q
  .split at q
   .rename_i hn;obtain⟨v,r',rfl,hx,v2,r2,rfl,hx2,hr⟩:=r;cases(show _=_ from hr);cases(show _=_ from hx);cases(show _=_ from hx2);exact⟨_,_,rfl,hn,q _ H2 s tW⟩
   .exact q.elim
  .exact q.elim
end
def noX{α:Type}:Out α->Out α
 |.exc _ _=>.wall
 |o=>o
def lcP(g:MG)(c:MT)(e:ME):List PV->Sto->List PV->Out PV
 |[],_,acc=>.ok (.l acc)
 |x::xs,ρ,acc=>(ZM (g x ρ)).bind λρ1=>(noX (c ρ1)).bind λt=>if t=true then(noX (e ρ1)).bind λy=>if acc.length<sizeLine then lcP g c e xs ρ1 (acc++[y])else .wall else lcP g c e xs ρ1 acc
def VR(ρ:Sto)(fr:HU):Sto:=fr.map λo=>match o with|none=>none|some j=>(ρ[j]?).join
def mLC(mi:MI)(fr:HU)(g:MG)(c:MT)(e:ME):ME:=λρ=>(mi ρ).bind λxs=>lcP g c e xs (VR ρ fr) []
def oS:MT:=λ_=>.ok true
def inS(S:Ht)(fr:HU):List Nat:=fr.map λo=>match o with|none=>0|some j=>if S[j]?=some 2\/S[j]?=some 1 then 1 else 0
def lcB(B:Bs)(S:Ht)(P:HK)(H:Hp)(acc:Addr):Bs:=⟨H,Mof B S P,λa=>H a≠none,λ_ h=>h,none,λa=>a=acc⟩
def l8{S:Ht}{fr:HU}{k c:Nat}(h:(inS S fr)[k]?=some c):c≠2:=by
 unfold inS at h;rw[O2]at h;obtain⟨o,ho,e⟩:=u8.mp h;intro z;rw[z]at e;cases o with
 |none=>cases e
 |some j=>dsimp only at e;split at e<;>cases e
section
variable {X:Cx}{C:LC}{S S' S1 Sb Sc:Ht}{e a b o y9 tg elt:HJ}{es ifs:HD}{w w1 w2:Bool}{ws:HI}{m m1 m2 me:ME}{ms:MA}{t1 mc:MT}{mg:MG}{mi:MI}{s1 s2:MS}{pos p pos':Pos}{x:Str}{st:Ir}{sts stt:Ij}{i:Nat}{scope:Scope}
def Rel.comp{W:RC}{B:Bs}{P:HK}{H H':Hp}{σ:St}{ρ:Sto}{acc:Addr}{fr:HU}{ys:HF}(R:Rel W B S P H σ ρ)(ha:H acc=none)(s:zy H H')(hy:H' acc=some (.lst ys)):Rel W (lcB B S P H acc) (inS S fr) (λ_=>0) H' (oP σ fr) (VR ρ fr):=by
 have n2:∀{k:Nat},(inS S fr)[k]?=some 2->False:=λ{k} h=>l8 h rfl;have sM:∀a,Mof B S P a->H a≠none->Mof (lcB B S P H acc) (inS S fr) (λ_=>0) a:=λa m n=>⟨⟨.inl m,λz=>n ((show a=acc from z)▸ha)⟩,λi hi=>(n2 hi).elim⟩;refine⟨s,by unfold oP VR;rw[v0,v0],λk x e=>?_,λi hi=>(n2 hi).elim,λi j hi=>(n2 hi).elim,λhi=>(n2 hi).elim,λa h=>?_,λi hi=>(n2 hi).elim⟩
 .unfold VR at e;rw[O2]at e;obtain⟨o,ho,e⟩:=u8.mp e;cases o with
  |none=>cases e
  |some j=>
   have e:(ρ[j]?).join=some x:=e;have hj:ρ[j]?=some (some x):=by
    cases q:ρ[j]? with
    |none=>rw[q]at e;cases e
    |some z=>rw[q]at e;cases z with
     |none=>cases e
     |some z=>cases e;rfl
   obtain⟨v,hv,h2,h3,h4⟩:=R.var j x hj;have hS:(inS S fr)[k]?=some (if S[j]?=some 2\/S[j]?=some 1 then 1 else 0):=by unfold inS;rw[O2,ho];rfl
   refine⟨v,by unfold oP;rw[O2,ho];show some ((σ[j]?).join)=_;rw[hv];rfl,λz=>(n2 z).elim,λz=>?_,λz z'=>?_⟩
   .rw[hS]at z;by_cases c2:S[j]?=some 2
    .obtain⟨rfl,ra⟩:=h2 c2;obtain⟨_,o,eo,_⟩:=R.act j c2;exact((ra.Ey (N:=λa=>H a≠none) (by rw[eo];intro z;cases z)).sub (λ_ m _=>m) sM).same s
    .by_cases c1:S[j]?=some 1
     .exact((h3 c1).sub (λa n q=>(R.hz a n).2) sM).same s
     .rw[if_neg (by rintro(q|q);exact c2 q;exact c1 q)]at z;cases z
   .rw[hS]at z';by_cases c:S[j]?=some 2\/S[j]?=some 1
    .rw[if_pos c]at z';exact absurd rfl z'
    .exact((h4 (λq=>c (.inl q)) (λq=>c (.inr q))).sub sM).same s
 .cases(show a=acc from h);exact⟨_,hy,id,ha⟩
def TsM(X:Cx)(C:LC)(S:Ht)(ifs:HD)(m:MT):Prop:=X.K=C.W.K->∃tt,PTs X ifs tt/\LT C S tt m
def VS:TsM X C S [] oS:=λ_=>⟨_,xt,λB P H σ ρ R Q q=>q H (zy.refl _)⟩
def l9(h:TM X C S c t1):TsM X C S [c] t1:=λhK=>let⟨tt,a1,a2⟩:=h hK;⟨tt,xu a1,a2⟩
def JO{ι:Type}{Y:ι->Cx}(h:∀z,EM (Y z) C S w e m)(hK:∀z,(Y z).K=C.W.K):∃te,(∀z,PE (Y z) e te)/\LE C S w te m:=
 ⟨λσ H Q=>∀z,(Classical.choose (h z (hK z))) σ H Q,λz pins s σ H Q I q=>(T4 (h z (hK z))).1 pins s σ H Q I (q z),λB P H σ ρ R Q q z=>(T4 (h z (hK z))).2 B P H σ ρ R Q q⟩
def JP{ι:Type}{Y:ι->Cx}(h:∀z,TsM (Y z) C S ifs mc)(hK:∀z,(Y z).K=C.W.K):∃te,(∀z,PTs (Y z) ifs te)/\LT C S te mc:=
 ⟨λσ H Q=>∀z,(Classical.choose (h z (hK z))) σ H Q,λz pins s σ H Q I q=>(T4 (h z (hK z))).1 pins s σ H Q I (q z),λB P H σ ρ R Q q z=>(T4 (h z (hK z))).2 B P H σ ρ R Q q⟩
def JQ{ι:Type}{Y:ι->Cx}(h:∀z,GM (Y z) C S S1 tg mg)(hK:∀z,(Y z).K=C.W.K):∃g,(∀z,PG (Y z) tg g)/\LG C S S1 g mg:=
 ⟨λv σ H Q=>∀z,(Classical.choose (h z (hK z))) v σ H Q,λz pins s σ H v u Q I r q=>(T4 (h z (hK z))).1 pins s σ H v u Q I r (q z),λB P H σ ρ x v R r Q q z=>(T4 (h z (hK z))).2 B P H σ ρ x v R r Q q⟩
def c5{wi:TI}{g:TG}{tc:TT}{te:TE}{fr:HU}{Si:Ht}{W:RC}{B:Bs}{P:HK}{H:Hp}{σ:St}{ρ:Sto}(hi:∀R:It->Hp->Prop,lT C B S P true H R (mi ρ)->wi σ H R)(hW:W=C.W)(hS:Si=inS S fr)(hg:LG ⟨W,E0,false⟩ Si Si g mg)(ht:LT ⟨W,E0,false⟩ Si tc mc)(he:LE ⟨W,E0,false⟩ Si false te me)(R:Rel C.W B S P H σ ρ)(Q:VK)(q:yj C B H (RFr C.W (Mof B S P) H) Q (mLC mi fr mg mc me ρ)):tLC wi g tc te fr σ H Q:=by
 subst hW hS;refine hi _ ?_;unfold mLC at q;revert q;cases mi ρ with
 |exc c fs=>exact id
 |wall=>exact id
 |ok xs=>
  intro q J H1 s1 io acc ha;have R1:=R.keep s1;have q:yj C B H (RFr C.W (Mof B S P) H) Q (lcP mg mc me xs (VR ρ fr) []):=q;have sM:∀a,Mof (lcB B S P H1 acc) (inS S fr) (λ_=>0) a->Mof B S P a/\a≠acc:=λa m=>⟨m.1.1.elim id λn=>R1.new a n,m.1.2⟩;refine⟨λi n σ' H'=>n=xs.length-i/\i<=xs.length/\∃ρ' ys vs,Rel C.W (lcB B S P H1 acc) (inS S fr) (λ_=>0) H' σ' ρ'/\H' acc=some (.lst vs)/\zX C.W (Mof (lcB B S P H1 acc) (inS S fr) (λ_=>0)) H' ys vs/\yj C B H (RFr C.W (Mof B S P) H) Q (lcP mg mc me (xs.drop i) ρ' ys),
   ⟨_,rfl,T5 _,VR ρ fr,[],[],R1.comp ha (zy.upd ha) zd,zd,rfl,q⟩,?_⟩
  rintro i n σ' H' ⟨rfl,hle,ρ',ys,vs,R',hacc,rys,q'⟩
  have io':=io H' (zy.fr R'.same);by_cases hlt:i<xs.length
  .have hx:xs[i]?=some xs[i]:=N4 hlt;obtain⟨go,yl⟩:=io'.1 i _ hx;refine .inr ⟨go,λσ2 H2'=>i+1<=xs.length/\∃ρ' ys vs,Rel C.W (lcB B S P H1 acc) (inS S fr) (λ_=>0) H2' σ2 ρ'/\H2' acc=some (.lst vs)/\zX C.W (Mof (lcB B S P H1 acc) (inS S fr) (λ_=>0)) H2' ys vs/\yj C B H (RFr C.W (Mof B S P) H) Q (lcP mg mc me (xs.drop (i+1)) ρ' ys),λσ2 H2' h=>⟨xs.length-(i+1),by omega,rfl,h.1,h.2⟩,λv H'' hy=>?_⟩;obtain⟨sy,ry⟩:=yl v H'' hy;have Ry:=R'.keep sy;have rx:=ry (Mof (lcB B S P H1 acc) (inS S fr) (λ_=>0)) λa m hn=>⟨⟨.inl m,λz=>hn ((show a=acc from z)▸ha)⟩,λj hj=>(l8 hj rfl).elim⟩;rw[a0s hlt]at q';unfold lcP at q';cases hgx:mg xs[i] ρ' with
   |none=>rw[hgx]at q';exact q'.elim
   |some ρ1=>
    rw[hgx]at q';refine hg _ _ H'' σ' ρ' _ v Ry rx _ ⟨ρ1,hgx,λσ1 R1'=>ht _ _ H'' σ1 ρ1 R1' _ ?_⟩;have q':yj C B H (RFr C.W (Mof B S P) H) Q ((noX (mc ρ1)).bind λt=>if t=true then(noX (me ρ1)).bind λy=>if ys.length<sizeLine then lcP mg mc me (xs.drop (i+1)) ρ1 (ys++[y])else .wall else lcP mg mc me (xs.drop (i+1)) ρ1 ys):=q';revert q';cases mc ρ1 with
    |exc c fs=>exact λq'=>q'.elim
    |wall=>exact id
    |ok t=>
     intro q' H5 s5;have R5:=R1'.keep s5;have hacc5:=s5 _ _ (sy _ _ hacc);have rys5:=(rys.same sy).same s5;cases t with
     |false=>exact B7 ⟨hlt,ρ1,ys,vs,R5,hacc5,rys5,q'⟩
     |true=>
      refine B8 (he _ _ H5 σ1 ρ1 R5 _ ?_);have q':yj C B H (RFr C.W (Mof B S P) H) Q ((noX (me ρ1)).bind λy=>if ys.length<sizeLine then lcP mg mc me (xs.drop (i+1)) ρ1 (ys++[y])else .wall):=q';revert q';cases me ρ1 with
      |exc c fs=>exact λq'=>q'.elim
      |wall=>exact id
      |ok y=>
       intro q' v6 H6 s6 r6;have q':yj C B H (RFr C.W (Mof B S P) H) Q (if ys.length<sizeLine then lcP mg mc me (xs.drop (i+1)) ρ1 (ys++[y])else .wall):=q';split at q'
       .rename_i hz;have R6:=R5.keep s6;have fr6:Fr (Mof (lcB B S P H1 acc) (inS S fr) (λ_=>0)) H6 (upd H6 acc (.lst (vs++[v6]))):=λa o h m=>by
         have:a≠acc:=λz=>by
          rcases m with m|m
          .exact m.1.2 z
          .rw[z,s6 _ _ hacc5]at h;cases h;exact m
         rw[zg this];exact h
        exact⟨vs,s6 _ _ hacc5,by rw[rys5.len];exact hz,hlt,ρ1,ys++[y],vs++[v6],R6.wrx (show(lcB B S P H1 acc).xc acc from rfl) (by exact id),zd,((rys5.same s6).append (.cons r6.rep .nil)).gen fr6 λ_ m _=>m,q'⟩
       .exact q'.elim
  .have e:i=xs.length:=by omega
   subst e;rw[a1q]at q';exact .inl ⟨io'.2,q' _ H' (s1.trans R'.same) ⟨acc,rfl,zy.none s1 ha,vs,hacc,rys.sub λa m _=>sM a m⟩⟩
def pQ{wi:TI}{g:TG}{tc:TT}{te:TE}{fr:HU}{Si:Ht}{W:RC}(hi:LI C S true wi mi)(hW:W=C.W)(hS:Si=inS S fr)(hg:LG ⟨W,E0,false⟩ Si Si g mg)(ht:LT ⟨W,E0,false⟩ Si tc mc)(he:LE ⟨W,E0,false⟩ Si false te me):LFr C S (tLC wi g tc te fr) (mLC mi fr mg mc me):=λB P H σ ρ R Q q=>c5 (hi B P H σ ρ R) hW hS hg ht he R Q q
abbrev CI:=List Addr×List (Addr×Obj)×Shared×Hp×Addr
abbrev cxI(X:Cx)(scope:Scope)(N:Hx)(z:CI):Cx:=qw X scope N z.1 z.2.1 z.2.2.1 z.2.2.2.1 z.2.2.2.2
def pR(N:Hx)(fr:HU)(Si:Ht)(hc:X.calm=true)(hok:gx X scope N fr=true)(hi:IM X C S true tg y9 mi)(hg:∀z:CI,GM (cxI X scope N z) ⟨C.W,E0,false⟩ Si Si tg mg)(ht:∀z:CI,TsM (cxI X scope N z) ⟨C.W,E0,false⟩ Si ifs mc)(he:∀z:CI,EM (cxI X scope N z) ⟨C.W,E0,false⟩ Si false elt me)(hS:Si=inS S fr:=by rfl)
  (hs:∀x,foldedSetIterable y9 X.env x=pure x:=by intro _;rfl):FM X C S (.ListComp elt [⟨tg,y9,ifs,0⟩] scope pos) (mLC mi fr mg mc me):=λhK=>by
 obtain⟨wi,a1,a2⟩:=hi hK;obtain⟨g,b1,b2⟩:=JQ hg λ_=>hK;obtain⟨tc,c1,c2⟩:=JP ht λ_=>hK;obtain⟨te,d1,d2⟩:=JO he λ_=>hK;exact⟨_,Ci N fr hc hok a1 (λfp pn s H L=>b1 ⟨fp,pn,s,H,L⟩) (λfp pn s H L=>c1 ⟨fp,pn,s,H,L⟩) (λfp pn s H L=>d1 ⟨fp,pn,s,H,L⟩) hs,pQ a2 rfl hS b2 c2 d2⟩
variable {y:Str}{b_ py:Pos}
def C0(N:Hx)(fr:HU)(Si:Ht)(hN:X.N.Nodup)(hy:X.N[i]?=some y)(hl:X.env.scope.names.lookup y=some .local)(hc:X.calm=true)(hok:gx X scope N fr=true)(hi:IM X C S true tg y9 mi)(hg:∀z:CI,GM (cxI X scope N z) ⟨C.W,E0,false⟩ Si Si tg mg)(ht:∀z:CI,TsM (cxI X scope N z) ⟨C.W,E0,false⟩ Si ifs mc)(he:∀z:CI,EM (cxI X scope N z) ⟨C.W,E0,false⟩ Si false elt me)(hS:Si=inS S fr:=by rfl)(hil:i<S.length:=by decide)(h0:i≠0:=by decide)
  (hsw:swapsWith (.ListComp elt [⟨tg,y9,ifs,0⟩] scope pos) (some (.Name y py)) b_.line X.env=pure true:=by rfl) (hs:∀x,foldedSetIterable y9 X.env x=pure x:=by intro _;rfl):SM X C S (S.set i 2) Sb Sc (.Assign [.Name y py] (.ListComp elt [⟨tg,y9,ifs,0⟩] scope pos) b_) (js i (mLC mi fr mg mc me)):=λhK=>by
 obtain⟨wi,a1,a2⟩:=hi hK;obtain⟨g,b1,b2⟩:=JQ hg λ_=>hK;obtain⟨tc,c1,c2⟩:=JP ht λ_=>hK;obtain⟨te,d1,d2⟩:=JO he λ_=>hK;exact⟨_,pF N fr hN hy hl hc hok a1 (λfp pn s H L=>b1 ⟨fp,pn,s,H,L⟩) (λfp pn s H L=>c1 ⟨fp,pn,s,H,L⟩) (λfp pn s H L=>d1 ⟨fp,pn,s,H,L⟩) hsw hs,lR (pQ a2 rfl hS b2 c2 d2) hil h0⟩
def Fz(N:Hx)(fr:HU)(Si:Ht)(hN:X.N.Nodup)(hy:X.N[i]?=some y)(hl:X.env.scope.names.lookup y=some .local)(hc:X.calm=true)(hok:gx X scope N fr=true)(hi:IM X C S true tg y9 mi)(hg:∀z:CI,GM (cxI X scope N z) ⟨C.W,E0,false⟩ Si Si tg mg)(ht:∀z:CI,TsM (cxI X scope N z) ⟨C.W,E0,false⟩ Si ifs mc)(he:∀z:CI,EM (cxI X scope N z) ⟨C.W,E0,false⟩ Si false elt me)(hS:Si=inS S fr:=by rfl)
  (hsw:swapsWith (.ListComp elt [⟨tg,y9,ifs,0⟩] scope pos) (some (.Name y py)) b_.line X.env=pure true:=by rfl) (hs:∀x,foldedSetIterable y9 X.env x=pure x:=by intro _;rfl):SM X C S (S.set i 0) Sb Sc (.Assign [.Name y py] (.ListComp elt [⟨tg,y9,ifs,0⟩] scope pos) b_) (js i (mLC mi fr mg mc me)):=λhK=>by
 obtain⟨wi,a1,a2⟩:=hi hK;obtain⟨g,b1,b2⟩:=JQ hg λ_=>hK;obtain⟨tc,c1,c2⟩:=JP ht λ_=>hK;obtain⟨te,d1,d2⟩:=JO he λ_=>hK;refine⟨_,pF N fr hN hy hl hc hok a1 (λfp pn s H L=>b1 ⟨fp,pn,s,H,L⟩) (λfp pn s H L=>c1 ⟨fp,pn,s,H,L⟩) (λfp pn s H L=>d1 ⟨fp,pn,s,H,L⟩) hsw hs,tT λB P H σ ρ R Q q=>pQ a2 rfl hS b2 c2 d2 B P H σ ρ R Q (ZV q λx v H2 s hr=>RV.of (hr.rep R.new))⟩
end
def Qv(fr:Bool)(n:Nat)(ms:MS)(xs:HW):Out PV:=match ms (xs.map some++List.replicate (n-xs.length) none)with
 |.ok (.nx _)=>if fr=true then .wall else .ok .n
 |.ok (.rt x)=>.ok x
 |.ok (.bk _)=>.wall
 |.ok (.ct _)=>.wall
 |.exc c fs=>.exc c fs
 |.wall=>.wall
def WT(ws:HI)(n:Nat):List Nat:=ws.map (λw=>if w=true then 1 else 0)++List.replicate (n-ws.length) 0
def l_{ws:HI}{n k:Nat}:(WT ws n)[k]?≠some 2:=by
 unfold WT;rw[a1D];split
 .rw[O2];intro h;obtain⟨w,_,e⟩:=u8.mp h;split at e<;>cases e
 .rw[a0w];intro h;split at h<;>cases h
def ZW.get{W:RC}{M:Hz}{H:Hp}:∀{ws:HI}{xs:HW}{vs:HF}{k:Nat}{x:PV},ZW W M H ws xs vs->xs[k]?=some x->∃v w,vs[k]?=some v/\ws[k]?=some w/\yX W (if w=true then λ_=>True else M) M H x v
 |[],_,_,_,_,⟨e1,e2⟩,h=>by subst e1;simp at h
 |w::ws,_,_,0,x,⟨y,v,xr,vr,e1,e2,h1,h2⟩,h=>by subst e1;subst e2;simp at h;subst h;exact⟨v,w,rfl,rfl,h1⟩
 |w::ws,_,_,k+1,x,⟨y,v,xr,vr,e1,e2,h1,h2⟩,h=>by subst e1;subst e2;simp only[List.getElem?_cons_succ]at h ⊢;exact ZW.get h2 h
def md{xs:HW}{n k:Nat}{x:PV}(h:(xs.map some++List.replicate (n-xs.length) none)[k]?=some (some x)):xs[k]?=some x:=by
 rw[a1D]at h;split at h
 .rw[O2]at h;obtain⟨y,hy,e⟩:=u8.mp h;cases e;exact hy
 .rw[a0w]at h;split at h<;>cases h
def ig(H:Hp)(M:Hz):Bs:=⟨H,M,λa=>H a≠none,λ_ h=>h,none,λ_=>False⟩
def VT(h:ZW W M H ws xs vs)(hn:ws.length<=N.length):Rel W (ig H M) (WT ws N.length) (λ_=>0) H (start N vs) (xs.map some++List.replicate (N.length-xs.length) none):=by
 have n2:∀{k:Nat},(WT ws N.length)[k]?=some 2->False:=λ{k} h=>l_ h;have sM:∀a,M a->H a≠none->Mof (ig H M) (WT ws N.length) (λ_=>0) a:=λa m _=>⟨⟨.inl m,id⟩,λi hi=>(n2 hi).elim⟩;obtain⟨l1,l2⟩:=h.len;refine⟨zy.refl _,?_,λk x e=>?_,λi hi=>(n2 hi).elim,λi j hi=>(n2 hi).elim,λhi=>(n2 hi).elim,λa h=>h.elim,λi hi=>(n2 hi).elim⟩
 .unfold start;rw[O1,O1,v0,v0,a0A,a0A,l1,l2]
 .obtain⟨v,w,hv,hw,r⟩:=h.get (md e);have hk:k<vs.length:=(N5.mp hv).1;have hS:(WT ws N.length)[k]?=some (if w=true then 1 else 0):=by unfold WT;rw[S6 (by rw[v0,<- l1];exact hk),O2,hw];rfl
  refine⟨v,?_,λz=>(n2 z).elim,λz=>?_,λ_ z=>?_⟩
  .unfold L2.start;rw[S6 (by rw[v0];exact hk),O2,hv];rfl
  .rw[hS]at z;refine yX.sub r (λa _ n=>n) sM
  .rw[hS]at z;cases w with
   |true=>exact absurd rfl z
   |false=>exact(yX.iff.mp r).sub sM
section
variable {P:HQ}{w:H_}{K:Ih}{mg:Hv}{base:Heap}
def ya{x qual:Str}{st:Ir}{f:Addr}{fd:Ib}{N ps:Hx}{k n:Nat}{W:RC}{fr:Bool}{ws:HI}{ms:MS}{S' Sb Sc:Ht}(F:Fun K x qual st f fd)(S:zv N ps (zj st))(hW:K=W.K)(hl:ws.length=ps.length)(hN:N.length=n)(hn:ws.length<=n)
  (h:∀(cdv:Value)(A:Ia)(outer:List Env)(s:Hy)(H:Hp)(E:XK),jO k (A.deeper (envOfC qual (zj st) s.heap.objs.size f cdv))->SsM (thr (Xi (CXe P w) P w K mg base N qual (zj st) f cdv A outer s H E) E) ⟨W,E,fr⟩ (WT ws n) S' Sb Sc (kB st) ms):
  jr P w K mg base (CXe P w) (k+1) f fd ps (lsp W fr ws (Qv fr n ms)):=by
 subst hN;refine F.okX S (lM hl) λcdv A outer s H vs Q E hr ⟨M,xs,ha,q⟩=>?_;obtain⟨ts,t1,t2⟩:=h cdv A outer s H E hr hW;refine⟨ts,t1,t2 (ig H M) _ H _ _ (VT ha hn) _ ?_⟩;unfold Qv at q;revert q;cases ms (xs.map some++List.replicate (N.length-xs.length) none)with
 |exc c fs=>exact λq e dx es H2 s h1 h2 h3=>q e dx es H2 s h1 h2 h3
 |wall=>exact id
 |ok fl=>
  cases fl with
  |nx ρ'=>
   intro q P' H' σ' R';cases fr with
   |true=>exact q.elim
   |false=>exact q .non H' R'.same rfl
  |rt y=>exact λq v H' s r=>q v H' s r
  |bk ρ'=>exact λq=>q.elim
  |ct ρ'=>exact λq=>q.elim
end
def xR(C:Addr)(fs:Hx):Sp:=λvs H Q _=>∃e us,vs=.ref e::us/\us.length=fs.length/\H e=some (XO e C none .none)/\∀dx,H dx=none->Q .non (upd (upd H dx (XD dx (fs.zip us))) e (XO e C (some dx) .none))
def Zp(c:Nat)(fns:Hx)(ms:MA):MS:=λρ=>(ms ρ).bind λxs=>if xs.length=fns.length/\xs.length<=1000 then .exc c (fns.zip xs)else .wall
def wd.zip{W:RC}{M:Hz}{H:Hp}:∀{fns:Hx}{xs:HW}{vs:HF},zX W M H xs vs->xs.length=fns.length->wd W M H (fns.zip xs) (fns.zip vs)
 |[],[],_,h,_=>by cases(show _=_ from h);rfl
 |f::fns,x::xs,_,h,e=>by obtain⟨v,r,rfl,h1,h2⟩:=h;exact⟨v,_,rfl,h1,wd.zip h2 (by simpa using e)⟩
 |[],_::_,_,_,e=>by cases e
 |_::_,[],_,_,e=>by cases e
def wI(hh:X.calm=true)(M:XMk X.K (C.W.cls c) f)(xc:QV X.K (C.W.cls c))(F:jr X.prog X.w X.K X.mg X.base (CXe X.prog X.w) k f fd ps (xR (C.W.cls c) fns))(hr:jO (k+1) X.A)(hg:Gl X x)(hm:X.mg x=some (.ref (C.W.cls c)))(hb:Binds X.K fd ps [])
  (ha:AM (thr X C.E) C S ws (e::es) ms) (hw:ws.all (!·)=true:=by rfl) (hdb:(x==("__debug__":Str))=false:=by decide) (he:starEach (e::es) X.env=(false,eval e X.env)::starEach es X.env:=by rfl) (hpl:(backTo wA (starEach es X.env)).any (·.1)=false:=by rfl):
  SM (thr X C.E) C S S' Sb Sc (.Raise (some (.Call (.Name x p) (e::es) [] wA)) none pos) (Zp c fns ms):=λhK=>by
 obtain⟨ta,a1,a2⟩:=ha hK;refine⟨_,pB hh (pA (X:=thr X C.E) M F hr hg hm hb zZ a1 hdb he hpl),λB P H σ ρ R D q=>?_⟩;show ta σ H _;refine a2 B P H σ ρ R _ ?_;unfold Zp at q;revert q;cases ms ρ with
 |exc c fs=>exact id
 |wall=>exact id
 |ok xs=>
  intro q vs H1 s1 r1;have rs:=r1.EB hw;have q:YT C B S' Sb Sc D (if xs.length=fns.length/\xs.length<=1000 then .exc c (fns.zip xs)else .wall):=q;split at q
  .rename_i hz;refine⟨by rw[rs.len];exact hz.2,λy hy=>⟨y,vs,rfl,by rw[rs.len];exact hz.1,zd,λdx hdx=>⟨rfl,y,_,dx,rfl,hK▸xc,zd,?_⟩⟩⟩;have ne:dx≠y:=λz=>by rw[z,zd]at hdx;cases hdx
   rw[zg ne]at hdx;rw[vH];have sm:zy H1 (upd (upd (upd H1 y (XO y (C.W.cls c) none .none)) dx (XD dx (fns.zip vs))) y (XC y (C.W.cls c) dx)):=λb q hb=>by rw[zg (qp hb hy),zg (qp hb hdx),zg (qp hb hy)];exact hb
   exact q y dx (fns.zip vs) _ (R.same.trans (s1.trans sm)) zd (by rw[zg ne,zd]) ((wd.zip rs hz.1).gen sm.fr λa m _=>m.1.1)
  .exact q.elim
def qz{S:Ht}{i:Nat}:∀j:Nat,(S.set i 0)[j]?=some 2->S[j]?=some 2:=λ_ h=>(yU (c:=0) h).1
section
variable {X:Cx}{C:LC}{S:Ht}{e a b:HJ}{w w1 w2:Bool}{m m1 m2:ME}{pos:Pos}
def c6:ME:=λ_=>.ok (.d [])
def Uk:FM X C S (.Dict [] [] pos) c6:=λhK=>⟨_,pe,λB P H σ ρ R Q q=>λp hp=>q _ _ (zy.upd hp) (xF (xs:=[]) (vs:=[]) rfl hp)⟩
end
section
variable {α β:Type}{a b:Int}{x y:PV}{ρ:Sto}{m m1 m2:ME}
def ZY{a:α}{f:α->Out β}:(Out.ok a).bind f=f a:=rfl
def a5(h1:-(2 ^ 64)<a)(h2:a<2 ^ 64):qe (.i a) (.i b)=.ok (.i (a*b)):=by show(if o8 a b\/_ then _ else _)=_;rw[if_pos (.inl (.inl ⟨h1,h2⟩))]
def tX(h1:-(2 ^ 64)<b)(h2:b<2 ^ 64):qe (.i a) (.i b)=.ok (.i (a*b)):=by show(if o8 a b\/_ then _ else _)=_;rw[if_pos (.inl (.inr ⟨h1,h2⟩))]
def C1(h1:0<b)(h2:b<1073741824):aS (.i a) (.i b)=.ok (.i (a / b)):=by show(if Bj a b then _ else _)=_;rw[if_pos ⟨h1,h2⟩]
def mf(h1:0<b):JM (.i a) (.i b)=.ok (.i (a % b)):=by show(if 0<b then _ else _)=_;rw[if_pos h1]
def eW(h1:0<=b)(h2:b<=1000000)(h3:a.natAbs<2 ^ 64):qU (.i a) (.i b)=.ok (.i (a ^ b.toNat)):=by show(if Bk a b then _ else _)=_;rw[if_pos ⟨h1,h2,h3⟩]
def C2:pIx (.l xs) (.i a)=ZM (atI xs a):=rfl
def a6{a:α}:ZM (some a)=.ok a:=rfl
def mj(h:z.length<=sizeLine):wg [.s z]=.ok (.i z.length):=by show(if _ then _ else _)=_;rw[if_pos h]
def FA{xs:List α}{x:α}:atI (x::xs) 0=some x:=by unfold atI ixN;rw[if_pos (a1Q _),if_pos (by simp)];rfl
def a7{xs:List α}(h:0<=k):atI xs k=xs[k.toNat]?:=by
 unfold atI ixN;rw[if_pos h];by_cases c:k<xs.length
 .rw[if_pos c];rfl
 .rw[if_neg c];symm;exact a06.mpr (by omega)
def pS{xs:List α}:atI xs (-1)=xs.getLast?:=by
 unfold atI ixN;rw[if_neg (by decide)];cases xs with
 |nil=>rfl
 |cons x xs=>rw[if_pos (by simp only[List.length_cons];omega)];rw[List.getLast?_eq_getElem?];show(x::xs)[((-1:Int)+((xs.length+1:Nat):Int)).toNat]?=(x::xs)[xs.length+1-1]?;congr 1;omega
def Ul{α:Type}[BEq α][LawfulBEq α][DecidableEq α]{a b:α}:(a==b)=decide (a=b):=by
 by_cases h:a=b
 .subst h;simp
 .simp[h]
def C3:qK n (.i a) (.i b)=.ok (.b (xor n (decide (a=b)))):=by show Out.ok (PV.b (xor n (a==b)))=_;rw[Ul]
def FC{n:Bool}{x y:Str}:qK n (.s x) (.s y)=.ok (.b (xor n (decide (x=y)))):=by show Out.ok (PV.b (xor n (x==y)))=_;rw[Ul]
def C4:qK n (.l xs) (.l ys)=match cS (ae 7) xs ys with|some b=>.ok (.b (xor n b))|none=>.wall:=rfl
def c7:qK n (.t xs) (.t ys)=match cS (ae 7) xs ys with|some b=>.ok (.b (xor n b))|none=>.wall:=rfl
def kE:cS f (x::xs) (y::ys)=ED (f x y) (cS f xs ys):=rfl
def xS:cS f (y::ys) []=some false:=rfl
def a8:ae n (.i a) (.i b)=some (decide (a=b)):=by cases n<;>(show some (a==b)=_;rw[Ul])
def a9{n:Nat}{x y:Str}:ae n (.s x) (.s y)=some (decide (x=y)):=by cases n<;>(show some (x==y)=_;rw[Ul])
def Q3{f:Iz}:∀{xs:HW},(∀x∈xs,f x x=some true)->cS f xs xs=some true
 |[],_=>rfl
 |x::xs,h=>by rw[kE,h x M3,Q3 λy hy=>h y (L9 _ hy)];rfl
def FD(h:ns≠[]):lK [.l (ns.map PV.i)]=.ok (.i (ie ns)):=by show ZM ((oR (ns.map PV.i)).bind _)=_;rw[Ug];show ZM (if ns=[]then none else _)=_;rw[if_neg h];rfl
def yV{fr:Bool}{n:Nat}{ms:MS}{xs:HW}{x:PV}(h:ms (xs.map some++List.replicate (n-xs.length) none)=.ok (.rt x)):Qv fr n ms xs=.ok x:=by unfold Qv;rw[h]
def xT(h:s ρ=.ok (.nx ρ')):yY s t ρ=t ρ':=by unfold yY;rw[h];rfl
def VU(h:s ρ=.ok (.rt x)):yY s t ρ=.ok (.rt x):=by unfold yY;rw[h];rfl
end
def tY{α:Type}{a:α}:noX (.ok a)=.ok a:=rfl
def JR{α:Type}{g:MG}{c:MT}{e:ME}(it:α->PV)(keep:α->Bool)(out:α->PV)(J:Sto->Prop):∀(xs:List α)(ρ:Sto)(acc:HW),J ρ->(∀x∈xs,∀ρ,J ρ->∃ρ1,g (it x) ρ=some ρ1/\J ρ1/\c ρ1=.ok (keep x)/\(keep x=true->e ρ1=.ok (out x)))->acc.length+xs.length<=100000->lcP g c e (xs.map it) ρ acc=.ok (.l (acc++(xs.filter keep).map out))
 |[],ρ,acc,_,_,_=>by simp[lcP]
 |x::xs,ρ,acc,hJ,h,hl=>by
  obtain⟨ρ1,h1,h2,h3,h4⟩:=h x M3 ρ hJ;rw[v4]at hl;rw[O7];unfold lcP;rw[h1,a6,ZY,h3,tY,ZY];cases hk:keep x with
  |true=>rw[if_pos rfl,h4 hk,tY,ZY,if_pos (N7 (show acc.length<100000 by omega) (by decide)),List.filter_cons_of_pos hk,O7];rw[JR it keep out J xs ρ1 (acc++[out x]) h2 (λz hz=>h z (L9 _ hz)) (by rw[O1];show acc.length+1+_<=_;omega),T7];rfl
  |false=>rw[if_neg M6,List.filter_cons_of_neg (by rw[hk];exact M6)];exact JR it keep out J xs ρ1 acc h2 (λz hz=>h z (L9 _ hz)) (by omega)
def Qw{α:Type}(it:α->PV)(out:α->PV)(J:Sto->Prop)(xs:List α)(ρ:Sto)(hJ:J ρ)(h:∀x∈xs,∀ρ,J ρ->∃ρ1,g (it x) ρ=some ρ1/\J ρ1/\e ρ1=.ok (out x))(hl:xs.length<=100000):lcP g oS e (xs.map it) ρ []=.ok (.l (xs.map out)):=by rw[JR (c:=oS) it (λ_=>true) out J xs ρ [] hJ (λx hx ρ hρ=>let⟨ρ1,a,b,c⟩:=h x hx ρ hρ;⟨ρ1,a,b,rfl,λ_=>c⟩) (by simpa using hl)];rw[List.filter_eq_self.mpr λ_ _=>rfl];rfl
def a_{ns:HY}:WS [.l (ns.map PV.i)]=.ok (.i ns.sum):=by show ZM ((oR (ns.map PV.i)).map _)=_;rw[Ug,Option.map_some,a6]
def wm{n:Nat}:∀{xs:Hx},cS (ae n) (xs.map PV.s) (xs.map PV.s)=some true
 |[]=>rfl
 |x::xs=>by rw[O7,kE,a9,wm,L8 rfl];rfl
end L2
namespace L2
open PySem
end L2
namespace L2
open PySem PySem.Spec PyProof.Rows PySem.W
section
variable {X:Cx}
def VV:∀{xs:HF}{us:HB},xs.length=us.length->(∀(j:Nat) x u,xs[j]?=some x->us[j]?=some u->RelV x u)->Vals xs us
 |[],[],_,_=>.nil
 |x::xs,u::us,hl,h=>.cons (h 0 x u rfl rfl) (VV (by simpa using hl) λj y v e1 e2=>h (j+1) y v (by simpa using e1) (by simpa using e2))
def pT(I:Inv X pins σ H s)(hs:s.heap.objs.size<=l)(hk:∀b o,s.heap.get? b=some o->h'.get? b=some o)
  (hl:h'.get? l=some { cls:=.type "list",dict:=none,data:=.seq acc c,slots:=#[] }) (hz:ys.length<=sizeLine) (hy:ys.length=acc.size) (hv:∀(j:Nat) x u,ys[j]?=some x->acc[j]?=some u->RelV x u) (q:∀l,H l=none->Q (.ref l) (upd H l (.lst ys))):
  EP X pins σ Q (.ref l) { s with heap:=h',toks:=tk }:=
 ⟨.ref l,_,I.laid (t':=tk) hk hs (show yM X.prog X.w _ h' _ (.lst ys)from⟨hz,acc.toList,c,VV (by rw[a0M];exact hy) (λj x u e1 e2=>hv j x u e1 (by simpa using e2)),by rw[Array.toArray_toList];exact hl⟩),rfl,q _ (I.hok.fresh hs)⟩
end
section
variable {prog:HQ}{w:H_}{A:Ia}{E:Hw}{s:Hy}
end
section
variable {X:Cx}
end
section
variable {X:Cx}{C:LC}{S:Ht}{e:HJ}{ws:HI}{ms:MA}{pos p pos' p':Pos}
end
def C5{α β:Type}(o:Out α)(f:α->Out β):Out β:=match o with
 |.ok a=>f a
 |.exc _ _=>.wall
 |.wall=>.wall
def eX(g:HP)(ms:MA):ME:=λρ=>C5 (ms ρ) g
abbrev LC.nox(C:LC):LC:=⟨C.W,E0,C.fr⟩
section
variable {X:Cx}{C:LC}{S S' S1 S2 Sb Sc:Ht}{e:HJ}{es:HD}{ws:HI}{ms:MA}{pos p pos':Pos}{x y:Str}{k i j:Nat}{f:Addr}{fd:Ib}{ps:Hx}{fr:Bool}{g:HP}{m1 m2:MS}
def tZ(R:Rel C.W B S P H σ ρ)(m:Mof B S P a\/H a=none):Mof B S P a:=m.elim id λn=>R.new a n
def ba(g:HP)(ms:MA):ME:=λρ=>C5 (ms ρ) λxs=>C5 (g xs) .ok
def pV(F:gB X.prog X.w X.K X.mg X.base k f fd ps (lsp C.W fr ws g))(hr:aO k X.A)(hg:Gl X x)(hm:X.mg x=some (.ref f))(hk:keepIn X.K (.ref f)=true)(hb:Binds X.K fd ps [])(ha:AM X C.nox S ws (e::es) ms)
  (hdb:(x==("__debug__":Str))=false:=by decide) (he:starEach (e::es) X.env=(false,eval e X.env)::starEach es X.env:=by rfl) (hpl:(backTo pos (starEach es X.env)).any (·.1)=false:=by rfl):EM X C S false (.Call (.Name x p) (e::es) [] pos) (ba g ms):=λhK=>by
 obtain⟨ta,a1,a2⟩:=ha hK;refine⟨_,pJ F hr hg hm hk hb a1 hdb he hpl,λB P H σ ρ R Q q=>a2 B P H σ ρ R _ ?_⟩;unfold ba at q;revert q;cases ms ρ with
 |exc c fs=>exact λq=>q.elim
 |wall=>exact id
 |ok xs=>
  intro q vs H1 s1 r1;have R1:=R.keep s1;refine⟨_,xs,r1.args,?_⟩;have q:yj C B H (RV C B S P false) Q (C5 (g xs) .ok):=q;revert q;cases g xs with
  |ok r=>
   intro q v H2 s hr;refine q v H2 (s1.trans s) (RV.of ?_);unfold RtV at hr;cases fr with
   |true=>rw[if_pos rfl]at hr;exact(hr.sub λa m=>tZ R1 m).rep R1.new
   |false=>rw[if_neg M6]at hr;exact hr.sub λa m _=>tZ R1 m
  |exc c fs=>exact λq=>q.elim
  |wall=>exact id
end
section
variable {P:HQ}{w:H_}{K:Ih}{mg:Hv}{base:Heap}
def mq{x qual:Str}{st:Ir}{f:Addr}{fd:Ib}{N ps:Hx}{k n:Nat}{W:RC}{fr:Bool}{ws:HI}{ms:MS}{S' Sb Sc:Ht}(F:Fun K x qual st f fd)(S:zv N ps (zj st))(hW:K=W.K)(hl:ws.length=ps.length)(hN:N.length=n)(hn:ws.length<=n)
  (h:∀(cdv:Value)(A:Ia)(outer:List Env)(s:Hy)(H:Hp)(E:XK),aO k (A.deeper (envOfC qual (zj st) s.heap.objs.size f cdv))->SsM (Xi (CXe P w) P w K mg base N qual (zj st) f cdv A outer s H E).hx ⟨W,E,fr⟩ (WT ws n) S' Sb Sc (kB st) ms):
  gB P w K mg base (k+1) f fd ps (lsp W fr ws (Qv fr n ms)):=by
 subst hN;refine F.okH S (lM hl) λcdv A outer s H vs Q E hr ⟨M,xs,ha,q⟩=>?_;obtain⟨ts,t1,t2⟩:=h cdv A outer s H E hr hW;refine⟨ts,t1,t2 (ig H M) _ H _ _ (VT ha hn) _ ?_⟩;unfold Qv at q;revert q;cases ms (xs.map some++List.replicate (N.length-xs.length) none)with
 |exc c fs=>exact λq e dx es H2 s h1 h2 h3=>q e dx es H2 s h1 h2 h3
 |wall=>exact id
 |ok fl=>
  cases fl with
  |nx ρ'=>
   intro q P' H' σ' R';cases fr with
   |true=>exact q.elim
   |false=>exact q .non H' R'.same rfl
  |rt y=>exact λq v H' s r=>q v H' s r
  |bk ρ'=>exact λq=>q.elim
  |ct ρ'=>exact λq=>q.elim
end
def Inv.swap(I:Inv X pins σ H s)(ha:H a=some u)(h1:∀xs,u≠.tup xs)(h2:∀o v,X.H₀ a≠some (.frz o v))(h3:∀ps,u≠.tbl ps)(h4:∀b,u≠.own b)(new:yM X.prog X.w (upd H a u') s.heap a u'):Inv X pins σ (upd H a u') s:=by
 have ne:∀b,H b=none->b≠a:=λb n z=>by rw[z,ha]at n;cases n
 have nt:∀b xs,H b=some (.tup xs)->b≠a:=λb xs q z=>by rw[z,ha]at q;cases q;exact h1 _ rfl
 have no:∀b c,H b=some (.own c)->b≠a:=λb c q z=>by rw[z,ha]at q;cases q;exact h4 _ rfl
 have nn:∀{b},b≠a->upd H a u' b=H b:=λz=>zg z;refine⟨I.ok,I.os,I.bare,⟨I.base.keep,I.base.slot,λb o q n hx=>?_,I.base.there,λb xs q=>?_,λb o v q=>?_,λb ps q=>?_⟩,I.loc,I.cell,?_,λx c q=>?_,λp hp=>?_,λb v q=>?_,I.len⟩
 .have:=I.base.free b o q n hx;rw[nn (ne b this)];exact this
 .have:=I.base.oY b xs q;rw[nn (nt b xs this)];exact this
 .have hb:b≠a:=λz=>h2 o v (z▸q);rw[nn hb];exact I.base.ip b o v q
 .obtain⟨more,e⟩:=I.base.oI b ps q;have hb:b≠a:=λz=>by rw[z,ha]at e;cases e;exact h3 _ rfl
  exact⟨more,by rw[nn hb];exact e⟩
 .rw[nn (ne _ I.free)];exact I.free
 .rw[nn (ne _ (I.Yv x c q))];exact I.Yv x c q
 .obtain⟨p1,p2,p3⟩:=I.pin p hp;exact⟨p1,by rw[nn (ne _ p2)];exact p2,p3⟩
 .by_cases hb:b=a
  .subst hb;rw[zd]at q;cases q;exact new
  .rw[nn hb]at q;exact(I.hok b v q).h_ (λ_ _ _ r=>r) (λc r=>by rw[nn (no c b r)];exact r) λc xs r=>by rw[nn (nt c xs r)];exact r
def Inv.eY(I:Inv X pins σ H s)(ha:H a=some (.dK es)):∀o v,X.H₀ a≠some (.frz o v):=λo v q=>by have:=I.base.ip a o v q;rw[ha]at this;cases this
def Inv.FE(I:Inv X pins σ H s)(ha:H a=some (.dK es)):∃o,Inv X pins σ (upd H a (.frz o (.dK es))) s:=by obtain⟨z,hd,vs,rel,o,ed,ep,ho,hx⟩:=(show yM X.prog X.w H s.heap a (.dK es)from I.hok a _ ha);exact⟨o,I.swap ha (λ_=>by nofun) (I.eY ha) (λ_=>by nofun) (λ_=>by nofun) ⟨ho,z,hd,vs,rel,o,ed,ep,ho,hx⟩⟩
def Inv.xU(I:Inv X pins σ H s)(ha:H a=some (.frz o (.dK es)))(hz:∀o v,X.H₀ a≠some (.frz o v)):Inv X pins σ (upd H a (.dK es)) s:=
 I.swap ha (λ_=>by nofun) hz (λ_=>by nofun) (λ_=>by nofun) (show yM X.prog X.w H s.heap a (.frz o (.dK es))from I.hok a _ ha).2
def EG(o:Obj):Nat:=match o.data with | .dict _ ep=>ep|_=>0
def Itd(a:Addr)(o:Obj)(es:HL):It:=
 ⟨λi H=>H a=some (.frz o (.dK es))/\i<es.length,λi H x H'=>H'=H/\∃k v,es[i]?=some (k,v)/\x=kV k,λi H=>H a=some (.frz o (.dK es))/\es.length<=i⟩
def eZ(h:KV es vs):∀{i:Nat}{k:Key}{v:V},es[i]?=some (k,v)->∃w,vs[i]?=some (k,w):=by
 induction h with
 |nil=>intro i k v e;simp at e
 |@cons p q _ _ hp _ ih=>
  intro i k v e;cases i with
  |zero=>simp at e;subst e;exact⟨q.2,by simp;exact Prod.ext hp.1.symm rfl⟩
  |succ i=>simp at e ⊢;exact ih e
def bb(h:(yw P w).is k u=true):RelV (kV k) u:=by
 rw[JJ]at h;rcases ye h with⟨i,t,rfl,rfl⟩|⟨x,t,rfl,rfl⟩
 .exact⟨t,rfl⟩
 .exact⟨t,rfl⟩
def mr(ok:HOk P w H h)(e:H a=some (.frz o (.dK es))):(a==sysModules)=false/\∃vs,KV es vs/\h.DictAt (yw P w) a vs (EG o):=by
 obtain⟨h0,_,hd,vs,rel,o',ed,ep,h1,h2,h3,h4⟩:=(show yM P w H h a (.frz o (.dK es))from ok a _ e);rw[h0]at h1;cases h1;have:EG o=ep:=by unfold EG;rw[h3]
 exact⟨hd,vs,rel,o,ed,h0,h2,by rw[this];exact h3,h4⟩
def mw{P:HQ}{w:H_}{K:Ih}{tg:HJ}(a it:Addr)(o:Obj)(es:HL):Turn P w K tg (Itd a o es) [it] it (λi h=>h.IsKeyIter it a i es.length (EG o))where
 mem:=by simp
 obj:=λi h st b hb=>by
  have e:b=it:=by simpa using hb
  subst e;obtain⟨o,e,c,d⟩:=st;exact⟨o,e,λv z=>by rw[d]at z;cases z⟩
 keep:=λi h h' st k=>st.at λo e=>k it (by simp) o e
 item:=by intro X hP hw hK hc i pins s σ H E I hf st hg;subst hP hw hK;obtain⟨ha,hi⟩:=hg;obtain⟨hd,vs,rel,dd⟩:=mr I.hok ha;have hx:es[i]?=some es[i]:=N4 hi;obtain⟨w,hw⟩:=eZ rel (k:=es[i].1) (v:=es[i].2) hx;obtain⟨f0,f1,f2,f3,f4,f5⟩:=hf it (by simp);rw[a0k rel]at st;refine wpAny_pyNext_dict_item st dd hw λkey h' hk st' sb=>?_;have I1:Inv X pins σ H { s with heap:=h' }:=I.turned (t':=s.toks) (λb o hb e=>(sb.2 b hb).trans e) f0 f1 f3 f4 f5;obtain⟨q,e,c,d⟩:=id st';refine⟨key,rfl,o7 (s:={ s with heap:=h' }) e c d (by decide) ⟨_,H,I1,bb hk,⟨rfl,_,_,hx,rfl⟩,?_,λb hb=>(hf b hb).1⟩⟩;rw[a0k rel];exact st'
 done:=by intro X hP hw hK hc i pins s σ H E I hf st hg;subst hP hw hK;obtain⟨ha,hi⟩:=hg;obtain⟨hd,vs,rel,dd⟩:=mr I.hok ha;obtain⟨f0,f1,f2,f3,f4,f5⟩:=hf it (by simp);have hl:=a0k rel;rw[hl]at st;exact wpAny_pyNext_dict_end (I.ok.hd hc) st dd (a06.mpr (by omega)) λh' eb=>⟨rfl,I.turned (t':=s.toks) (λb o hb e=>eb b o hb e) f0 f1 f3 f4 f5⟩
 self:=λ_ _ _ _ _ st h=>wpAny_pyIter_keyiter st h
def e_(tl:TE):TI:=λσ H R=>tl σ H λx H1=>∃a o es,x=.ref a/\H1 a=some (.frz o (.dK es))/\R (Itd a o es) H1
def Vm(hl:PE X l tl):PI X tg l (e_ tl):=by
 intro pins s σ H R I h;refine thn (hl pins s σ H _ I h) λv s1 ⟨x,H1,I1,r1,a,o,es,e,ha,q⟩=>?_;subst e;cases r1;obtain⟨hd,vs,rel,dd⟩:=mr I1.hok ha;refine a13 hd dd ?_;refine⟨s1.heap.objs.size,[s1.heap.objs.size],_,_,H1,rfl,I1.kept (t':=s1.toks) λb o e=>L6 _ e,mw a _ o es,?_,λb hb=>?_,q⟩
 .rw[a0k rel];exact⟨_,O5 _ rfl,rfl,rfl⟩
 have e:b=s1.heap.objs.size:=by simpa using hb
 subst e;exact I1.Bh (M7 _) (I1.hok.fresh (M7 _))
def t4(h:Rd H a (.dK es))(h':Rd H a (.dK es')):es'=es:=by rcases h with h|⟨o,h⟩<;>rcases h' with h'|⟨o',h'⟩<;>rw[h]at h'<;>cases h'<;>rfl
section
variable {W:RC}{M:Hz}{H H':Hp}{a:Addr}{es:HL}
def KZ(h1:Rd H a (.dK es))(h:H b=some u)(hu:∀es,u≠.dK es)(hu2:∀o es,u≠.frz o (.dK es)):b≠a:=λz=>by
 subst z;rcases h1 with z|⟨o,z⟩<;>rw[z]at h<;>cases h
 .exact hu _ rfl
 .exact hu2 _ _ rfl
def YI(h1:Rd H a (.dK es))(hne:∀b,b≠a->H' b=H b)(h:Rd H b u)(hu:∀es,u≠.dK es)(hf:∀o v,u≠.frz o v):Rd H' b u:=by
 rcases h with h|⟨o,h⟩
 .exact .inl ((hne b (KZ h1 h hu λo es=>hf o _)).trans h)
 .exact .inr ⟨o,(hne b (KZ h1 h (λ_=>by nofun) λo es z=>by cases z;exact hu _ rfl)).trans h⟩
mutual
def Rep.sw(h1:Rd H a (.dK es))(h2:Rd H' a (.dK es))(hne:∀b,b≠a->H' b=H b):∀{x:PV}{v:V},Rep W M H x v->Rep W M H' x v
 |.i n,v,h=>h
 |.s x,v,h=>h
 |.b c,v,h=>h
 |.n,v,h=>h
 |.l xs,v,h=>by unfold Rep at h ⊢;obtain⟨p,vs,e,m,r,q⟩:=h;exact⟨p,vs,e,m,(hne p (KZ h1 r (λ_=>by nofun) λ_ _=>by nofun)).trans r,zX.sw h1 h2 hne q⟩
 |.sc ns,v,h=>by unfold Rep at h ⊢;obtain⟨p,e,r⟩:=h;exact⟨p,e,r.elim (λz=>.inl ⟨z.1,YI h1 hne z.2 (λ_=>by nofun) λ_ _=>by nofun⟩) .inr⟩
 |.dt kvs,v,h=>by unfold Rep at h ⊢;obtain⟨p,e,m,r⟩:=h;exact⟨p,e,m,YI h1 hne r (λ_=>by nofun) λ_ _=>by nofun⟩
 |.t xs,v,h=>by unfold Rep at h ⊢;obtain⟨p,vs,e,r,q⟩:=h;exact⟨p,vs,e,r.elim (λz=>.inl (YI h1 hne z (λ_=>by nofun) λ_ _=>by nofun)) .inr,zX.sw h1 h2 hne q⟩
 |.d kvs,v,h=>by
  unfold Rep at h ⊢;obtain⟨p,vs,e,m,r,q⟩:=h;refine⟨p,vs,e,m,?_,qx.sw h1 h2 hne q⟩;by_cases hp:p=a
  .subst hp;rw[t4 h1 r];exact h2
  .unfold Rd;rw[hne p hp];exact r
 |.o c fs,v,h=>by unfold Rep at h ⊢;obtain⟨p,dx,vs,e,m,r,q⟩:=h;exact⟨p,dx,vs,e,m,(hne p (KZ h1 r (λ_=>by nofun) λ_ _=>by nofun)).trans r,wd.sw h1 h2 hne q⟩
 |.x c fs,v,h=>by unfold Rep at h ⊢;obtain⟨p,dx,vs,e,r,r2,q⟩:=h;exact⟨p,dx,vs,e,(hne p (KZ h1 r (λ_=>by nofun) λ_ _=>by nofun)).trans r,(hne dx (KZ h1 r2 (λ_=>by nofun) λ_ _=>by nofun)).trans r2,wd.sw h1 h2 hne q⟩
def zX.sw(h1:Rd H a (.dK es))(h2:Rd H' a (.dK es))(hne:∀b,b≠a->H' b=H b):∀{x:HW}{v:HF},zX W M H x v->zX W M H' x v
 |[],v,h=>h
 |x::xs,vs,h=>by unfold zX at h ⊢;obtain⟨v,r,e,q1,q2⟩:=h;exact⟨v,r,e,Rep.sw h1 h2 hne q1,zX.sw h1 h2 hne q2⟩
def qx.sw(h1:Rd H a (.dK es))(h2:Rd H' a (.dK es))(hne:∀b,b≠a->H' b=H b):∀{x:HZ}{v:HL},qx W M H x v->qx W M H' x v
 |[],v,h=>h
 | (k,x)::xs,vs,h=>by unfold qx at h ⊢;obtain⟨v,r,e,q1,q2⟩:=h;exact⟨v,r,e,Rep.sw h1 h2 hne q1,qx.sw h1 h2 hne q2⟩
def wd.sw(h1:Rd H a (.dK es))(h2:Rd H' a (.dK es))(hne:∀b,b≠a->H' b=H b):∀{x:Ic}{v:Ip},wd W M H x v->wd W M H' x v
 |[],v,h=>h
 | (k,x)::xs,vs,h=>by unfold wd at h ⊢;obtain⟨v,r,e,q1,q2⟩:=h;exact⟨v,r,e,Rep.sw h1 h2 hne q1,wd.sw h1 h2 hne q2⟩
end
def yX.sw{N:Hz}{x:PV}{v:V}(h1:Rd H a (.dK es))(h2:Rd H' a (.dK es))(hne:∀b,b≠a->H' b=H b)(h:yX W N M H x v):yX W N M H' x v:=by
 cases x with
 |l xs=>obtain⟨p,vs,e,m,r,q⟩:=h;exact⟨p,vs,e,m,(hne p (KZ h1 r (λ_=>by nofun) λ_ _=>by nofun)).trans r,q.sw h1 h2 hne⟩
 |d kvs=>
  obtain⟨p,vs,e,m,r,q⟩:=h;refine⟨p,vs,e,m,?_,q.sw h1 h2 hne⟩;by_cases hp:p=a
  .subst hp;rw[t4 h1 r];exact h2
  .unfold Rd;rw[hne p hp];exact r
 |sc ns=>obtain⟨p,e,r⟩:=h;exact⟨p,e,r.elim (λz=>.inl ⟨z.1,YI h1 hne z.2 (λ_=>by nofun) λ_ _=>by nofun⟩) .inr⟩
 |dt kvs=>obtain⟨p,e,m,r⟩:=h;exact⟨p,e,m,YI h1 hne r (λ_=>by nofun) λ_ _=>by nofun⟩
 |o c fs=>obtain⟨p,dx,vs,e,m,r,q⟩:=h;exact⟨p,dx,vs,e,m,(hne p (KZ h1 r (λ_=>by nofun) λ_ _=>by nofun)).trans r,q.sw h1 h2 hne⟩
 |i n=>exact Rep.sw h1 h2 hne h
 |s n=>exact Rep.sw h1 h2 hne h
 |b n=>exact Rep.sw h1 h2 hne h
 |n=>exact Rep.sw h1 h2 hne h
 |t n=>exact Rep.sw h1 h2 hne h
 |x c n=>exact Rep.sw h1 h2 hne h
def WO.sw{p:Addr}{x:PV}(hp:p≠a)(h1:Rd H a (.dK es))(h2:Rd H' a (.dK es))(hne:∀b,b≠a->H' b=H b)(h:WO W M H p x):WO W M H' p x:=by
 cases x with
 |l xs=>obtain⟨vs,e,q⟩:=h;exact⟨vs,(hne p hp).trans e,q.sw h1 h2 hne⟩
 |d kvs=>obtain⟨vs,e,q⟩:=h;exact⟨vs,(hne p hp).trans e,q.sw h1 h2 hne⟩
 |dt kvs=>exact(hne p hp).trans h
 |o c fs=>obtain⟨dx,vs,e,q⟩:=h;exact⟨dx,vs,(hne p hp).trans e,q.sw h1 h2 hne⟩
 |i n=>exact h.elim
 |s n=>exact h.elim
 |b n=>exact h.elim
 |n=>exact h.elim
 |t n=>exact h.elim
 |x c n=>exact h.elim
 |sc n=>exact h.elim
end
def Bs.at'(B:Bs)(a:Addr)(u:HO):Bs:=⟨upd B.H0 a u,B.M0,B.N0,λb h=>by
 by_cases e:b=a
 .rw[e,zd];exact λz=>by cases z
 .rw[zg e];exact B.nz b h,B.pin,B.xc⟩
section
variable {W:RC}{B:Bs}{S S':Ht}{P P':HK}{H H':Hp}{σ σ':St}{ρ ρ':Sto}{a:Addr}{es:HL}{u u':HO}
def Um(h0:B.H0 a≠none):(B.at' a u).H0 b=none↔B.H0 b=none:=by
 show upd B.H0 a u b=none↔_;by_cases e:b=a
 .subst e;rw[zd];exact⟨λz=>(by cases z),λz=>absurd z h0⟩
 .rw[zg e]
def C6(h0:B.H0 a≠none):(B.at' a u).Mt b↔B.Mt b:=or_congr a2H (Um h0)
def t5(h0:B.H0 a≠none):Mof (B.at' a u) S P b↔Mof B S P b:=and_congr (and_congr (C6 h0) a2H) a2H
def DU(es:HL)(u:HO):Prop:=u=.dK es\/∃o,u=.frz o (.dK es)
def DU.rd(h:DU es u)(e:H a=some u):Rd H a (.dK es):=h.elim (λz=>.inl (z▸e)) λ⟨o,z⟩=>.inr ⟨o,z▸e⟩
def Rel.sw(R:Rel W B S P H σ ρ)(h0:B.H0 a=some u)(du:DU es u)(du':DU es u'):Rel W (B.at' a u') S P (upd H a u') σ ρ:=by
 have ha:H a=some u:=R.same a u h0;have n0:B.H0 a≠none:=by rw[h0];exact λz=>by cases z
 have h1:Rd H a (.dK es):=du.rd ha;have h2:Rd (upd H a u') a (.dK es):=du'.rd zd;have hne:∀b,b≠a->upd H a u' b=H b:=λb z=>zg z;have hM:Mof B S P=Mof (B.at' a u') S P:=funext λb=>propext (t5 n0).symm;have pa:∀{i},S[i]?=some 2->P i≠a:=λ{i} hi z=>n0 (z▸(R.act i hi).1);refine⟨λb o h=>?_,R.len,λi x e=>?_,λi hi=>⟨(Um n0).mpr (R.act i hi).1,?_⟩,R.inj,R.pin,λb h=>?_,R.axc⟩
 .have h:upd B.H0 a u' b=some o:=h;by_cases e:b=a
  .subst e;rw[zd]at h ⊢;exact h
  .rw[zg e]at h ⊢;exact R.same b o h
 .obtain⟨v,q1,q2,q3,q4⟩:=R.var i x e;rw[<- hM];exact⟨v,q1,λz=>⟨(q2 z).1,(q2 z).2.sw (pa z) h1 h2 hne⟩,λz=>(q3 z).sw h1 h2 hne,λz z'=>(q4 z z').sw h1 h2 hne⟩
 .obtain⟨o,e,n⟩:=(R.act i hi).2;exact⟨o,(hne _ (pa hi)).trans e,n⟩
 .obtain⟨o,e,n,z⟩:=R.exc b h;have:b≠a:=λq=>n0 (q▸z);exact⟨o,(hne b this).trans e,n,(Um n0).mpr z⟩
def FF:(B.at' a u').at' a u''=B.at' a u'':=by
 unfold Bs.at';congr 1
 funext b
 show upd (upd B.H0 a u') a u'' b=upd B.H0 a u'' b;rw[vH]
def xV(h0:B.H0 a=some u):B.at' a u=B:=by
 cases B;unfold Bs.at';congr 1
 funext b
 by_cases e:b=a
 .subst e;rw[zd];exact h0.symm
 .rw[zg e]
def Rel.ws(h0:B.H0 a=some u)(du:DU es u)(du':DU es u')(R:Rel W (B.at' a u') S P H σ ρ):Rel W B S P (upd H a u) σ ρ:=by have:=Rel.sw (u:=u') (u':=u) R zd du' du;rw[FF,xV h0]at this;exact this
def mx(h0:B.H0 a=some u)(s:zy (B.at' a u').H0 H):zy B.H0 (upd H a u):=λb o h=>by
 by_cases e:b=a
 .subst e;rw[h0]at h;rw[zd];exact h
 .rw[zg e];exact s b o (show upd B.H0 a u' b=some o by rw[zg e];exact h)
end
def Df(a:Addr)(es:HL)(D:Ends):Ends where
 nx:=λσ H=>(∃o,H a=some (.frz o (.dK es)))/\D.nx σ (upd H a (.dK es))
 rt:=λv H=>(∃o,H a=some (.frz o (.dK es)))/\D.rt v (upd H a (.dK es))
 bk:=λσ H=>(∃o,H a=some (.frz o (.dK es)))/\D.bk σ (upd H a (.dK es))
 ct:=λσ H=>(∃o,H a=some (.frz o (.dK es)))/\D.ct σ (upd H a (.dK es))
def Ef(a:Addr)(es:HL)(E:XK):XK:=λv d H=>(∃o,H a=some (.frz o (.dK es)))/\E v d (upd H a (.dK es))
def xW{W:RC}{E:XK}{fr:Bool}{B:Bs}{S' Sb Sc:Ht}{D:Ends}{a:Addr}{es:HL}{o:Obj}{out:Out Fw}(h0:B.H0 a=some (.dK es))(q:YT ⟨W,E,fr⟩ B S' Sb Sc D out):YT ⟨W,Ef a es E,fr⟩ (B.at' a (.frz o (.dK es))) S' Sb Sc (Df a es D) out:=by
 have n0:B.H0 a≠none:=by rw[h0];exact λz=>by cases z
 have du:DU es (.dK es):=.inl rfl;have du':DU es (.frz o (.dK es)):=.inr ⟨o,rfl⟩;have ea:(B.at' a (.frz o (.dK es))).H0 a=some (.frz o (.dK es)):=zd;have sw:∀{H:Hp}{u:HO},H a=some (.frz o (.dK es))->Rd H a (.dK es)/\Rd (upd H a (.dK es)) a (.dK es)/\∀b,b≠a->upd H a (.dK es) b=H b:=λh=>⟨.inr ⟨o,h⟩,.inl zd,λb z=>zg z⟩;have mt:(B.at' a (.frz o (.dK es))).Mt=B.Mt:=funext λb=>propext (C6 n0);cases out with
 |wall=>exact q
 |exc c fs=>
  intro e dx vs H2 s e1 e2 e3;have ha:=s a _ ea;obtain⟨w1,w2,w3⟩:=sw (u:=.dK es) ha;have ne1:e≠a:=KZ w1 e1 (λ_=>by nofun) λ_ _=>by nofun
  have ne2:dx≠a:=KZ w1 e2 (λ_=>by nofun) λ_ _=>by nofun
  exact⟨⟨o,ha⟩,q e dx vs _ (mx h0 s) ((w3 e ne1).trans e1) ((w3 dx ne2).trans e2) ((mt▸e3).sw w1 w2 w3)⟩
 |ok f=>
  cases f with
  |nx ρ'=>exact λP' H' σ' R'=>⟨⟨o,R'.same a _ ea⟩,q P' _ σ' (Rel.ws h0 du du' R')⟩
  |bk ρ'=>exact λP' H' σ' R'=>⟨⟨o,R'.same a _ ea⟩,q P' _ σ' (Rel.ws h0 du du' R')⟩
  |ct ρ'=>exact λP' H' σ' R'=>⟨⟨o,R'.same a _ ea⟩,q P' _ σ' (Rel.ws h0 du du' R')⟩
  |rt x=>
   intro v H' s r;have ha:=s a _ ea;obtain⟨w1,w2,w3⟩:=sw (u:=.dK es) ha;refine⟨⟨o,ha⟩,q v _ (mx h0 s) ?_⟩;unfold tS at r ⊢;cases fr with
   |true=>rw[if_pos rfl]at r ⊢;obtain⟨p,e,hp,r⟩:=r;have hp':B.H0 p=none:=(Um n0).mp hp;have:p≠a:=λz=>n0 (z▸hp');exact⟨p,e,hp',(mt▸r).sw this w1 w2 w3⟩
   |false=>rw[if_neg M6]at r ⊢;exact(mt▸r).sw w1 w2 w3
def pW(h:a≠b):upd (upd H a u) b v=upd (upd H b v) a u:=by
 funext c
 by_cases e1:c=a
 .subst e1;rw[zg h,zd,zd]
 .by_cases e2:c=b
  .subst e2;rw[zd,zg e1,zd]
  .rw[zg e2,zg e1,zg e1,zg e2]
def tFz(ts:XK->TS)(E:XK):TS:=λD σ H=>(∃a es,H a=some (.dK es)/\∀o,ts (Ef a es E) (Df a es D) σ (upd H a (.frz o (.dK es))))\/ts E D σ H
def C7{X:Cx}{E:XK}{st:Ir}{ts:XK->TS}(h:∀E',PS (thr X E') st (ts E')):PS (thr X E) st (tFz ts E):=by
 intro pins s σ H D I q;rcases q with⟨a,es,ha,q⟩|q
 .obtain⟨o,I1⟩:=I.FE ha;have hz:∀o v,X.H₀ a≠some (.frz o v):=I.eY ha;refine R8 (h (Ef a es E) pins s σ _ (Df a es D) (I1.jV.Vh _) (q o)) (λf s1 z=>?_) λv s1 z=>?_
  .cases f with
   |next=>obtain⟨σ',H',J,⟨o',hf⟩,d⟩:=z;exact⟨σ',_,Inv.xU (J.jV.Vh _) hf hz,d⟩
   |brk=>obtain⟨σ',H',J,⟨o',hf⟩,d⟩:=z;exact⟨σ',_,Inv.xU (J.jV.Vh _) hf hz,d⟩
   |cont=>obtain⟨σ',H',J,⟨o',hf⟩,d⟩:=z;exact⟨σ',_,Inv.xU (J.jV.Vh _) hf hz,d⟩
   |ret u=>obtain⟨v,σ',H',J,rv,⟨o',hf⟩,d⟩:=z;exact⟨v,σ',_,Inv.xU (J.jV.Vh _) hf hz,rv,d⟩
  .obtain⟨σ',H',e,C,dx,rfl,J,f,⟨o',hf⟩,d⟩:=z;have ne:e≠a:=λz=>by subst z;rw[zd]at hf;cases hf
   rw[zg ne.symm]at hf;rw[pW ne]at d;refine⟨σ',_,e,C,dx,rfl,Inv.xU J hf hz,?_,d⟩;obtain⟨T,he,ht⟩:=f;refine⟨T,by rw[zg ne];exact he,ht.imp id λ⟨Ta,fl,e1,b,h2⟩=>⟨Ta,fl,e1,⟨b.tbk,b.new,?_,b.pin⟩,h2⟩⟩;have:Ta≠a:=λz=>by have:=b.free;rw[z,hf]at this;cases this
   rw[zg this];exact b.free
 .exact h E pins s σ H D I q
def kP:Key->PV
 |.inl i=>.i i
 |.inr x=>.s x
def t6{W:RC}{M:Hz}{H:Hp}:∀k:Key,Rep W M H (kP k) (kV k)
 |.inl _=>rfl
 |.inr _=>rfl
def qf(i:Nat):MI:=λρ=>match ρ[i]? with
 |some (some (.d kvs))=>.ok (kvs.map λkx=>kP kx.1)
 |_=>.wall
def JS{W:RC}{M N:Hz}{H2:Hp}{a:Addr}{o:Obj}{es:HL}{kvs:HZ}(ha:H2 a=some (.frz o (.dK es)))(hk:es.map (·.1)=kvs.map (·.1)):xM W M N H2 (Itd a o es) (kvs.map λkx=>kP kx.1):=λH' f=>by
 have ha':=f a _ ha (.inr trivial);have hl:es.length=kvs.length:=by simpa using T1 List.length hk
 refine⟨λi x hx=>?_,ha',by rw[v0];omega⟩;rw[O2]at hx;obtain⟨kx,hkx,rfl⟩:=u8.mp hx;have hi:i<kvs.length:=(N5.mp hkx).1;refine⟨⟨ha',by omega⟩,λv H'' hy=>?_⟩;obtain⟨rfl,k,w,hes,rfl⟩:=hy;have:k=kx.1:=by
  have h1:(es.map (·.1))[i]?=some k:=by rw[O2,hes];rfl
  rw[hk,O2,hkx]at h1;cases h1;rfl
 subst this;exact⟨zy.refl _,λ_ _=>t6 _⟩
section
variable {X:Cx}{W:RC}{E:XK}{fr:Bool}{S S1 Sb Sc:Ht}{tg y9:HJ}{body:Ij}{mg:MG}{mb:MS}{pos:Pos}{i:Nat}
def my(R:Rel W B S P H σ ρ)(hS:S[i]?≠some 2)(hx:ρ[i]?=some (some (.d kvs))):∃a es,σ[i]?=some (some (.ref a))/\NA B S P a/\Rd H a (.dK es)/\es.map (·.1)=kvs.map (·.1):=by
 obtain⟨v,h1,_,h3,h4⟩:=R.var i _ hx;by_cases c:S[i]?=some 1
 .obtain⟨a,es,rfl,n,r,rk⟩:=h3 c;have h0:=B.nz a n;exact⟨a,es,h1,⟨λz=>h0 (R.exc a z).choose_spec.2.2,λj hj e=>h0 (e▸(R.act j hj).1)⟩,r,(qx.iff.mp rk).1⟩
 .obtain⟨a,es,rfl,m,r,rk⟩:=h4 hS c;exact⟨a,es,h1,Mof.na m,r,(qx.iff.mp rk).1⟩
def mz(R:Rel W B S P H σ ρ)(na:NA B S P a)(h:H a=some u):(B.loop S P H R.hz).H0 a=some u:=by unfold Bs.loop;dsimp only;rw[if_neg λz=>z.elim (λ⟨j,hj,e⟩=>na.2 j hj e) na.1];exact h
def mB(hc:X.calm=true)(own:Own X)(hv:∀E',PE (thr X E') y9 (XZ i))(hg:∀E',GM (thr X E') ⟨W,E',fr⟩ S S1 tg mg)(hb:∀E',SsM (thr X E') ⟨W,E',fr⟩ S1 S S S body mb)(hS:S[i]?≠some 2:=by decide)(hs:∀x,foldedSetIterable y9 X.env x=pure x:=by intro _;rfl):
  SM (thr X E) ⟨W,E,fr⟩ S S Sb Sc (.For tg y9 body [] pos) (ZN (qf i) mg mb):=λhK=>by
 refine⟨tFz (λE' D σ H=>∃g tb,PG (thr X E') tg g/\PSs (thr X E') body tb/\Bi (e_ (XZ i)) g tb D σ H) E,C7 λE' pins s σ H D I ⟨g,tb,p1,p2,q⟩=>aj (X:=thr X E') (zS own) hc (Vm (hv E')) p1 p2 hs pins s σ H D I q,λB P H σ ρ R D q=>?_⟩;cases hx:ρ[i]? with
 |none=>unfold ZN qf at q;rw[hx]at q;exact q.elim
 |some z=>
  cases z with
  |none=>unfold ZN qf at q;rw[hx]at q;exact q.elim
  |some y=>
   cases y with
   |d kvs=>
    obtain⟨a,es,hσ,na,hrd,hk⟩:=my R hS hx;have hm:qf i ρ=.ok (kvs.map λkx=>kP kx.1):=by unfold qf;rw[hx]
    rcases hrd with ha|⟨o,ha⟩
    .refine .inl ⟨a,es,ha,λo=>?_⟩;obtain⟨g,p1,lg⟩:=hg (Ef a es E) hK;obtain⟨tb,p2,lb⟩:=hb (Ef a es E) hK;have R1:=R.loop;have h0:=mz R na ha;have Rf:=R1.sw (u':=.frz o (.dK es)) h0 (.inl rfl) (.inr ⟨o,rfl⟩);refine⟨g,tb,p1,p2,Uj (mi:=qf i) (C:=⟨W,Ef a es E,fr⟩) (Sb:=Sb) (Sc:=Sc) (λRr qq=>?_) lg lb Rf _ (xW h0 ?_)⟩
     .rw[hm]at qq;exact⟨.ref a,hσ,a,o,es,rfl,zd,qq _ _ (zy.refl _) (JS zd hk)⟩
     .revert q;cases ZN (qf i) mg mb ρ with
      |wall=>exact id
      |exc c fs=>exact λq=>eV (C:=⟨W,E,fr⟩) rfl R q
      |ok f=>
       cases f with
       |nx ρ'=>exact λq P' H' σ' R'=>q P' H' σ' (R.aZ R')
       |bk ρ'=>exact λq P' H' σ' R'=>q P' H' σ' (R.aZ R')
       |ct ρ'=>exact λq P' H' σ' R'=>q P' H' σ' (R.aZ R')
       |rt x=>exact λq v H' s r=>q v H' ((Q2 R).trans s) (lU (C:=⟨W,E,fr⟩) rfl R r)
    .obtain⟨g,p1,lg⟩:=hg E hK;obtain⟨tb,p2,lb⟩:=hb E hK;refine .inr ⟨g,tb,p1,p2,Uj (mi:=qf i) (C:=⟨W,E,fr⟩) (Sb:=Sb) (Sc:=Sc) (λRr qq=>?_) lg lb R D q⟩;rw[hm]at qq;exact⟨.ref a,hσ,a,o,es,rfl,ha,qq _ _ (zy.refl _) (JS ha hk)⟩
   |i n=>unfold ZN qf at q;rw[hx]at q;exact q.elim
   |s n=>unfold ZN qf at q;rw[hx]at q;exact q.elim
   |b n=>unfold ZN qf at q;rw[hx]at q;exact q.elim
   |n=>unfold ZN qf at q;rw[hx]at q;exact q.elim
   |l n=>unfold ZN qf at q;rw[hx]at q;exact q.elim
   |t n=>unfold ZN qf at q;rw[hx]at q;exact q.elim
   |o c n=>unfold ZN qf at q;rw[hx]at q;exact q.elim
   |x c n=>unfold ZN qf at q;rw[hx]at q;exact q.elim
   |sc n=>unfold ZN qf at q;rw[hx]at q;exact q.elim
   |dt n=>unfold ZN qf at q;rw[hx]at q;exact q.elim
end
def tGz(te:TE):TE:=λσ H Q=>(∃a es,H a=some (.dK es)/\∀o,te σ (upd H a (.frz o (.dK es))) (λv H2=>(∃o,H2 a=some (.frz o (.dK es)))/\Q v (upd H2 a (.dK es))))\/te σ H Q
def FG(h:PE X e te):PE X e (tGz te):=by
 intro pins s σ H Q I q;rcases q with⟨a,es,ha,q⟩|q
 .obtain⟨o,I1⟩:=I.FE ha;have hz:∀o v,X.H₀ a≠some (.frz o v):=I.eY ha;refine thn (h pins s σ _ _ I1 (q o)) λv s1 ⟨x,H',J,rv,⟨o',hf⟩,d⟩=>⟨x,_,J.xU hf hz,rv,d⟩
 .exact h pins s σ H Q I q
def VW{g:MG}{c:MT}{e:ME}{k:Nat}{fs:Ic}:∀{xs:HW}{ρ:Sto}{acc:HW},lcP g c e xs ρ acc≠.exc k fs
 |[],ρ,acc=>by unfold lcP;exact λz=>by cases z
 |x::xs,ρ,acc=>by
  unfold lcP;cases g x ρ with
  |none=>exact λz=>by cases z
  |some ρ1=>
   show(noX (c ρ1)).bind _≠_;cases c ρ1 with
   |wall=>exact λz=>by cases z
   |exc _ _=>exact λz=>by cases z
   |ok t=>
    show(if t=true then _ else _)≠_;split
    .cases e ρ1 with
     |wall=>exact λz=>by cases z
     |exc _ _=>exact λz=>by cases z
     |ok y=>
      show(if acc.length<sizeLine then _ else _)≠_;split
      .exact VW
      .exact λz=>by cases z
    .exact VW
def t7{g:TG}{tc:TT}{te:TE}{fr:HU}{Si:Ht}(hS2:S[i]?≠some 2)(hS:Si=inS S fr)(hg:LG ⟨C.W,E0,false⟩ Si Si g mg)(ht:LT ⟨C.W,E0,false⟩ Si tc mc)(he:LE ⟨C.W,E0,false⟩ Si false te me):LFr C S (tGz (tLC (e_ (XZ i)) g tc te fr)) (mLC (qf i) fr mg mc me):=λB P H σ ρ R Q q=>by
 cases hx:qf i ρ with
 |wall=>unfold mLC at q;rw[hx]at q;exact q.elim
 |exc c fs=>unfold qf at hx;split at hx<;>cases hx
 |ok xs=>
  obtain⟨kvs,hρ⟩:∃kvs,ρ[i]?=some (some (.d kvs)):=by
   unfold qf at hx;split at hx
   .rename_i kvs h;exact⟨kvs,h⟩
   .cases hx
  have hxs:xs=kvs.map λkx=>kP kx.1:=by unfold qf at hx;rw[hρ]at hx;cases hx;rfl
  subst hxs;obtain⟨a,es,hσ,na,hrd,hk⟩:=my R hS2 hρ;rcases hrd with ha|⟨o,ha⟩
  .refine .inl ⟨a,es,ha,λo=>?_⟩;have h0:=mz R na ha;have Rf:=R.loop.sw (u':=.frz o (.dK es)) h0 (.inl rfl) (.inr ⟨o,rfl⟩);refine c5 (C:=C) (mi:=qf i) (λRr qq=>?_) rfl hS hg ht he Rf _ ?_
   .rw[hx]at qq;exact⟨.ref a,hσ,a,o,es,rfl,zd,qq _ _ (zy.refl _) (JS zd hk)⟩
   .unfold mLC at q ⊢;rw[hx]at q ⊢;have q:yj C B H (RFr C.W (Mof B S P) H) Q (lcP mg mc me (kvs.map λkx=>kP kx.1) (VR ρ fr) []):=q;show yj C _ _ _ _ (lcP mg mc me (kvs.map λkx=>kP kx.1) (VR ρ fr) []);revert q;cases ho:lcP mg mc me (kvs.map λkx=>kP kx.1) (VR ρ fr) []with
    |wall=>exact id
    |exc c fs=>exact absurd ho VW
    |ok x=>
     intro q v H2 s r;have hf:=s a _ (zd (H:=H) (o:=.frz o (.dK es)));refine⟨⟨o,hf⟩,q v _ (λb u hb=>?_) ?_⟩
     .by_cases e:b=a
      .subst e;rw[ha]at hb;rw[zd];exact hb
      .rw[zg e];exact s b u (by rw[zg e];exact hb)
     .obtain⟨p,e,hp,r⟩:=r;have pa:p≠a:=λz=>by rw[z,zd]at hp;cases hp
      rw[zg pa]at hp;refine⟨p,e,hp,WO.sw pa (.inr ⟨o,hf⟩) (.inl zd) (λb z=>zg z) (r.gen rfl Fr.refl λb m _=>⟨?_,m.2⟩)⟩;have n0:(B.loop S P H R.hz).H0 a≠none:=by rw[h0];exact λz=>by cases z
      have m1:=(t5 n0).mp m.1;exact⟨⟨VP R m1.1.1,m1.1.2⟩,m1.2⟩
  .refine .inr (c5 (C:=C) (mi:=qf i) (λRr qq=>?_) rfl hS hg ht he R _ q);rw[hx]at qq;exact⟨.ref a,hσ,a,o,es,rfl,ha,qq _ _ (zy.refl _) (JS ha hk)⟩
def C8(N:Hx)(fr:HU)(Si:Ht)(hc:X.calm=true)(hok:gx X scope N fr=true)(hv:PE X y9 (XZ i))(hg:∀z:CI,GM (cxI X scope N z) ⟨C.W,E0,false⟩ Si Si tg mg)(ht:∀z:CI,TsM (cxI X scope N z) ⟨C.W,E0,false⟩ Si ifs mc)(he:∀z:CI,EM (cxI X scope N z) ⟨C.W,E0,false⟩ Si false elt me)(hS2:S[i]?≠some 2:=by decide)(hS:Si=inS S fr:=by rfl)
  (hs:∀x,foldedSetIterable y9 X.env x=pure x:=by intro _;rfl):FM X C S (.ListComp elt [⟨tg,y9,ifs,0⟩] scope pos) (mLC (qf i) fr mg mc me):=λhK=>by
 obtain⟨g,b1,b2⟩:=JQ hg λ_=>hK;obtain⟨tc,c1,c2⟩:=JP ht λ_=>hK;obtain⟨te,d1,d2⟩:=JO he λ_=>hK;exact⟨_,FG (Ci N fr hc hok (Vm hv) (λfp pn s H L=>b1 ⟨fp,pn,s,H,L⟩) (λfp pn s H L=>c1 ⟨fp,pn,s,H,L⟩) (λfp pn s H L=>d1 ⟨fp,pn,s,H,L⟩) hs),t7 hS2 hS b2 c2 d2⟩
def C9:List V->Hp->VK->Prop:=λvs H Q=>∃(p:Addr)(es:HL),vs=[.ref p]/\Rd H p (.dK es)/\∀l,H l=none->Q (.ref l) (upd H l (.dK es))
def gK:j0 X (.type "dict") C9:=by intro pins s σ H xs us Q I r h;obtain⟨p,es,rfl,hS,q⟩:=h;obtain⟨u,rfl,ru⟩:=vals1 r;cases ru;exact ph I hS λl s' hl I'=>⟨.ref l,_,I',rfl,q l hl⟩
def c8(xs:HW):PV->Out PV
 |.b k=>ZM ((CQ xs).map λns=>.i (ns.count k))
 |_=>.wall
def mD(m1 m2:ME):ME:=λρ=>(m1 ρ).bind λx=>match x with
 |.l xs=>(m2 ρ).bind (c8 xs)
 |_=>.wall
def mE(ho:EM X C S w1 o m1)(ha:EM X C S w2 e m2)(WN:attributeBase o "count" X.env (eval o X.env)=eval o X.env:=by rfl)
  (Bg:((backTo wA (starEach [e] X.env)).all (λx=>!x.1)&&(backToKw wA (keywordEach [] X.env)).all (λx=>x.1.isSome)
   && decide (([e]:List Expr).length+([]:List Keyword).length+(if([]:List Keyword).isEmpty then 0 else 1)<30))=true:=by rfl)
  (WM:(vq.endLine==wA.line)=true:=by rfl) (hs:starEach [e] X.env=[(false,eval e X.env)]:=by rfl):EM X C S false (.Call (.Attribute o "count" vq) [e] [] wA) (mD m1 m2):=λhK=>by
 obtain⟨to,a1,a2⟩:=ho hK;obtain⟨te,b1,b2⟩:=ha hK;refine⟨_,xi a0O a2t PySem.F.type_list_count i8 a1 (Qn b1 Xh (by rw[hs];rfl)) WN Bg WM (by rw[hs];rfl) rfl,λB P H σ ρ R Q q=>a2 B P H σ ρ R _ (qd q λx v H1 s1 r1 q1=>?_)⟩;cases x with
 |l xs=>
  obtain⟨p,vs,rfl,_,hl,rr⟩:=r1.weak;refine⟨.inl ⟨rfl,vs,SqL.of hl⟩,b2 B P H1 σ ρ (R.keep s1) _ ?_⟩;have q1:yj C B H1 (RV C B S P false) Q ((m2 ρ).bind (c8 xs)):=q1;revert q1;cases m2 ρ with
  |exc c fs=>exact id
  |wall=>exact id
  |ok y=>
   intro q1 u H2 s2 r2;have q1:yj C B H1 (RV C B S P false) Q (c8 xs y):=q1;cases y with
   |b k=>obtain⟨z,e,q1⟩:=y_ q1;obtain⟨ns,hn,rfl⟩:=u8.mp e;have hl2:=s2 _ _ hl;rw[lL rr hn]at hl2;exact⟨p,ns,k,rfl,by rw[(show u=V.bl k from r2.weak)],SqL.of hl2,q1 _ H2 s2 (RV.of rfl)⟩
   |_=>exact q1.elim
 |_=>exact q1.elim
section
variable {X:Cx}{pins:Hu}{σ:St}{H:Hp}{s:Hy}{W:RC}
end
section
variable {X:Cx}{C:LC}{S:Ht}{e a b:HJ}{es:HD}{w:Bool}{m m1 m2:ME}{ms:MA}{pos:Pos}
end
section
variable {X:Cx}{elt y9 tg:HJ}{ifs:HD}{scope:Scope}{pos b_ py:Pos}{N:Hx}{fr:HU}{g:TG}{tc:TT}{te:TEx}{wi:TI}{y:Str}{i:Nat}
end
section
variable {X:Cx}{C:LC}{S Si:Ht}{e y9 tg elt:HJ}{es ifs:HD}{w:Bool}{ws:HI}{m me:ME}{ms:MA}{mc:MT}{mg:MG}{mi:MI}{pos p:Pos}{x:Str}{scope:Scope}{k:Nat}{f:Addr}{fd:Ib}{ps:Hx}{fr':Bool}{g:HP}
end
end L2
namespace L2
open PySem
def FH{α:Type}{P:List α->Prop}{us:List α}(hl:us.length=1)(h:∀a,P [a]):P us:=by rcases us with _|⟨a,_|⟨b,us⟩⟩<;>first|exact h _|cases hl
def FI{α:Type}{P:List α->Prop}{us:List α}(hl:us.length=2)(h:∀a b,P [a,b]):P us:=by rcases us with _|⟨a,_|⟨b,_|⟨c,us⟩⟩⟩<;>first|exact h _ _|cases hl
def FJ{α:Type}{P:List α->Prop}{us:List α}(hl:us.length=3)(h:∀a b c,P [a,b,c]):P us:=by rcases us with _|⟨a,_|⟨b,_|⟨c,_|⟨d,us⟩⟩⟩⟩<;>first|exact h _ _ _|cases hl
def FK{α:Type}{P:List α->Prop}{us:List α}(hl:us.length=4)(h:∀a b c d,P [a,b,c,d]):P us:=by rcases us with _|⟨a,_|⟨b,_|⟨c,_|⟨d,_|⟨e,us⟩⟩⟩⟩⟩<;>first|exact h _ _ _ _|cases hl
def FL{α:Type}{P:List α->Prop}{us:List α}(hl:us.length=5)(h:∀a b c d e,P [a,b,c,d,e]):P us:=by rcases us with _|⟨a,_|⟨b,_|⟨c,_|⟨d,_|⟨e,_|⟨f,us⟩⟩⟩⟩⟩⟩<;>first|exact h _ _ _ _ _|cases hl
def bc(z:CXe P w outer H s (λ_ _ _=>False) v s'):False:=by obtain⟨_,_,_,_,_,_,_,_,_,_,_,_,_,_,_,_,_,_,q⟩:=z;exact q
def okb{α β:Type}{a:α}{f:α->Out β}:(Out.ok a).bind f=f a:=Eq.trans (Eq.refl _) (Eq.refl _)
section
variable {α β σ:Type}
def zf(h:∃ρ',s ρ=.ok (.nx ρ')/\t ρ'=o):yY s t ρ=o:=let⟨_,a,b⟩:=h;(xT a).trans b
def WU{fr:HU}{xs:HW}(h:mi ρ=.ok xs)(h2:lcP g c e xs (VR ρ fr) []=.ok x):mLC mi fr g c e ρ=.ok x:=by unfold mLC;rw[h,ZY,h2]
def yZ(h:m ρ=.ok x):js i m ρ=.ok (.nx (ρ.set i (some x))):=by unfold js;rw[h,ZY]
def qL(h:mi ρ=.ok xs)(h2:km g b xs ρ=o):ZN mi g b ρ=o:=by unfold ZN;rw[h,ZY,h2]
def pX{n:Nat}(h:n<=1000000):lZ [.i (n:Int)]=.ok (gJ 0 n):=by unfold lZ;exact(if_pos ⟨by omega,by omega⟩).trans (by rw[W1])
def C_(h:ms ρ=.ok [.i (n:Int)])(hn:n<=1000000):wj ms ρ=.ok (gJ 0 n):=by unfold wj;rw[h,ZY,pX hn]
def Qx(h:ms ρ=.ok [.i n])(h0:0<=n)(hn:n<=1000000):wj ms ρ=.ok (gJ 0 n.toNat):=C_ (n:=n.toNat) (by rw[h];congr 3;omega) (by omega)
def qa(h:m ρ=.ok (.l xs)):qy m ρ=.ok xs:=by unfold qy;rw[h,ZY];rfl
def YJ:gJ 0 n=(List.range n).map λk=>PV.i ((k:Nat):Int):=by unfold gJ;exact a0N λk _=>by congr 1;omega
end
end L2
namespace L2
open PySem PySem.Spec PyProof.Rows PySem.W
section
variable {prog:HQ}{w:H_}{A:Ia}{E:Hw}{h:Heap}{g:Array GenState}{d:Drawn}{t:Nat}{os:OsState}{a:Addr}{its:Im}{n:Nat}{sl:Ie}
def bf:typeLookup (.type "list") "keys"=pure none:=by rw[a2x,a1w];kernel_rfl
def VX:typeLookup (.type "list") "__getattr__"=pure none:=by rw[a2x,a1w];kernel_rfl
def mF:isSubtype (.type "AttributeError") (.type "AttributeError")=pure true:=by rw[isSubtype_type];kernel_rfl
def xX(he:h.get? e=some ⟨.type "AttributeError",none,.fields #[T,.none,.none,.none,.bool false,X,rawInt 0,rawInt 0],#[]⟩)
  (hQ:∀h',(∀b o,b≠e->h.get? b=some o->h'.get? b=some o)->(∃oe,h'.get? e=some oe/\oe.cls=.type "AttributeError")->Q () ⟨h',g,d,t,os⟩):
  wpAny (model prog w) A (noteAttr (.ref e) o name) Q E ⟨h,g,d,t,os⟩:=by
 have hT:(⟨h,g,d,t,os⟩:Shared).TypeIs (.ref e) "AttributeError":=⟨_,he,rfl⟩;unfold noteAttr lacksNameAndObj;refine f8 ?_;refine f8 (a1r (b:=true) hT mF ?_);rw[if_neg (by decide)];refine f8 (a15 he ?_);dsimp only;rw[if_neg (λz=>by cases(show false=true from z))];rw[if_neg (λz=>by cases(show false=true from z))];refine M8 ?_;rw[if_pos rfl];refine f8 (a17 ?_);refine f8 (a0W (T:="AttributeError") hT ?_);dsimp only;unfold layMembers;refine f8 (a15 he ?_);dsimp only;refine wpAny_update he ?_;refine hQ _ (λb o hb e'=>(P6 _ _ (Ne.symm hb)).trans e') ⟨_,T8 _ he rfl,rfl⟩
def gL(hh:A.handled=none)(hx:h.get? a=some ⟨.type "list",none,.seq its n,sl⟩)
  (hE:∀h' tk e,(∀b o,h.get? b=some o->h'.get? b=some o)->(∃oe,h'.get? e=some oe/\oe.cls=.type "AttributeError")->E (.ref e) ⟨h',g,d,tk,os⟩):
  wpAny (model prog w) A (Builtin.«object.__getattribute__» ⟨[.ref a,.str "keys" tk],[]⟩) Q E ⟨h,g,d,t,os⟩:=by
 have hT:(⟨h,g,d,t,os⟩:Shared).TypeIs (.ref a) "list":=⟨_,hx,rfl⟩;have f4:=bf
 repeat(any_goals(first|assumption|wp_step))
 unfold raiseAttrError;refine f8 (wpAny_mkStr (f8 ?_) (by decide +kernel));unfold newExc newTuple;refine f8 (a0U ?_);refine f8 (m:=firstArgMember _ _) (a1R (a:=Value.none) (by simp only[firstArgMember];kernel_rfl) ?_);refine a0U ?_;refine f8 (a2f (f8 ?_));refine xX (O5 _ rfl) λh' hk he=>?_;unfold raiseNew;refine f8 (wpAny_handled ?_);rw[hh]
 first
  |refine a29 ?_
  |refine f8 (M8 (a29 ?_))
 exact hE _ _ _ (λb o e=>hk b o (N8 (N7 (M9 e) (by simp))) (L6 _ (L6 _ e))) he
def mG(hh:A.handled=none)(hx:h.get? a=some ⟨.type "list",none,.seq its n,sl⟩)
  (hE:∀h' tk e,(∀b o,h.get? b=some o->h'.get? b=some o)->(∃oe,h'.get? e=some oe/\oe.cls=.type "AttributeError")->R (.error (.ref e)) ⟨h',g,d,tk,os⟩):
  codeAny (model prog w) A (.call (.builtin "list.__getattribute__") ⟨[.ref a,.str "keys" tk],[]⟩) R ⟨h,g,d,t,os⟩:=
 a0Y F.slot_list_getattribute.plain F.entry_list_ga (F.slot_list_getattribute.check _ _ _ _ _ _ _ _ (show(⟨h,g,d,t,os⟩:Shared).TypeIs (.ref a) "list" from⟨_,hx,rfl⟩) (F.args_list_getattribute_2 _ _) (gL hh hx hE))
def xY(hh:A.handled=none)(hx:h.get? a=some ⟨.type "list",none,.seq its n,sl⟩)(hQ:∀h' tk,(∀b o,h.get? b=some o->h'.get? b=some o)->Q none ⟨h',g,d,tk,os⟩):
  wpAny (model prog w) A (getAttr? (.ref a) "keys") Q E ⟨h,g,d,t,os⟩:=by
 have hT:∀t,(⟨h,g,d,t,os⟩:Shared).TypeIs (.ref a) "list":=λt=>⟨_,hx,rfl⟩;have f2:=F.slot_list_getattribute.lookup;have f3:=F.slot_list_getattribute.bind (.ref a);unfold getAttr? getAttrBy?;refine f8 (a2f ?_);refine f8 (a02 ?_);unfold getAttrBy;refine T2 ?_;refine f8 (a0W (T:="list") (hT _) ?_);refine f8 (a1R f2 ?_);dsimp only;rw[if_neg (λz=>by cases(show false=true from z))];unfold getAttrByItsOwn hookBefore;rw[if_neg (λz=>by cases(show false=true from z))];refine f8 (M8 ?_);refine f8 (a02 ?_);refine T2 ?_;unfold callGetattribute;rw[if_neg (λz=>by cases(show false=true from z))];unfold boundAndCalled;refine f8 (a1R f3 ?_);dsimp only;refine a0G (mG hh hx λh' tk e hk he=>?_);obtain⟨oe,he,hc⟩:=he;have hTe:(⟨h',g,d,tk,os⟩:Shared).TypeIs (.ref e) "AttributeError":=⟨_,he,hc⟩;dsimp only;unfold getattributeRaised;refine f8 (a1r (b:=true) hTe mF ?_);rw[if_pos rfl];unfold hookBehind;rw[if_neg (λz=>by cases(show false=true from z))];refine f8 (a1R VX ?_);unfold hookOrError attributeErrorLeaves;dsimp only;rw[if_pos (show(!false)=true from rfl)];refine f8 (a29 ?_);refine f8 (a1r (b:=true) hTe mF ?_);rw[if_pos rfl];exact M8 (hQ h' tk hk)
end
def YX:entryFor table "dict.update.loop"=some Builtin.«dict.update.loop»:=entryFor_of_tree (by kernel_rfl)
def jP:plainId "dict.update.loop"=true:=by decide +kernel
section
variable {prog:HQ}{w:H_}{A:Ia}{R:Result->Shared->Prop}{I:Addr}{fp wr:Iu}{G:Array GenState->Array GenState->Prop}{n:Nat}{P:Nat->Value->Prop}{St:Nat->Shared->Prop}{K:Type}[DecidableEq K] {knd:KeyKind prog w K}
def TupAt(h:Heap)(a:Addr)(k v:Value):Prop:=∃o m,h.get? a=some o/\o.cls=.type "tuple"/\o.data=.seq #[k,v] m
def oU(key:Nat->K)(val:IH):Nat->List (K×Value)
 |0=>[]
 |i+1=>stored (oU key val i) (key i) (val i)
def Uo(key:Nat->K)(val:IH):∀i,(oU key val i).length<=i
 |0=>M7 _
 |i+1=>by
  have:=Uo key val i;unfold oU stored;split
  .rw[v0];omega
  .rw[O1];show _+1<=_;omega
def pY(W:WalksS prog w A.in1 I fp wr G n P St)(D:Addr)(hDf:D∉fp)(key:Nat->K)(kv val:IH)(ad:HK)(hP:∀i v,P i v->v=.ref (ad i))(hk:∀i,i<n->knd.is (key i) (kv i)=true)(hw:∀i,i<n->ad i∉D::wr)(hn:n<=sizeLine):
  ∀(k i:Nat)(tk:Tok)(s:Hy),n-i=k->i<=n->St i s->(∀j,j<n->TupAt s.heap (ad j) (kv j) (val j))->s.heap.DictOf knd D (oU key val i)->
   (∀s',Moved (D::wr) G s s'->s'.heap.DictOf knd D (oU key val n)->R (.ok (.ret .none)) s')->
   codeAny (model prog w) A (.builtin "dict.update.loop" ⟨[.ref D,.ref I,.int (i:Int) tk,.none],[]⟩) R s:=by
 have hDw:D∉wr:=λh=>hDf (W.sub _ h);have hsub:∀b∈wr,b∈D::wr:=λb hb=>L9 _ hb;have tmv:∀{s s':Hy},Moved (D::wr) G s s'->(∀j,j<n->TupAt s.heap (ad j) (kv j) (val j))->∀j,j<n->TupAt s'.heap (ad j) (kv j) (val j):=λhm h j hj=>by obtain⟨o,m,h1,h2,h3⟩:=h j hj;exact⟨o,m,hm.heap _ _ (hw j hj) h1,h2,h3⟩
 intro k
 induction k with
 |zero=>
  intro i tk s hk' hi hst ht hD hR;have hin:i=n:=by omega
  subst hin;refine a1E YX ?_;rw[a00 jP _];show wpAny _ A.in1 (pyNext (.ref I) >>= _) _ _ s;refine f8 (W.done s _ _ hst λs' hm=>?_);dsimp only;refine f8 (m:=Builtin.Dict.addKeywords D []) ?_;refine M8 ?_;exact M8 (hR s' (hm.mono hsub) (by
   obtain⟨o,es,ep,ho,rest⟩:=hD;exact⟨o,es,ep,hm.heap D _ hDw ho,rest⟩))
 |succ k ih=>
  intro i tk s hk' hi hst ht hD hR;have hlt:i<n:=by omega
  refine a1E YX ?_;rw[a00 jP _];show wpAny _ A.in1 (pyNext (.ref I) >>= _) _ _ s;refine f8 (W.item i s _ _ hlt hst λv s' hPv hst' hm=>?_);cases hP i v hPv;have hm2:=hm.mono hsub;have ht':=tmv hm2 ht;obtain⟨o,m,h1,h2,h3⟩:=ht' i hlt;have hD':s'.heap.DictOf knd D (oU key val i):=by obtain⟨o,es,ep,ho,rest⟩:=hD;exact⟨o,es,ep,hm.heap D _ hDw ho,rest⟩
  have hT:s'.TypeIs (.ref (ad i)) "tuple":=⟨o,h1,h2⟩;dsimp only;refine f8 (T2 (f8 (wpAny_tryCatch ?_)));unfold Builtin.Dict.pairItems;refine f8 (a0W (T:="tuple") hT ?_);rw[if_pos (by decide)];unfold seqItems?;refine f8 (f8 (a15 h1 ?_));rw[h3];dsimp only;refine M8 (M8 ?_);show wpAny _ _ (holding [kv i,val i] (dictSet D (kv i) (val i))) _ _ _;refine T2 (wpAny_dictSet_pairs (hsz:=O8 (Uo key val i) (O8 hi hn)) (hk i hlt) hD' λh' hD2 hsb=>?_);have e1:((i:Int)+1)=((i+1:Nat):Int):=by omega
  have hm3:Moved (D::wr) G s { s' with heap:=h',toks:=s'.toks+1 }:=hm2.then_heap (a0I _) λb o hb e=>by rw[hsb.2 b (λh:b=D=>hb (by rw[h];exact M3))];exact e
  refine M8 ⟨a1o jP _,?_⟩;rw[show rawInt ((i:Int)+1)=Value.int ((i+1:Nat):Int) 0 by rw[e1];rfl];refine ih (i+1) 0 _ (by omega) hlt (W.frame _ s' _ _ hst' (a0I _) λb hb o e=>?_) (tmv hm3 ht) hD2 λs'' hm'' hD''=>hR s'' (Moved.trans W.gtrans hm3 hm'') hD'';rw[hsb.2 b (λh:b=D=>hDf (by rw[<- h];exact hb))];exact e
end
section
variable {prog:HQ}{w:H_}{A:Ia}{E:Hw}{s:Hy}{K:Type}[DecidableEq K] {knd:KeyKind prog w K}
def Uq{l:Addr}{items:Im}{m:Nat}{sl:Ie}{Q:Hw}{key:Nat->K}{kv val:IH}{ad:HK}(hh:A.handled=none)(hl:s.heap.get? l=some ⟨.type "list",none,.seq items m,sl⟩)
  (hP:∀i,i<items.size->items[i]?=some (.ref (ad i))) (ht:∀i,i<items.size->TupAt s.heap (ad i) (kv i) (val i)) (hk:∀i,i<items.size->knd.is (key i) (kv i)=true) (hn:items.size<=sizeLine)
  (h:∀h' tk,(∀b o,s.heap.get? b=some o->h'.get? b=some o)->h'.DictOf knd s.heap.objs.size (oU key val items.size)->Q (.ref s.heap.objs.size) { s with heap:=h',toks:=tk }):
  wpAny (model prog w) A (call (.type "dict") [.ref l]) Q E s:=by
 refine callType_codes (Q₁:=λobj s₁=>obj=.ref s.heap.objs.size/\s₁={ s with heap:=s.heap.push { cls:=.type "dict",data:=.dict #[] } }) F.kt_called_dict (F.kt_typeCall_dict_1 _) F.entry_dict_init (kt_code_dict_new _ ⟨rfl,rfl⟩) ?_
 rintro obj s₁ ⟨rfl,rfl⟩
 have hnew:(s.heap.push { cls:=.type "dict",data:=.dict #[] }).DictOf knd s.heap.objs.size []:=Heap.DictOf.new s.heap;have hl':(s.heap.push { cls:=.type "dict",data:=.dict #[] }).get? l=some ⟨.type "list",none,.seq items m,sl⟩:=L6 _ hl;refine⟨hnew.typeIs,F.args_dict_init_2 _ _,?_⟩;unfold Builtin.«dict.__init__»;refine f8 ?_;unfold Builtin.Dict.selfAndRest;refine f8 (wpAny_notOrdered_dict hnew.typeIs ?_);show wpAny _ _ (pure (s.heap.objs.size,[Value.ref l])) _ _ _;refine M8 ?_;show wpAny _ _ (Builtin.Dict.updateFrom "dict.__init__" s.heap.objs.size (.ref l) [] .none) _ _ _;unfold Builtin.Dict.updateFrom;refine f8 (a0W (T:="list") ⟨_,hl',rfl⟩ ?_);rw[if_pos (by decide)];refine f8 ?_;refine xY hh hl' λh1 t1 k1=>?_;rw[if_pos (show(none:Option Value).isNone=true from rfl)];refine f8 (a17 ?_);have hl1:h1.get? l=some ⟨.type "list",none,.seq items m,sl⟩:=k1 _ _ hl';have hil:h1.IsList l items:=⟨_,hl1,rfl,m,rfl⟩;refine f8 (wpAny_pyIter_list hil ?_);have D1:h1.DictOf knd s.heap.objs.size []:=by obtain⟨o,es,ep,ho,rest⟩:=hnew;exact⟨o,es,ep,k1 _ _ ho,rest⟩
 have ls:l<s.heap.objs.size:=M9 hl;have l1:l<h1.objs.size:=M9 hl1;have ds:s.heap.objs.size<h1.objs.size:=by obtain⟨o,_,_,ho,_⟩:=D1;exact M9 ho
 have hne:l≠h1.objs.size:=N8 l1;have kp:∀b o,h1.get? b=some o->(h1.push { cls:=.type "list_iterator",data:=.fields #[.ref l,.int 0 0] }).get? b=some o:=λb o e=>L6 _ e;have tl:∀j,j<items.size->ad j<s.heap.objs.size:=λj hj=>by obtain⟨o,_,h1,_⟩:=ht j hj;exact M9 h1
 refine M8 ⟨a1o jP _,pY (knd:=knd) (Walks.list (A:=A.in1.in1) hh h1.objs.size l hne items).toS s.heap.objs.size (by simp;exact⟨N8 ds,a0a ls⟩) key kv val ad (λi v hv=>?_) hk (λi hi=>?_) hn items.size 0 0 _ (by omega) (T5 _) ⟨⟨_,O5 _ rfl,rfl,rfl⟩,?_⟩ (λj hj=>?_) ?_ λs' hm hD=>?_⟩
 .have hi:i<items.size:=by
   by_cases c:i<items.size
   .exact c
   .rw[a2B (by omega)]at hv;cases hv
  rw[hP i hi]at hv;cases hv;rfl
 .have:=tl i hi;intro hm;rcases O0.mp hm with e|hm
  .exact N8 this e
  .exact N8 (a0V this ds) (T0.mp hm)
 .exact⟨_,kp _ _ hl1,rfl,m,rfl⟩
 .obtain⟨o,q,e1,e2,e3⟩:=ht j hj;exact⟨o,q,kp _ _ (k1 _ _ (L6 _ e1)),e2,e3⟩
 .obtain⟨o,es,ep,ho,rest⟩:=D1;exact⟨o,es,ep,kp _ _ ho,rest⟩
 .rw[a2R hm];refine⟨rfl,h s'.heap s'.toks (λb o e=>hm.heap b o (λhmem=>?_) (kp _ _ (k1 _ _ (L6 _ e)))) hD⟩;have:=M9 e;rcases O0.mp hmem with e'|hm
  .exact N8 this e'
  .exact N8 (a0V this ds) (T0.mp hm)
end
section
variable {X:Cx}
def Ur(K:Ih)(H:Hp):List V->List (Key×V)->Prop
 |[],es=>es=[]
 |x::xs,es=>∃a k v r,x=.ref a/\es=(k,v)::r/\SqT K H a [kV k,v]/\Ur K H xs r
def mH(es:HL):List (Key×V):=es.foldl (λacc kv=>putK acc kv.1 kv.2) []
def t8(K:Ih):List V->Hp->VK->Prop:=λvs H Q=>∃(p:Addr)(xs:HF)(es:HL),vs=[.ref p]/\SqL K H p xs/\Ur K H xs es/\∀l,H l=none->Q (.ref l) (upd H l (.dK (mH es)))
def fb{pins:Hu}{σ:St}{H:Hp}{s:Hy}(I:Inv X pins σ H s):∀{xs:HF}{es:HL}{its:HB},Ur X.K H xs es->Vals xs its->∃ps:List (Addr×Value×Value),its=ps.map (λp=>Value.ref p.1)/\ps.length=es.length/\(∀p∈ps,TupAt s.heap p.1 p.2.1 p.2.2)/\∀(i:Nat) p e,ps[i]?=some p->es[i]?=some e->RelV (kV e.1) p.2.1/\RelV e.2 p.2.2
 |[],_,its,h,r=>by cases(show _=_ from h);cases r;exact⟨[],rfl,rfl,(λ_ h=>by cases h),λ_ _ _ h=>by cases h⟩
 |x::xs,_,its,h,r=>by
  obtain⟨a,k,v,es,rfl,rfl,ht,hr⟩:=h;cases r with
  |cons rx r=>
   cases rx;obtain⟨ps,e1,e2,e3,e4⟩:=fb I hr r;obtain⟨us,ru,⟨o,h1,h2,m,h3⟩,_⟩:=I.tuple ht;obtain⟨u1,u2,rfl,r1,r2⟩:=vals2 ru;refine⟨(a,u1,u2)::ps,by rw[e1];rfl,by rw[v4,v4,e2],λp hp=>?_,λi p e hp he=>?_⟩
   .rcases O0.mp hp with rfl|hp
    .exact⟨o,m,h1,h2,h3⟩
    .exact e3 p hp
   .cases i with
    |zero=>rw[List.getElem?_cons_zero]at hp he;cases hp;cases he;exact⟨r1,r2⟩
    |succ i=>rw[R7]at hp he;exact e4 i p e hp he
def mI{es:HL}{key:Nat->Key}{val:IH}:∀n,n<=es.length->(∀i e,i<n->es[i]?=some e->key i=e.1/\RelV e.2 (val i))->KV ((es.take n).foldl (λacc kv=>putK acc kv.1 kv.2) []) (oU key val n)
 |0,_,_=>.nil
 |n+1,hn,h=>by have hlt:n<es.length:=hn;have hx:=N4 hlt;rw[List.take_succ,hx,List.foldl_append];obtain⟨e1,e2⟩:=h n _ (a1p n) hx;show KV (putK _ _ _) (stored (oU key val n) (key n) (val n));rw[e1];exact(mI n (a0z hlt) λi e hi he=>h i e (a1h hi) he).put _ e2
def gM(hc:X.calm=true):j0 X (.type "dict") (t8 X.K):=by
 intro pins s σ H xs us Q I r h;obtain⟨p,xs,es,rfl,hS,hp,q⟩:=h;obtain⟨u,rfl,ru⟩:=vals1 r;cases ru;obtain⟨its,rv,⟨o,m,h1,h2,h3,h4⟩,hz⟩:=I.list hS;obtain⟨ps,e1,e2,e3,e4⟩:=fb I hp rv;have hlen:its.length=es.length:=by rw[e1,v0,e2]
 have hx:∀i,i<es.length->∃a,ps[i]?=some a/\es[i]?=some (es.getD i (.inl 0,.non))/\ps.getD i (0,.none,.none)=a:=λi hi=>by
  have hi2:i<ps.length:=by rw[e2];exact hi
  refine⟨ps[i],N4 hi2,by rw[T6,N4 hi];rfl,by rw[T6,N4 hi2];rfl⟩
 have hsz:its.toArray.size=es.length:=by simpa using hlen
 obtain⟨cls,dict,data,slots⟩:=o;dsimp only at h2 h3 h4;subst h2 h3 h4;refine Uq (knd:=yw X.prog X.w) (key:=λi=>(es.getD i (.inl 0,.non)).1) (kv:=λi=>(ps.getD i (0,.none,.none)).2.1) (val:=λi=>(ps.getD i (0,.none,.none)).2.2) (ad:=λi=>(ps.getD i (0,.none,.none)).1) (I.ok.hd hc) h1 (λi hi=>?_) (λi hi=>?_) (λi hi=>?_) ?_ λh' tk hk hD=>?_
 .rw[hsz]at hi;obtain⟨a,ha,_,hg⟩:=hx i hi;rw[hg];simp[e1,ha]
 .rw[hsz]at hi;obtain⟨a,ha,_,hg⟩:=hx i hi;rw[hg];exact e3 a (a0H ha)
 .rw[hsz]at hi;obtain⟨a,ha,he,hg⟩:=hx i hi;rw[hg];exact cD (e4 i a _ ha he).1
 .rw[hsz,<- hlen,<- rv.length];exact hz
 .rw[hsz]at hD;have kvr:KV (mH es) (oU (λi=>(es.getD i (.inl 0,.non)).1) (λi=>(ps.getD i (0,.none,.none)).2.2) es.length):=by
   have:=mI (es:=es) (key:=λi=>(es.getD i (.inl 0,.non)).1) (val:=λi=>(ps.getD i (0,.none,.none)).2.2) es.length (M7 _) λi e hi he=>?_
   .rwa [a1s]at this
   .obtain⟨a,ha,he',hg⟩:=hx i hi;rw[he]at he';cases he';rw[hg];exact⟨by rw[T6,he],(e4 i a _ ha he).2⟩
  have hfr:=I.hok.fresh (M7 s.heap.objs.size);refine⟨.ref s.heap.objs.size,_,I.laid (a:=s.heap.objs.size) (o:=.dK (mH es)) (t':=tk) hk (M7 _) (iS ?_ (a0h.mpr (Ne.symm (N8 I.big))) kvr hD),rfl,q _ hfr⟩;rw[kvr.length];refine O8 (Uo _ _ _) ?_;rw[<- hlen,<- rv.length];exact hz
end
def xZ:List PV->Option (List (Key×PV))
 |[]=>some []
 |.t [k,v]::xs=>(pk k).bind λq=>(xZ xs).map ((q,v)::·)
 |_=>none
def fc(es:HZ):List (Key×PV):=es.foldl (λacc kv=>dput acc kv.1 kv.2) []
def bg:List PV->Out PV
 |[.d xs]=>.ok (.d xs)
 |[.l xs]=>ZM ((xZ xs).map λes=>.d (fc es))
 |_=>.wall
section
variable {W:RC}{M:Hz}{H:Hp}
def mJ:∀{xs:HW}{vs:HF}{es:HZ},zX W M H xs vs->xZ xs=some es->∃ev,Ur W.K H vs ev/\qx W M H es ev
 |[],_,_,h,e=>by cases e;cases(show _=_ from h);exact⟨[],rfl,rfl⟩
 |x::xs,_,es,h,e=>by
  obtain⟨v,r,rfl,h1,h2⟩:=h;unfold xZ at e;split at e
  .cases ‹_::_=[]›
  .rename_i k y ys heq;cases heq;obtain⟨q,hq,e⟩:=O4.mp e;obtain⟨zs,hz,rfl⟩:=u8.mp e;obtain⟨ev,i1,i2⟩:=mJ h2 hz;obtain⟨p,us,rfl,hp,u1,r1,rfl,hk,u2,r2,rfl,hv,hr⟩:=h1;cases(show _=_ from hr);cases aU (yX.iff.mpr hk) hq;exact⟨(q,u2)::ev,⟨p,q,u2,ev,rfl,rfl,hp,i1⟩,⟨u2,ev,rfl,hv,i2⟩⟩
  .cases e
def Xq:∀{es:HZ}{ev:HL}{a:HZ}{av:HL},qx W M H a av->qx W M H es ev->qx W M H (es.foldl (λacc kv=>dput acc kv.1 kv.2) a) (ev.foldl (λacc kv=>putK acc kv.1 kv.2) av)
 |[],_,_,_,h,e=>by cases(show _=_ from e);exact h
 |kx::es,_,a,av,h,⟨v,q,e,h1,h2⟩=>by subst e;rw[a1z,a1z];exact Xq (a:=dput a kx.1 kx.2) (av:=putK av kx.1 v) (h.put h1) h2
def pZ:LfF W (λvs H Q=>C9 vs H Q\/t8 W.K vs H Q) bg:=λM C B H xs vs Q n h q=>by
 unfold bg at q;split at q
 .obtain⟨v,r,rfl,⟨p,es,rfl,_,hl,rr⟩,hr⟩:=h;cases(show _=_ from hr);exact .inl ⟨p,es,rfl,hl,λl hl=>q _ _ (zy.upd hl) (xF rr hl)⟩
 .obtain⟨z,e,q⟩:=y_ q;obtain⟨es,he,rfl⟩:=u8.mp e;obtain⟨v,r,rfl,⟨p,ws,rfl,_,hl,rr⟩,hr⟩:=h;cases(show _=_ from hr);obtain⟨ev,i1,i2⟩:=mJ rr he;exact .inr ⟨p,ws,ev,rfl,SqL.of hl,i1,λl hl=>q _ _ (zy.upd hl) (xF (Xq (show qx W M H [] []from rfl) i2) hl)⟩
 .exact q.elim
end
def p0(hc:X.calm=true)(hg:Gl X "dict")(hm:X.mg "dict"=none)(ha:AM X C S ws [e] ms)(he:starEach [e] X.env=[(false,eval e X.env)]:=by rfl):FM X C S (.Call (.Name "dict" p) [e] [] pos) (zh bg ms):=
 eS (λhK=>hK▸gK.or (gM hc)) pZ hg hm PyProof.Rows.boot_dict ha (he:=he)
section
variable {prog:HQ}{w:H_}{A:Ia}{E:Hw}{s:Hy}
def len_dict:typeLookup (.type "dict") "__len__"=pure (some (.builtin "dict.__len__")):=by rw[a2x,a1w];kernel_rfl
def mK(hT:s.TypeIs (.ref d) "dict")(h:Q false s):wpAny (model prog w) A (Builtin.List.listLengthHint (.ref d)) Q E s:=by
 unfold Builtin.List.listLengthHint;refine f8 (wpAny_specialOf hT len_dict ?_);generalize hid:("dict.__len__":String)=id0
 (fail_if_success (clear hid id0));wp_delta
 rw[show splitId id0=some ("dict","__len__")from by subst hid;decide +kernel];dsimp only;refine f8 (a1r (b:=true) hT (by rw[isSubtype_type];kernel_rfl) ?_);subst hid;rw[if_neg (by decide)];rw[if_pos (by decide +kernel)];refine f8 (a0W (T:="dict") hT ?_);exact M8 h
variable {K:Type}[DecidableEq K] {knd:KeyKind prog w K}
def x3{Q:Hw}{d:Addr}{kvs:List (K×Value)}{ep:Nat}(hh:A.handled=none)(hd:(d==sysModules)=false)(hm:s.heap.DictAt knd d kvs ep)(hn:kvs.length<=sizeLine)
  (hQ:∀h' tk acc' c',(∀b o,s.heap.get? b=some o->h'.get? b=some o)->h'.get? s.heap.objs.size=some { cls:=.type "list",dict:=none,data:=.seq acc' c',slots:=#[] }->ItemsOf (λi v=>∃k x,kvs[i]?=some (k,x)/\knd.is k v=true) acc' kvs.length->Q (.ref s.heap.objs.size) { s with heap:=h',toks:=tk }):
  wpAny (model prog w) A (call (.type "list") [.ref d]) Q E s:=by
 have l1:d<s.heap.objs.size:=by obtain⟨o,_,ho,_⟩:=hm;exact M9 ho
 refine callType_codes (Q₁:=λobj s₁=>obj=.ref s.heap.objs.size/\s₁={ s with heap:=s.heap.push { cls:=.type "list",data:=.seq #[] } }) PySem.F.called_list (PySem.F.typeCall_list_1 _) PySem.F.entry_list_init
  (code_list_new _ ⟨rfl,rfl⟩) λobj s₁ h₁=>?_
 obtain⟨rfl,rfl⟩:=h₁;have hS:(s.heap.push { cls:=.type "list",data:=.seq #[] }).get? s.heap.objs.size=some { cls:=.type "list",data:=.seq #[] }:=O5 _ rfl;refine⟨⟨_,hS,rfl⟩,PySem.F.args_list_init_2 _ _,?_⟩;show wpAny _ _ (do let old<-Builtin.List.listItems (.ref s.heap.objs.size);Builtin.List.listUpdate (.ref s.heap.objs.size) (λ_=>#[]);letGo old.toList.reverse;Builtin.List.listExtendWith (.ref s.heap.objs.size) (.ref d) .none) _ _ _;refine f8 ?_;unfold Builtin.List.listItems;refine f8 (wpAny_seqItems hS rfl (M8 ?_));show wpAny _ _ (updateSeq s.heap.objs.size (λ_=>#[]) >>= λ_=>letGo (#[]:Array Value).toList.reverse >>= λ_=>Builtin.List.listExtendWith (.ref s.heap.objs.size) (.ref d) .none) _ _ _;refine f8 (a07 hS rfl ?_);have hS₂:=T8 (Obj.mapSeq (λ_=>(#[]:Array Value))) hS rfl;refine f8 (wpAny_letGo ?_);have kp:∀b o,s.heap.get? b=some o->((s.heap.push { cls:=.type "list",data:=.seq #[] }).update s.heap.objs.size (Obj.mapSeq (λ_=>(#[]:Array Value)))).get? b=some o:=λb o e=>
  (P6 _ _ (a0a (M9 e))).trans (L6 _ e)
 generalize((s.heap.push { cls:=.type "list",data:=.seq #[] }).update s.heap.objs.size (Obj.mapSeq (λ_=>(#[]:Array Value))))=h2 at hS₂ kp;have hm2:h2.DictAt knd d kvs ep:=hm.at' λo e=>kp _ _ e;have hT2:∀{s':Hy},s'.heap.DictAt knd d kvs ep->s'.TypeIs (.ref d) "dict":=λz=>z.dictOf.typeIs;unfold Builtin.List.listExtendWith;refine f8 (a0W (T:="dict") (hT2 hm2) ?_);have hne1:s.heap.objs.size≠d:=a0a l1;have h1:Builtin.List.listSameRef (.ref s.heap.objs.size) (.ref d)=false:=by simp[Builtin.List.listSameRef,hne1]
 rw[if_neg (by rw[h1];decide)];refine f8 (a13 hd hm2 ?_);have kp2:∀b o,h2.get? b=some o->(h2.push { cls:=.type "dict_keyiterator",data:=.fields #[.ref d,.int 0 0,.int kvs.length 0,.int ep 0] }).get? b=some o:=λb o e=>L6 _ e;have hm3:(h2.push { cls:=.type "dict_keyiterator",data:=.fields #[.ref d,.int 0 0,.int kvs.length 0,.int ep 0] }).DictAt knd d kvs ep:=hm2.at' λo e=>kp2 _ _ e;refine f8 (T2 (mK (hT2 hm3) ?_));rw[if_pos (by decide)];refine f8 (a17 ?_);unfold Builtin.List.listTouch Builtin.List.listUpdate;have s2:s.heap.objs.size<h2.objs.size:=M9 hS₂;have dn:d≠h2.objs.size:=N8 (a0V l1 s2);have hS3:=kp2 _ _ hS₂;have it3:(h2.push { cls:=.type "dict_keyiterator",data:=.fields #[.ref d,.int 0 0,.int kvs.length 0,.int ep 0] }).get? h2.objs.size=some { cls:=.type "dict_keyiterator",data:=.fields #[.ref d,.int 0 0,.int kvs.length 0,.int ep 0] }:=O5 _ rfl;have kq:∀b o,s.heap.get? b=some o->(h2.push { cls:=.type "dict_keyiterator",data:=.fields #[.ref d,.int 0 0,.int kvs.length 0,.int ep 0] }).get? b=some o:=λb o e=>kp2 _ _ (kp b o e);generalize(h2.push { cls:=.type "dict_keyiterator",data:=.fields #[.ref d,.int 0 0,.int kvs.length 0,.int ep 0] })=h3 at hS3 it3 kq hm3;refine f8 (f8 (a07 hS3 rfl ?_));have hS4:=T8 (Obj.mapSeq (λx:Array Value=>x.push Value.none)) hS3 rfl;refine a07 hS4 rfl ?_;have hS5:=T8 (Obj.mapSeq (λx:Array Value=>x.pop)) hS4 rfl;have ku:∀b o,b≠s.heap.objs.size->h3.get? b=some o->((h3.update s.heap.objs.size (Obj.mapSeq λx=>x.push Value.none)).update s.heap.objs.size (Obj.mapSeq λx=>x.pop)).get? b=some o:=λb o hb e=>
  (P6 _ _ (Ne.symm hb)).trans ((P6 _ _ (Ne.symm hb)).trans e)
 have hm5:=hm3.at' (h':=((h3.update s.heap.objs.size (Obj.mapSeq λx=>x.push Value.none)).update s.heap.objs.size (Obj.mapSeq λx=>x.pop))) λo e=>ku _ _ (Ne.symm hne1) e;have it5:=ku _ _ (a0a s2) it3;have k5:∀b o,s.heap.get? b=some o->((h3.update s.heap.objs.size (Obj.mapSeq λx=>x.push Value.none)).update s.heap.objs.size (Obj.mapSeq λx=>x.pop)).get? b=some o:=λb o e=>ku b o (N8 (M9 e)) (kq b o e);generalize((h3.update s.heap.objs.size (Obj.mapSeq λx=>x.push Value.none)).update s.heap.objs.size (Obj.mapSeq λx=>x.pop))=h5 at hS5 hm5 it5 k5;refine M8 ⟨a1o a18 _,a2N (Walks.dictKeys (knd:=knd) (A:=A.in1.in1) hh h2.objs.size d dn kvs ep).toS hn s.heap.objs.size (by simp;exact⟨N8 s2,hne1⟩) _ kvs.length 0 _ _ _ rfl (T5 _) (show _/\_ from⟨⟨_,it5,rfl,rfl⟩,hm5⟩) hS5 (ItemsOf.nil _) λs' acc' c' hmv hS' hacc=>?_⟩;rw[a2R hmv];refine⟨rfl,hQ s'.heap s'.toks acc' c' (λb o e=>hmv.heap b o (λhmem=>?_) (k5 b o e)) hS' hacc⟩;have:=M9 e;rcases O0.mp hmem with e'|hm
 .exact N8 this e'
 .exact N8 (a0V this s2) (T0.mp hm)
end
section
variable {X:Cx}
def t9:List V->Hp->VK->Prop:=λvs H Q=>∃p es,vs=[.ref p]/\Rd H p (.dK es)/\∀l,H l=none->Q (.ref l) (upd H l (.lst (es.map λkv=>kV kv.1)))
def gN(hc:X.calm=true):j0 X (.type "list") t9:=by
 intro pins s σ H xs us Q I r h;obtain⟨p,es,rfl,hS,q⟩:=h;obtain⟨u,rfl,ru⟩:=vals1 r;cases ru;obtain⟨z,hd,vs,rel,o,ds,ep,e1,e2,e3,e4,e5,e6⟩:=ZS I.hok hS;have hl:vs.length=es.length:=rel.length.symm;refine x3 (knd:=yw X.prog X.w) (kvs:=vs) (ep:=ep) (I.ok.hd hc) hd ⟨o,ds,e1,e2,e3,e4,e5,e6⟩ (by rw[hl];exact z) λh' tk acc' c' hk hg hi=>?_;refine pT (s:=s) (tk:=tk) I (M7 _) hk hg ?_ ?_ ?_ q
 .rw[v0];exact z
 .rw[v0,hi.1,hl]
 .intro j x v f1 f2;obtain⟨k,y,f3,f4⟩:=hi.2 j v f2;rw[O2]at f1;obtain⟨kx,f5,rfl⟩:=u8.mp f1;obtain⟨w',hw⟩:=eZ rel (k:=kx.1) (v:=kx.2) f5;rw[hw]at f3;cases f3;exact bb f4
end
def VY:List PV->Out PV
 |[.l xs]=>.ok (.l xs)
 |[.t xs]=>.ok (.l xs)
 |[.sc xs]=>.ok (.l (xs.map PV.i))
 |[.d kvs]=>.ok (.l (kvs.map λkx=>kP kx.1))
 |_=>.wall
def Us{W:RC}{M:Hz}{H:Hp}:∀{kvs:HZ}{es:HL},qx W M H kvs es->zX W M H (kvs.map λkx=>kP kx.1) (es.map λkv=>kV kv.1)
 |[],_,h=>by cases(show _=_ from h);rfl
 |kx::r,_,⟨v,q,e,h1,h2⟩=>by subst e;exact⟨_,_,rfl,t6 _,Us h2⟩
def p4(L:LfF W r xE):LfF W (λvs H Q=>r vs H Q\/t9 vs H Q) VY:=λM C B H xs vs Q n h q=>by
 unfold VY at q;split at q
 .exact .inl (L M C B H _ vs Q n h q)
 .exact .inl (L M C B H _ vs Q n h q)
 .exact .inl (L M C B H _ vs Q n h q)
 .obtain⟨v,r,rfl,⟨p,es,rfl,_,hl,rr⟩,hr⟩:=h;cases(show _=_ from hr);exact .inr ⟨p,es,rfl,hl,λl hl=>q _ _ (zy.upd hl) (Km (Us rr) hl)⟩
 .exact q.elim
def Ut(hc:X.calm=true)(hg:Gl X "list")(hm:X.mg "list"=none)(ha:AM X C S ws [e] ms)(he:starEach [e] X.env=[(false,eval e X.env)]:=by rfl):FM X C S (.Call (.Name "list" p) [e] [] pos) (zh VY ms):=
 eS (λhK=>hK▸aF.or (gN hc)) (p4 xG) hg hm PyProof.Rows.boot_list ha (he:=he)
def Dc:List V->Hp->VK->Prop:=λvs H Q=>∃b:Bool,vs=[.bl b]/\Q (.int (if b then 1 else 0)) H
def mL:j0 X (.type "int") Dc:=by intro pins s σ H xs us Q I r h;obtain⟨b,rfl,q⟩:=h;obtain⟨u,rfl,ru⟩:=vals1 r;cases ru;exact call_int_bool ⟨.int _,H,I.tok _,⟨_,rfl⟩,q⟩
def c9:List PV->Out PV
 |[.b c]=>.ok (.i (if c then 1 else 0))
 |_=>.wall
def x4:LfC W Dc c9:=λM C B H xs vs Q n h q=>by
 unfold c9 at q;split at q
 .obtain⟨v,r,rfl,hx,hr⟩:=h;cases(show _=_ from hr);cases(show _=_ from hx);exact⟨_,rfl,q _ H (zy.refl _) rfl⟩
 .exact q.elim
def mM(hg:Gl X "int")(hm:X.mg "int"=none)(ha:AM X C S ws [e] ms)(he:starEach [e] X.env=[(false,eval e X.env)]:=by rfl):EM X C S false (.Call (.Name "int" p) [e] [] pos) (zh c9 ms):=
 eR (λ_=>mL) x4 hg hm PyProof.Rows.Boot.int ha (he:=he)
inductive HV where
 |v (x:PV)|g (k:Nat)|t (xs:List HV)
inductive Cell where
 |l (xs:List HV)|d (kvs:List (Key×HV))|z (kvs:List (Key×HV))|o (c:Nat) (fs:List (Str×HV))|y (b:Bool)|m (l c:Nat) (q:Str)
abbrev AH:=List Cell
abbrev wJ:=List (Option HV)
structure HC where
 W:RC
 H0:Hp
 M0:Addr->Prop
def HM(Z:HC)(A:HK)(n:Nat):Addr->Prop:=λa=>(Z.M0 a\/Z.H0 a=none)/\∀k,k<n->A k≠a
mutual
def j5(W:RC)(M:Hz)(A:HK)(n:Nat)(H:Hp):HV->V->Prop
 |.v x,v=>Rep W M H x v
 |.g k,v=>k<n/\v=.ref (A k)
 |.t xs,v=>∃p vs,v=.ref p/\SqT W.K H p vs/\yO W M A n H xs vs
def yO(W:RC)(M:Hz)(A:HK)(n:Nat)(H:Hp):List HV->List V->Prop
 |[],vs=>vs=[]
 |x::xs,vs=>∃v r,vs=v::r/\j5 W M A n H x v/\yO W M A n H xs r
end
def jW{κ:Type}(R:HV->V->Prop):List (κ×HV)->List (κ×V)->Prop
 |[],es=>es=[]
 |kx::r,es=>∃v q,es=(kx.1,v)::q/\R kx.2 v/\jW R r q
section
variable {W:RC}{M M':Hz}{A A':HK}{n n':Nat}{H H':Hp}
mutual
def j5.gen(f:Fr M H H')(s:∀a,M a->H a≠none->M' a)(hn:n<=n')(ha:∀k,k<n->A' k=A k):∀{x:HV}{v:V},j5 W M A n H x v->j5 W M' A' n' H' x v
 |.v x,v,h=>Rep.gen f s h
 |.g k,v,h=>⟨N7 h.1 hn,by rw[ha k h.1];exact h.2⟩
 |.t xs,v,h=>by unfold j5 at h ⊢;obtain⟨p,vs,e,r,q⟩:=h;exact⟨p,vs,e,f.sqT r,yO.gen f s hn ha q⟩
def yO.gen(f:Fr M H H')(s:∀a,M a->H a≠none->M' a)(hn:n<=n')(ha:∀k,k<n->A' k=A k):∀{x:List HV}{v:HF},yO W M A n H x v->yO W M' A' n' H' x v
 |[],v,h=>h
 |x::xs,vs,h=>by unfold yO at h ⊢;obtain⟨v,r,e,h1,h2⟩:=h;exact⟨v,r,e,j5.gen f s hn ha h1,yO.gen f s hn ha h2⟩
end
def jW.imp{κ:Type}{R R':HV->V->Prop}(h:∀x v,R x v->R' x v):∀{kvs:List (κ×HV)}{es:List (κ×V)},jW R kvs es->jW R' kvs es
 |[],_,q=>q
 |_::_,_,⟨v,q,e,a,b⟩=>⟨v,q,e,h _ _ a,jW.imp h b⟩
def Mde(l c:Nat)(q:Str)(H:Hp)(ps:Im):Prop:=∃c' oc ws t,ps = #[rawInt l,rawInt c,.ref c']/\H c'=some (.frz oc (.own c'))/\oc.data=.fields ws/\ws[1]?=some (.str q t)
def Mde.gen(f:Fr M H H'):Mde l c q H ps->Mde l c q H' ps:=λ⟨c',oc,ws,t,e,h,r⟩=>⟨c',oc,ws,t,e,f _ _ h (.inr trivial),r⟩
def af(W:RC)(M:Hz)(A:HK)(n:Nat)(H:Hp)(p:Addr):Cell->Prop
 |.l xs=>∃vs,H p=some (.lst vs)/\yO W M A n H xs vs
 |.d kvs=>∃es,H p=some (.dK es)/\jW (j5 W M A n H) kvs es
 |.z kvs=>∃o es,H p=some (.frz o (.dK es))/\jW (j5 W M A n H) kvs es
 |.o c fs=>∃dx es,H p=some (.ins (W.cls c) dx es)/\jW (j5 W M A n H) fs es
 |.y b=>p=W.cls 1000/\∃ps,H p=some (.tbl ps)/\(b=true->ps = #[])
 |.m l c q=>p=W.cls 1000/\∃ps,H p=some (.tbl ps)/\Mde l c q H ps
def af.gen{p:Addr}(hp:H' p=H p)(f:Fr M H H')(s:∀a,M a->H a≠none->M' a)(hn:n<=n')(ha:∀k,k<n->A' k=A k):∀{c:Cell},af W M A n H p c->af W M' A' n' H' p c
 |.l _,⟨vs,e,q⟩=>⟨vs,hp.trans e,q.gen f s hn ha⟩
 |.d _,⟨es,e,q⟩=>⟨es,hp.trans e,q.imp λ_ _=>j5.gen f s hn ha⟩
 |.z _,⟨o,es,e,q⟩=>⟨o,es,hp.trans e,q.imp λ_ _=>j5.gen f s hn ha⟩
 |.o _ _,⟨dx,es,e,q⟩=>⟨dx,es,hp.trans e,q.imp λ_ _=>j5.gen f s hn ha⟩
 |.y _,⟨e1,ps,e,q⟩=>⟨e1,ps,hp.trans e,q⟩
 |.m _ _ _,⟨e1,ps,e,q⟩=>⟨e1,ps,hp.trans e,q.gen f⟩
def af.ob{p:Addr}:∀{c:Cell},af W M A n H p c->∃o,H p=some o
 |.l _,⟨_,e,_⟩=>⟨_,e⟩
 |.d _,⟨_,e,_⟩=>⟨_,e⟩
 |.z _,⟨_,_,e,_⟩=>⟨_,e⟩
 |.o _ _,⟨_,_,e,_⟩=>⟨_,e⟩
 |.y _,⟨_,_,e,_⟩=>⟨_,e⟩
 |.m _ _ _,⟨_,_,e,_⟩=>⟨_,e⟩
end
structure Gro(Z:HC)(A:HK)(n:Nat)(H:Hp)(A':HK)(n':Nat)(H':Hp):Prop where
 le:n<=n'
 agr:∀k,k<n->A' k=A k
 fresh:∀k,n<=k->k<n'->H (A' k)=none
 fr:Fr (HM Z A n) H H'
 dom:∀a,H' a=none->H a=none
structure HH(Z:HC)(A:HK)(H:Hp)(G:AH):Prop where
 same:zy Z.H0 H
 cell:∀(k:Nat) c,G[k]?=some c->af Z.W (HM Z A G.length) A G.length H (A k) c
 inj:∀j k,j<G.length->k<G.length->A j=A k->j=k
 own:∀k,k<G.length->Z.H0 (A k)=none
structure HR(Z:HC)(A:HK)(H:Hp)(σ:St)(ρ:wJ)(G:AH):Prop extends HH Z A H G where
 len:σ.length=ρ.length
 var:∀(i:Nat) x,ρ[i]?=some (some x)->∃v,σ[i]?=some (some v)/\j5 Z.W (HM Z A G.length) A G.length H x v
section
variable {Z:HC}{A A' A'':HK}{n n' n'':Nat}{H H' H'':Hp}{G G' G'':AH}{σ σ':St}{ρ ρ':wJ}
def Gro.sM(g:Gro Z A n H A' n' H'):∀a,HM Z A n a->H a≠none->HM Z A' n' a:=λa m h=>⟨m.1,λk hk e=>by
 by_cases c:k<n
 .exact m.2 k c (by rw[<- g.agr k c];exact e)
 .exact h (e▸g.fresh k (by omega) hk)⟩
def Gro.same(s:zy H H'):Gro Z A n H A n H':=⟨M7 _,λ_ _=>rfl,λk a b=>absurd b (by omega),s.fr,λa h=>zy.none s h⟩
def Gro.refl:Gro Z A n H A n H:=Gro.same (zy.refl _)
def Gro.trans(g:Gro Z A n H A' n' H')(k:Gro Z A' n' H' A'' n'' H''):Gro Z A n H A'' n'' H'':=by
 refine⟨O8 g.le k.le,λj hj=>(k.agr j (N7 hj g.le)).trans (g.agr j hj),λj h1 h2=>?_,λa o h m=>?_,λa h=>g.dom a (k.dom a h)⟩
 .by_cases c:j<n'
  .rw[k.agr j c];exact g.fresh j h1 c
  .exact g.dom _ (k.fresh j (by omega) h2)
 .refine k.fr a o (g.fr a o h m) (m.imp (λm=>g.sM a m (by rw[h];exact λz=>by cases z)) id)
def j5.gro(g:Gro Z A n H A' n' H')(h:j5 W (HM Z A n) A n H x v):j5 W (HM Z A' n') A' n' H' x v:=h.gen g.fr g.sM g.le g.agr
def yO.gro(g:Gro Z A n H A' n' H')(h:yO W (HM Z A n) A n H x v):yO W (HM Z A' n') A' n' H' x v:=h.gen g.fr g.sM g.le g.agr
def HR.gro(R:HR Z A H σ ρ G)(h:HH Z A' H' G')(g:Gro Z A G.length H A' G'.length H'):HR Z A' H' σ ρ G':=
 ⟨h,R.len,λi x e=>let⟨v,h1,h2⟩:=R.var i x e;⟨v,h1,h2.gro g⟩⟩
def HH.ob(h:HH Z A H G)(hk:k<G.length):∃o,H (A k)=some o:=(h.cell k _ (N4 hk)).ob
def HH.keep(h:HH Z A H G)(s:zy H H'):HH Z A H' G:=⟨h.same.trans s,λk c e=>by
 have q:=h.cell k c e;obtain⟨o,ho⟩:=q.ob;exact q.gen ((s _ _ ho).trans ho.symm) s.fr (λ_ m _=>m) (M7 _) λ_ _=>rfl,h.inj,h.own⟩
def HH.new(h:HH Z A H G):New (HM Z A G.length) H:=λp hp=>⟨.inr (zy.none h.same hp),λk hk e=>by
 obtain⟨o,ho⟩:=h.ob hk;rw[e,hp]at ho;cases ho⟩
def HR.keep(R:HR Z A H σ ρ G)(s:zy H H'):HR Z A H' σ ρ G:=R.gro (R.toHH.keep s) (Gro.same s)
def exA(A:HK)(n:Nat)(p:Addr):Nat->Addr:=λk=>if k=n then p else A k
def VZ:exA A n p n=p:=if_pos rfl
def Kn(h:k<n):exA A n p k=A k:=if_neg (by omega)
def Gro.ext(s:zy H H')(hp:H p=none):Gro Z A n H (exA A n p) (n+1) H':=
 ⟨a0I _,λk hk=>Kn hk,λk h1 h2=>by rw[show k=n by omega,VZ];exact hp,s.fr,λa h=>zy.none s h⟩
def HH.alloc(h:HH Z A H G)(s:zy H H')(hp:H p=none)(hc:af Z.W (HM Z (exA A G.length p) (G.length+1)) (exA A G.length p) (G.length+1) H' p c):HH Z (exA A G.length p) H' (G++[c]):=by
 have g:Gro Z A G.length H (exA A G.length p) (G.length+1) H':=Gro.ext s hp;have hl:(G++[c]).length=G.length+1:=by simp
 have np:∀k,k<G.length->A k≠p:=λk hk e=>by obtain⟨o,ho⟩:=h.ob hk;rw[e,hp]at ho;cases ho
 refine⟨h.same.trans s,λk d e=>?_,λj k hj hk e=>?_,λk hk=>?_⟩
 .rw[hl];by_cases hk:k<G.length
  .rw[S6 hk]at e;have q:=h.cell k d e;obtain⟨o,ho⟩:=q.ob;rw[Kn hk];exact q.gen ((s _ _ ho).trans ho.symm) g.fr g.sM g.le g.agr
  .have e2:=(N5.mp e).1;have ek:k=G.length:=by omega
   subst ek;rw[T9 (M7 _),a1b]at e;cases e;rw[VZ];exact hc
 .rw[hl]at hj hk;by_cases c1:j=G.length
  .by_cases c2:k=G.length
   .rw[c1,c2]
   .rw[c1,VZ,Kn (by omega)]at e;exact absurd e.symm (np k (by omega))
  .by_cases c2:k=G.length
   .rw[c2,VZ,Kn (by omega)]at e;exact absurd e (np j (by omega))
   .rw[Kn (by omega),Kn (by omega)]at e;exact h.inj j k (by omega) (by omega) e
 .rw[hl]at hk;by_cases c1:k=G.length
  .rw[c1,VZ];exact zy.none h.same hp
  .rw[Kn (by omega)];exact h.own k (by omega)
def HH.frw(h:HH Z A H G)(hk:k<G.length)(h0:H (A k)=Option.some o0)(n0:¬Imm o0):Gro Z A G.length H A G.length (upd H (A k) o):=by
 refine⟨M7 _,λ_ _=>rfl,λk a b=>absurd b (by omega),λa q e m=>?_,λa e=>?_⟩
 .have:a≠A k:=λz=>by
   rcases m with m|m
   .exact m.2 k hk z.symm
   .rw[z,h0]at e;cases e;exact n0 m
  rw[zg this];exact e
 .by_cases z:a=A k
  .rw[z,zd]at e;cases e
  .rw[zg z]at e;exact e
def HH.write(h:HH Z A H G)(hk:k<G.length)(h0:H (A k)=Option.some o0)(n0:¬Imm o0)(hc:af Z.W (HM Z A G.length) A G.length (upd H (A k) o) (A k) c):HH Z A (upd H (A k) o) (G.set k c):=by
 have g:=h.frw (o:=o) hk h0 n0;have hl:(G.set k c).length=G.length:=S4 ..;refine⟨λa q e=>?_,λj d e=>?_,λi j hi hj=>h.inj i j (hl▸hi) (hl▸hj),λj hj=>h.own j (hl▸hj)⟩
 .have:a≠A k:=λz=>by rw[z,h.own k hk]at e;cases e
  rw[zg this];exact h.same a q e
 .rw[hl];by_cases hj:k=j
  .subst hj;rw[O9 hk]at e;cases e;exact hc
  .rw[O6 hj]at e;have jl:=(N5.mp e).1;exact(h.cell j d e).gen (zg λz=>hj (h.inj j k jl hk z).symm) g.fr g.sM g.le g.agr
def HR.set(R:HR Z A H σ ρ G)(hx:j5 Z.W (HM Z A G.length) A G.length H x v):HR Z A H (σ.set i (Option.some v)) (ρ.set i (Option.some x)) G:=by
 refine⟨R.toHH,by rw[S4,S4];exact R.len,λj y e=>?_⟩;by_cases hij:i=j
 .subst hij;have hl:i<ρ.length:=by
   have:=(N5.mp e).1
   rwa [S4]at this
  rw[O9 hl]at e;cases e;exact⟨v,by rw[O9 (by rw[R.len];exact hl)],hx⟩
 .rw[O6 hij]at e ⊢;exact R.var j y e
end
inductive HX(α:Type)where
 |ok (a:α) (G:AH)|exc (c:Nat) (fs:Ic) (G:AH)|wall
def HX.bind{α β:Type}:HX α->(α->AH->HX β)->HX β
 |.ok a G,f=>f a G
 |.exc c fs G,_=>.exc c fs G
 |.wall,_=>.wall
def p5(Z:HC)(E:XK)(A:HK)(n:Nat)(H:Hp)(c:Nat)(fs:Ic)(G':AH):Prop:=∀A' H' e dx es,HH Z A' H' G'->Gro Z A n H A' G'.length H'->H' e=some (XC e (Z.W.cls c) dx)->H' dx=some (XD dx es)->wd Z.W (HM Z A' G'.length) H' fs es->E (.ref e) (some dx) H'
def HPx{α:Type}(Z:HC)(E:XK)(A:HK)(n:Nat)(H:Hp)(K:α->(Nat->Addr)->Hp->AH->Prop):HX α->Prop
 |.ok x G'=>∀A' H',HH Z A' H' G'->Gro Z A n H A' G'.length H'->K x A' H' G'
 |.exc c fs G'=>p5 Z E A n H c fs G'
 |.wall=>False
section
variable {α β:Type}{K:β->(Nat->Addr)->Hp->AH->Prop}{K':α->(Nat->Addr)->Hp->AH->Prop}
def p5.gro(h:p5 Z E A n H c fs G)(g:Gro Z A n H A' n' H'):p5 Z E A' n' H' c fs G:=λA2 H2 e dx es h2 g2=>h A2 H2 e dx es h2 (g.trans g2)
def HPx.gro{o:HX β}(h:HPx Z E A n H K o)(g:Gro Z A n H A' n' H'):HPx Z E A' n' H' K o:=by
 cases o with
 |ok x G'=>exact λA2 H2 h2 g2=>h A2 H2 h2 (g.trans g2)
 |exc c fs G'=>exact p5.gro h g
 |wall=>exact h
def HPx.bind{o:HX α}{f:α->AH->HX β}(h:HPx Z E A n H K (o.bind f))(k:∀x A' H' G',HH Z A' H' G'->Gro Z A n H A' G'.length H'->HPx Z E A' G'.length H' K (f x G')->K' x A' H' G'):HPx Z E A n H K' o:=by
 cases o with
 |ok x G'=>exact λA2 H2 h2 g2=>k x A2 H2 G' h2 g2 (HPx.gro (o:=f x G') h g2)
 |exc c fs G'=>exact h
 |wall=>exact h
end
abbrev HME:=wJ->AH->HX HV
abbrev HMT:=wJ->AH->HX Bool
abbrev HMA:=wJ->AH->HX (List HV)
def KV'(Z:HC)(Q:VK):HV->(Nat->Addr)->Hp->AH->Prop:=λx A' H' G'=>∀v,j5 Z.W (HM Z A' G'.length) A' G'.length H' x v->Q v H'
def KT'(Q:Bool->Hp->Prop):Bool->(Nat->Addr)->Hp->AH->Prop:=λb _ H' _=>Q b H'
def KA'(Z:HC)(Q:List V->Hp->Prop):List HV->(Nat->Addr)->Hp->AH->Prop:=λxs A' H' G'=>∀vs,yO Z.W (HM Z A' G'.length) A' G'.length H' xs vs->Q vs H'
def HE(X:Cx)(W:RC)(E:XK)(e:HJ)(m:HME):Prop:=X.K=W.K->∃te,PE X e te/\∀(Z:HC),Z.W=W->∀A H σ ρ G,HR Z A H σ ρ G->∀Q,HPx Z E A G.length H (KV' Z Q) (m ρ G)->te σ H Q
def HT(X:Cx)(W:RC)(E:XK)(e:HJ)(m:HMT):Prop:=X.K=W.K->∃te,PT X e te/\∀(Z:HC),Z.W=W->∀A H σ ρ G,HR Z A H σ ρ G->∀Q,HPx Z E A G.length H (KT' Q) (m ρ G)->te σ H Q
def HTW(X:Cx)(W:RC)(E:XK)(e:HJ)(m:HMT):Prop:=X.K=W.K->∃te,PW X e te/\∀(Z:HC),Z.W=W->∀A H σ ρ G,HR Z A H σ ρ G->∀Q,HPx Z E A G.length H (KT' Q) (m ρ G)->te σ H Q
def HA(X:Cx)(W:RC)(E:XK)(es:HD)(m:HMA):Prop:=X.K=W.K->∃te,PA X es te/\∀(Z:HC),Z.W=W->∀A H σ ρ G,HR Z A H σ ρ G->∀Q,HPx Z E A G.length H (KA' Z Q) (m ρ G)->te σ H Q
mutual
def imm:PV->Bool
 |.i _=>true | .s _=>true | .b _=>true | .n=>true
 |.t xs=>oV xs
 |.l _=>false | .d _=>false | .o _ _=>false | .x _ _=>false | .sc _=>false | .dt _=>false
def oV:List PV->Bool
 |[]=>true
 |x::xs=>imm x&&oV xs
end
def oW:List (Str×PV)->Bool
 |[]=>true
 |x::xs=>imm x.2&&oW xs
section
variable {W:RC}{M M':Hz}{A A':HK}{n n':Nat}{H H':Hp}
mutual
def JT:∀{x:PV}{v:V},imm x=true->Rep W M H x v->Rep W M' H x v
 |.i _,_,_,h=>h
 |.s _,_,_,h=>h
 |.b _,_,_,h=>h
 |.n,_,_,h=>h
 |.t xs,_,e,h=>by unfold Rep at h ⊢;unfold imm at e;obtain⟨p,vs,e1,r,q⟩:=h;exact⟨p,vs,e1,r,Uu e q⟩
 |.l _,_,e,_=>by unfold imm at e;cases e
 |.d _,_,e,_=>by unfold imm at e;cases e
 |.o _ _,_,e,_=>by unfold imm at e;cases e
 |.x _ _,_,e,_=>by unfold imm at e;cases e
 |.sc _,_,e,_=>by unfold imm at e;cases e
 |.dt _,_,e,_=>by unfold imm at e;cases e
def Uu:∀{x:HW}{v:HF},oV x=true->zX W M H x v->zX W M' H x v
 |[],_,_,h=>h
 |x::xs,_,e,h=>by unfold oV at e;simp only[Bool.and_eq_true]at e;obtain⟨v,r,e1,h1,h2⟩:=h;exact⟨v,r,e1,JT e.1 h1,Uu e.2 h2⟩
end
def wK:∀{x:Ic}{v:Ip},oW x=true->wd W M H x v->wd W M' H x v
 |[],_,_,h=>h
 |x::xs,_,e,h=>by unfold oW at e;simp only[Bool.and_eq_true]at e;obtain⟨v,r,e1,h1,h2⟩:=h;exact⟨v,r,e1,JT e.1 h1,wK e.2 h2⟩
def Vn:List Bool->wJ->Option Sto
 |_,[]=>some []
 |[],_::ρ=>(Vn [] ρ).map (none::·)
 |false::bs,_::ρ=>(Vn bs ρ).map (none::·)
 |true::bs,some (.v x)::ρ=>(Vn bs ρ).map (some x::·)
 |true::_,_=>none
def c_(f:HV->Option PV):List HV->Option (List PV)
 |[]=>some []
 |x::xs=>(f x).bind λy=>(c_ f xs).map (y::·)
def de{κ:Type}(f:HV->Option PV):List (κ×HV)->Option (List (κ×PV))
 |[]=>some []
 |x::xs=>(f x.2).bind λy=>(de f xs).map ((x.1,y)::·)
def Xr(G:AH):Nat->HV->Option PV
 |0,_=>none
 |_+1,.v x=>some x
 |n+1,.t xs=>(c_ (Xr G n) xs).map .t
 |n+1,.g k=>match G[k]? with
  |some (.l xs)=>(c_ (Xr G n) xs).map .l
  |some (.d kvs)=>(de (Xr G n) kvs).map .d
  |some (.z kvs)=>(de (Xr G n) kvs).map .d
  |some (.o c fs)=>(de (Xr G n) fs).map (.o c)
  |_=>none
def JU(G:AH):List Bool->wJ->Option Sto
 |_,[]=>some []
 |[],_::ρ=>(JU G [] ρ).map (none::·)
 |false::bs,_::ρ=>(JU G bs ρ).map (none::·)
 |true::bs,some x::ρ=>(Xr G 8 x).bind λy=>(JU G bs ρ).map (some y::·)
 |true::_,none::_=>none
def YK{f:HV->Option PV}{N:Hz}(hf:∀x v y,j5 W M A n H x v->f x=some y->Rep W N H y v):∀{xs:List HV}{vs:HF}{ys:HW},yO W M A n H xs vs->c_ f xs=some ys->zX W N H ys vs
 |[],_,_,h,e=>by cases e;exact h
 |x::xs,_,ys,h,e=>by obtain⟨v,r,rfl,h1,h2⟩:=h;unfold c_ at e;obtain⟨y,e1,e⟩:=O4.mp e;obtain⟨zs,e2,rfl⟩:=u8.mp e;exact⟨v,r,rfl,hf _ _ _ h1 e1,YK hf h2 e2⟩
def Vo{f:HV->Option PV}{N:Hz}(hf:∀x v y,j5 W M A n H x v->f x=some y->Rep W N H y v):∀{xs:List (Key×HV)}{vs:HL}{ys:HZ},jW (j5 W M A n H) xs vs->de f xs=some ys->qx W N H ys vs
 |[],_,_,h,e=>by cases e;exact h
 |x::xs,_,ys,h,e=>by obtain⟨v,r,rfl,h1,h2⟩:=h;unfold de at e;obtain⟨y,e1,e⟩:=O4.mp e;obtain⟨zs,e2,rfl⟩:=u8.mp e;exact⟨v,r,rfl,hf _ _ _ h1 e1,Vo hf h2 e2⟩
def fe{f:HV->Option PV}{N:Hz}(hf:∀x v y,j5 W M A n H x v->f x=some y->Rep W N H y v):∀{xs:List (Str×HV)}{vs:Ip}{ys:Ic},jW (j5 W M A n H) xs vs->de f xs=some ys->wd W N H ys vs
 |[],_,_,h,e=>by cases e;exact h
 |x::xs,_,ys,h,e=>by obtain⟨v,r,rfl,h1,h2⟩:=h;unfold de at e;obtain⟨y,e1,e⟩:=O4.mp e;obtain⟨zs,e2,rfl⟩:=u8.mp e;exact⟨v,r,rfl,hf _ _ _ h1 e1,fe hf h2 e2⟩
end
section
variable {Z:HC}{A:HK}{H:Hp}{G:AH}{σ:St}{ρ:wJ}
def Qy(h:HH Z A H G):∀(n:Nat)(x:HV)(v:V)(y:PV),j5 Z.W (HM Z A G.length) A G.length H x v->Xr G n x=some y->Rep Z.W (λ_=>True) H y v
 |0,_,_,_,_,e=>by cases e
 |n+1,.v x,v,y,r,e=>by cases e;exact Rep.sub r λ_ _ _=>trivial
 |n+1,.t xs,v,y,r,e=>by unfold Xr at e;obtain⟨ys,e1,rfl⟩:=u8.mp e;unfold j5 at r;obtain⟨p,vs,rfl,s,q⟩:=r;exact⟨p,vs,rfl,s,YK (Qy h n) q e1⟩
 |n+1,.g k,v,y,r,e=>by
  obtain⟨hk,rfl⟩:=r;unfold Xr at e;split at e
  .rename_i xs hc;obtain⟨ys,e1,rfl⟩:=u8.mp e;obtain⟨vs,h1,q⟩:=h.cell k _ hc;exact⟨A k,vs,rfl,trivial,h1,YK (Qy h n) q e1⟩
  .rename_i xs hc;obtain⟨ys,e1,rfl⟩:=u8.mp e;obtain⟨vs,h1,q⟩:=h.cell k _ hc;exact⟨A k,vs,rfl,trivial,.inl h1,Vo (Qy h n) q e1⟩
  .rename_i xs hc;obtain⟨ys,e1,rfl⟩:=u8.mp e;obtain⟨o,vs,h1,q⟩:=h.cell k _ hc;exact⟨A k,vs,rfl,trivial,.inr ⟨o,h1⟩,Vo (Qy h n) q e1⟩
  .rename_i c xs hc;obtain⟨ys,e1,rfl⟩:=u8.mp e;obtain⟨dx,vs,h1,q⟩:=h.cell k _ hc;exact⟨A k,dx,vs,rfl,trivial,h1,fe (Qy h n) q e1⟩
  .cases e
def Q4:∀{bs:HI}{ρ:wJ}{r:Sto}{i:Nat}{x:PV},Vn bs ρ=some r->r[i]?=some (some x)->ρ[i]?=some (some (.v x))
 |_,[],r,i,x,e,h=>by unfold Vn at e;cases e;simp at h
 |[],_::ρ,r,i,x,e,h=>by
  unfold Vn at e;obtain⟨r',e1,rfl⟩:=u8.mp e;cases i with
  |zero=>cases h
  |succ i=>rw[R7]at h ⊢;exact Q4 e1 h
 |false::bs,_::ρ,r,i,x,e,h=>by
  unfold Vn at e;obtain⟨r',e1,rfl⟩:=u8.mp e;cases i with
  |zero=>cases h
  |succ i=>rw[R7]at h ⊢;exact Q4 e1 h
 |true::bs,some (.v y)::ρ,r,i,x,e,h=>by
  unfold Vn at e;obtain⟨r',e1,rfl⟩:=u8.mp e;cases i with
  |zero=>cases h;rfl
  |succ i=>rw[R7]at h ⊢;exact Q4 e1 h
 |true::bs,none::ρ,r,i,x,e,h=>by cases e
 |true::bs,some (.g _)::ρ,r,i,x,e,h=>by cases e
 |true::bs,some (.t _)::ρ,r,i,x,e,h=>by cases e
def Q5:∀{bs:HI}{ρ:wJ}{r:Sto},Vn bs ρ=some r->r.length=ρ.length
 |_,[],r,e=>by unfold Vn at e;cases e;rfl
 |[],_::ρ,r,e=>by unfold Vn at e;obtain⟨r',e1,rfl⟩:=u8.mp e;rw[v4,v4,Q5 e1]
 |false::bs,_::ρ,r,e=>by unfold Vn at e;obtain⟨r',e1,rfl⟩:=u8.mp e;rw[v4,v4,Q5 e1]
 |true::bs,some (.v y)::ρ,r,e=>by unfold Vn at e;obtain⟨r',e1,rfl⟩:=u8.mp e;rw[v4,v4,Q5 e1]
 |true::bs,none::ρ,r,e=>by cases e
 |true::bs,some (.g _)::ρ,r,e=>by cases e
 |true::bs,some (.t _)::ρ,r,e=>by cases e
def Vp:∀{bs:HI}{ρ:wJ}{r:Sto}{i:Nat}{x:PV},JU G bs ρ=some r->r[i]?=some (some x)->∃y,ρ[i]?=some (some y)/\Xr G 8 y=some x
 |_,[],r,i,x,e,h=>by unfold JU at e;cases e;simp at h
 |[],_::ρ,r,i,x,e,h=>by
  unfold JU at e;obtain⟨r',e1,rfl⟩:=u8.mp e;cases i with
  |zero=>cases h
  |succ i=>rw[R7]at h ⊢;exact Vp e1 h
 |false::bs,_::ρ,r,i,x,e,h=>by
  unfold JU at e;obtain⟨r',e1,rfl⟩:=u8.mp e;cases i with
  |zero=>cases h
  |succ i=>rw[R7]at h ⊢;exact Vp e1 h
 |true::bs,some y::ρ,r,i,x,e,h=>by
  unfold JU at e;obtain⟨z,e0,e⟩:=O4.mp e;obtain⟨r',e1,rfl⟩:=u8.mp e;cases i with
  |zero=>cases h;exact⟨y,rfl,e0⟩
  |succ i=>rw[R7]at h ⊢;exact Vp e1 h
 |true::bs,none::ρ,r,i,x,e,h=>by cases e
def Vq:∀{bs:HI}{ρ:wJ}{r:Sto},JU G bs ρ=some r->r.length=ρ.length
 |_,[],r,e=>by unfold JU at e;cases e;rfl
 |[],_::ρ,r,e=>by unfold JU at e;obtain⟨r',e1,rfl⟩:=u8.mp e;rw[v4,v4,Vq e1]
 |false::bs,_::ρ,r,e=>by unfold JU at e;obtain⟨r',e1,rfl⟩:=u8.mp e;rw[v4,v4,Vq e1]
 |true::bs,some y::ρ,r,e=>by unfold JU at e;obtain⟨z,e0,e⟩:=O4.mp e;obtain⟨r',e1,rfl⟩:=u8.mp e;rw[v4,v4,Vq e1]
 |true::bs,none::ρ,r,e=>by cases e
def Dd{S:Ht}(hS:S.all (·==0)=true){i c:Nat}(h:S[i]?=some c):c=0:=by have:=a0j.mp hS c (a0H h);simpa using this
def De(hl:σ.length=r.length)(hS:S.all (·==0)=true)(hv:∀(i:Nat) x,r[i]?=some (some x)->∃v,σ[i]?=some (some v)/\Rep Z.W M H x v):Rel Z.W (ig H M) S (λ_=>0) H σ r:=by
 have n2:∀{k:Nat},S[k]?=some 2->False:=λ{k} h=>by have:=Dd hS h;omega
 have n1:∀{k:Nat},S[k]?=some 1->False:=λ{k} h=>by have:=Dd hS h;omega
 refine⟨zy.refl _,hl,λi x e=>?_,λi hi=>(n2 hi).elim,λi j hi=>(n2 hi).elim,λhi=>(n2 hi).elim,λa h=>h.elim,λi hi=>(n2 hi).elim⟩;obtain⟨v,h1,h2⟩:=hv i x e;exact⟨v,h1,λz=>(n2 z).elim,λz=>(n1 z).elim,λ_ _=>h2.sub λa m _=>⟨⟨.inl m,id⟩,λi hi=>(n2 hi).elim⟩⟩
def p6(R:HR Z A H σ ρ G)(e:Vn bs ρ=some r)(hS:S.all (·==0)=true):Rel Z.W (ig H (HM Z A G.length)) S (λ_=>0) H σ r:=
 De (R.len.trans (Q5 e).symm) hS λi x h=>R.var i _ (Q4 e h)
def p7(R:HR Z A H σ ρ G)(e:JU G bs ρ=some r)(hS:S.all (·==0)=true):Rel Z.W (ig H λ_=>True) S (λ_=>0) H σ r:=
 De (R.len.trans (Vq e).symm) hS λi x h=>by obtain⟨y,h1,h2⟩:=Vp e h;obtain⟨v,h3,h4⟩:=R.var i y h1;exact⟨v,h3,Qy R.toHH _ _ _ _ h4 h2⟩
def p_(h:HH Z A H G):∀a,Mof (ig H (HM Z A G.length)) S P a->HM Z A G.length a:=λa m=>m.1.1.elim id λn=>h.new a n
end
def hP(bs:HI)(m:ME):HME:=λρ G=>match Vn bs ρ with
 |some r=>match m r with
  |.ok x=>.ok (.v x) G
  |.exc c fs=>.exc c fs G
  |.wall=>.wall
 |none=>match JU G bs ρ with
  |some r=>match m r with
   |.ok x=>if imm x=true then .ok (.v x) G else .wall
   |.exc c fs=>if oW fs=true then .exc c fs G else .wall
   |.wall=>.wall
  |none=>.wall
def hPT(bs:HI)(m:MT):HMT:=λρ G=>match Vn bs ρ with
 |some r=>match m r with
  |.ok x=>.ok x G
  |.exc c fs=>.exc c fs G
  |.wall=>.wall
 |none=>match JU G bs ρ with
  |some r=>match m r with
   |.ok x=>.ok x G
   |.exc c fs=>if oW fs=true then .exc c fs G else .wall
   |.wall=>.wall
  |none=>.wall
def vK{κ:Type}(xs:List (κ×PV)):List (κ×HV):=xs.map λp=>(p.1,.v p.2)
def rg:PV->Option Cell
 |.l xs=>some (.l (xs.map .v))
 |.d kvs=>some (.d (vK kvs))
 |.o c fs=>some (.o c (vK fs))
 |_=>none
def FN:PV->Bool
 |.l xs=>oV xs
 |.d kvs=>oV (kvs.map (·.2))
 |.o _ fs=>oW fs
 |_=>false
def hF(bs:HI)(m:ME):HME:=λρ G=>match Vn bs ρ with
 |some r=>match m r with
  |.ok x=>match rg x with
   |some c=>.ok (.g G.length) (G++[c])
   |none=>.wall
  |.exc c fs=>.exc c fs G
  |.wall=>.wall
 |none=>match JU G bs ρ with
  |some r=>match m r with
   |.ok x=>if FN x=true then match rg x with
    |some c=>.ok (.g G.length) (G++[c])
    |none=>.wall else .wall
   |.exc c fs=>if oW fs=true then .exc c fs G else .wall
   |.wall=>.wall
  |none=>.wall
section
variable {W:RC}{M M':Hz}{A:HK}{n:Nat}{H:Hp}
def x5:∀{xs:HW}{vs:HF},zX W M H xs vs->yO W M A n H (xs.map .v) vs
 |[],_,h=>h
 |_::_,_,⟨v,r,e,h1,h2⟩=>⟨v,r,e,h1,x5 h2⟩
def Dg:∀{xs:HZ}{vs:HL},qx W M H xs vs->jW (j5 W M A n H) (vK xs) vs
 |[],_,h=>h
 |_::_,_,⟨v,r,e,h1,h2⟩=>⟨v,r,e,h1,Dg h2⟩
def Dh:∀{xs:Ic}{vs:Ip},wd W M H xs vs->jW (j5 W M A n H) (vK xs) vs
 |[],_,h=>h
 |_::_,_,⟨v,r,e,h1,h2⟩=>⟨v,r,e,h1,Dh h2⟩
def ff:∀{x:HZ}{v:HL},oV (x.map (·.2))=true->qx W M H x v->qx W M' H x v
 |[],_,_,h=>h
 |x::xs,_,e,h=>by rw[O7]at e;unfold oV at e;simp only[Bool.and_eq_true]at e;obtain⟨v,r,e1,h1,h2⟩:=h;exact⟨v,r,e1,JT e.1 h1,ff e.2 h2⟩
def Di(hx:WO W M H p x)(e:rg x=some c):af W M A n H p c:=by
 cases x with
 |l xs=>cases e;obtain⟨vs,h,r⟩:=hx;exact⟨vs,h,x5 r⟩
 |d xs=>cases e;obtain⟨vs,h,r⟩:=hx;exact⟨vs,h,Dg r⟩
 |o k xs=>cases e;obtain⟨dx,vs,h,r⟩:=hx;exact⟨dx,vs,h,Dh r⟩
 |_=>cases e
def rh(e:FN x=true)(hx:WO W M H p x):WO W M' H p x:=by
 cases x with
 |l xs=>obtain⟨vs,h,r⟩:=hx;exact⟨vs,h,Uu e r⟩
 |d xs=>obtain⟨vs,h,r⟩:=hx;exact⟨vs,h,ff e r⟩
 |o k xs=>obtain⟨dx,vs,h,r⟩:=hx;exact⟨dx,vs,h,wK e r⟩
 |_=>cases e
end
section
variable {X:Cx}{W:RC}{E:XK}{fr:Bool}{S:Ht}{e a b:HJ}{es:HD}{m:ME}{t:MT}{bs:HI}{pos p:Pos}{i:Nat}{m1 m2:HME}{ms:HMA}{t1 t2:HMT}
def Uv(h:HH Z A H G)(q:p5 Z E A G.length H c fs G)(hM:∀H2 es,wd Z.W (λa=>M a\/H a=none) H2 fs es->wd Z.W (HM Z A G.length) H2 fs es):XPo ⟨Z.W,E,fr⟩ (ig H M) c fs:=
 λe dx es H2 s h1 h2 h3=>q A H2 e dx es (h.keep s) (Gro.same s) h1 h2 (hM H2 es h3)
def Hg(bs:HI)(h:EM X ⟨W,E,fr⟩ S false e m)(hS:S.all (·==0)=true:=by rfl):HE X W E e (hP bs m):=λhK=>by
 obtain⟨te,a1,a2⟩:=h hK;refine⟨te,a1,λZ hZ A H σ ρ G R Q q=>?_⟩;subst hZ;unfold hP at q;split at q
 .rename_i r hr;refine a2 _ _ H σ r (p6 R hr hS) Q ?_;revert q;cases m r with
  |ok x=>exact λq v H2 s rx=>q A H2 (R.toHH.keep s) (Gro.same s) v (rx.rep.sub λa m _=>p_ R.toHH a m)
  |exc c fs=>exact λq=>Uv R.toHH q λH2 es h=>h.sub λa m _=>m.elim id λn=>R.toHH.new a n
  |wall=>exact id
 .split at q
  .rename_i r hr;refine a2 _ _ H σ r (p7 R hr hS) Q ?_;revert q;cases m r with
   |ok x=>
    intro q v H2 s rx;dsimp only at q;split at q
    .rename_i hi;exact q A H2 (R.toHH.keep s) (Gro.same s) v (JT hi rx.rep)
    .exact q.elim
   |exc c fs=>
    intro q;dsimp only at q;split at q
    .rename_i hi;exact Uv R.toHH q λH2 es h=>wK hi h
    .exact q.elim
   |wall=>exact id
  .exact q.elim
def mN(bs:HI)(h:TM X ⟨W,E,fr⟩ S e t)(hS:S.all (·==0)=true:=by rfl):HT X W E e (hPT bs t):=λhK=>by
 obtain⟨te,a1,a2⟩:=h hK;refine⟨te,a1,λZ hZ A H σ ρ G R Q q=>?_⟩;subst hZ;unfold hPT at q;split at q
 .rename_i r hr;refine a2 _ _ H σ r (p6 R hr hS) Q ?_;revert q;cases t r with
  |ok x=>exact λq H2 s=>q A H2 (R.toHH.keep s) (Gro.same s)
  |exc c fs=>exact λq=>Uv R.toHH q λH2 es h=>h.sub λa m _=>m.elim id λn=>R.toHH.new a n
  |wall=>exact id
 .split at q
  .rename_i r hr;refine a2 _ _ H σ r (p7 R hr hS) Q ?_;revert q;cases t r with
   |ok x=>exact λq H2 s=>q A H2 (R.toHH.keep s) (Gro.same s)
   |exc c fs=>
    intro q;dsimp only at q;split at q
    .rename_i hi;exact Uv R.toHH q λH2 es h=>wK hi h
    .exact q.elim
   |wall=>exact id
  .exact q.elim
def df{Z:HC}{A:HK}{H H2:Hp}{G:AH}{c:Cell}{p:Addr}{Q:VK}(h:HH Z A H G)(s:zy H H2)(hp:H p=none)(hc:af Z.W (HM Z (exA A G.length p) (G.length+1)) (exA A G.length p) (G.length+1) H2 p c)(q:HPx Z E A G.length H (KV' Z Q) (.ok (.g G.length) (G++[c]))):Q (.ref p) H2:=by
 have hl:(G++[c]).length=G.length+1:=by simp
 refine q _ H2 (h.alloc s hp hc) (by rw[hl];exact Gro.ext s hp) _ ⟨by rw[hl];exact a1p _,?_⟩;rw[VZ]
def Dj{Z:HC}{A:HK}{n:Nat}{p a:Addr}(m:HM Z A n a)(h:a≠p):HM Z (exA A n p) (n+1) a:=⟨m.1,λk hk e=>by
 by_cases c:k=n
 .rw[c,VZ]at e;exact h e.symm
 .rw[Kn (by omega)]at e;exact m.2 k (by omega) e⟩
def Gr(bs:HI)(a2:LFr ⟨W,E,fr⟩ S te m)(hS:S.all (·==0)=true:=by rfl):∀(Z:HC),Z.W=W->∀A H σ ρ G,HR Z A H σ ρ G->∀Q,HPx Z E A G.length H (KV' Z Q) (hF bs m ρ G)->te σ H Q:=λZ hZ A H σ ρ G R Q q=>by
 subst hZ;unfold hF at q;split at q
 .rename_i r hr;refine a2 _ _ H σ r (p6 R hr hS) Q ?_;revert q;cases m r with
  |ok x=>
   intro q v H2 s rx;dsimp only at q;split at q
   .rename_i c hc;obtain⟨p,rfl,hp,ra⟩:=rx;exact df R.toHH s hp (Di (ra.gen rfl Fr.refl λa m _=>Dj (p_ R.toHH a m.1) m.2) hc) q
   .exact q.elim
  |exc c fs=>exact λq=>Uv R.toHH q λH2 es h=>h.sub λa m _=>m.elim id λn=>R.toHH.new a n
  |wall=>exact id
 .split at q
  .rename_i r hr;refine a2 _ _ H σ r (p7 R hr hS) Q ?_;revert q;cases m r with
   |ok x=>
    intro q v H2 s rx;dsimp only at q;split at q
    .rename_i hi;split at q
     .rename_i c hc;obtain⟨p,rfl,hp,ra⟩:=rx;exact df R.toHH s hp (Di (rh hi ra) hc) q
     .exact q.elim
    .exact q.elim
   |exc c fs=>
    intro q;dsimp only at q;split at q
    .rename_i hi;exact Uv R.toHH q λH2 es h=>wK hi h
    .exact q.elim
   |wall=>exact id
  .exact q.elim
def Hh(bs:HI)(h:FM X ⟨W,E,fr⟩ S e m)(hS:S.all (·==0)=true:=by rfl):HE X W E e (hF bs m):=λhK=>by obtain⟨te,a1,a2⟩:=h hK;exact⟨te,a1,Gr bs a2 hS⟩
def jt(i:Nat):HME:=λρ G=>match ρ[i]? with
 |some (some x)=>.ok x G
 |_=>.wall
def yL(h:PE X e (XZ i)):HE X W E e (jt i):=λ_=>⟨_,h,λZ hZ A H σ ρ G R Q q=>by
 unfold jt at q;split at q
 .rename_i x hx;obtain⟨v,h1,h2⟩:=R.var i x hx;exact⟨v,h1,q A H R.toHH Gro.refl v h2⟩
 .exact q.elim⟩
def Ko:HMA:=λ_ G=>.ok [] G
def yo(m:HME)(ms:HMA):HMA:=λρ G=>(m ρ G).bind λx G1=>(ms ρ G1).bind λxs G2=>.ok (x::xs) G2
def Zq:HA X W E [] Ko:=λ_=>⟨_,Xh,λZ hZ A H σ ρ G R Q q=>q A H R.toHH Gro.refl [] rfl⟩
def yy(h:HE X W E e m1)(hr:HA X W E es ms)(hs:starEach (e::es) X.env=(false,eval e X.env)::starEach es X.env:=by rfl):HA X W E (e::es) (yo m1 ms):=λhK=>by obtain⟨te,a1,a2⟩:=h hK;obtain⟨ta,b1,b2⟩:=hr hK;refine⟨_,Qn a1 b1 hs,λZ hZ A H σ ρ G R Q q=>a2 Z hZ A H σ ρ G R _ (HPx.bind q λx A1 H1 G1 h1 g1 q1 v rx=>?_)⟩;refine b2 Z hZ A1 H1 σ ρ G1 (R.gro h1 g1) _ (HPx.bind q1 λxs A2 H2 G2 h2 g2 q2 vs rs=>?_);exact q2 A2 H2 h2 Gro.refl (v::vs) ⟨v,vs,rfl,rx.gro g2,rs⟩
def yO.len{W:RC}{M:Hz}{A:HK}{n:Nat}{H:Hp}:∀{xs:List HV}{vs:HF},yO W M A n H xs vs->vs.length=xs.length
 |[],_,h=>by cases(show _=_ from h);rfl
 |x::xs,_,h=>by obtain⟨v,r,rfl,_,h2⟩:=h;rw[v4,v4,yO.len h2]
def fg:List HV->Option (List PV)
 |[]=>some []
 |.v x::xs=>(fg xs).map (x::·)
 |_::_=>none
def mkT(xs:List HV):HV:=match fg xs with
 |some ys=>.v (.t ys)
 |none=>.t xs
def Q6{W:RC}{M:Hz}{A:HK}{n:Nat}{H:Hp}:∀{xs:List HV}{ys:HW}{vs:HF},fg xs=some ys->yO W M A n H xs vs->zX W M H ys vs
 |[],_,_,e,h=>by cases e;exact h
 |.v x::xs,ys,_,e,h=>by unfold fg at e;obtain⟨zs,e1,rfl⟩:=u8.mp e;obtain⟨v,r,rfl,h1,h2⟩:=h;exact⟨v,r,rfl,h1,Q6 e1 h2⟩
 |.g _::_,_,_,e,_=>by cases e
 |.t _::_,_,_,e,_=>by cases e
def EH(ms:HMA):HME:=λρ G=>(ms ρ G).bind λxs G1=>if xs.length<=sizeLine then .ok (mkT xs) G1 else .wall
def t_{x1}(h:HA X W E es ms):HE X W E (.Tuple es x1 pos) (EH ms):=λhK=>by
 obtain⟨ta,a1,a2⟩:=h hK;refine⟨_,tF a1,λZ hZ A H σ ρ G R Q q=>a2 Z hZ A H σ ρ G R _ (HPx.bind q λxs A1 H1 G1 h1 g1 q1 vs rs=>?_)⟩;split at q1
 .rename_i hl;refine⟨by rw[rs.len];exact hl,λp hp=>?_⟩;have s:zy H1 (upd H1 p (.tup vs)):=zy.upd hp;refine q1 A1 _ (h1.keep s) (Gro.same s) _ ?_;have rs':=rs.gro (Gro.same (Z:=Z) (A:=A1) (n:=G1.length) s);unfold mkT;split
  .rename_i ys hy;exact⟨p,vs,rfl,.inl (.inl zd),Q6 hy rs'⟩
  .exact⟨p,vs,rfl,.inl (.inl zd),rs'⟩
 .exact q1.elim
def hOr(t u:HMT):HMT:=λρ G=>(t ρ G).bind λc G1=>if c=true then .ok true G1 else u ρ G1
def x6(t:HMT):HMT:=λρ G=>(t ρ G).bind λc G1=>.ok (!c) G1
def HTW.tm(h:HTW X W E e t1):HT X W E e t1:=λhK=>let⟨tt,a1,a2⟩:=h hK;⟨tt,a1.pt,a2⟩
def Dk(h:HT X W E a t1):HTW X W E (.BoolOp .Or [a] pos) t1:=λhK=>let⟨tt,a1,a2⟩:=h hK;⟨tt,pw_or1 a1,a2⟩
variable {rest:HD}
def FO(h:HT X W E a t1)(h2:HTW X W E (.BoolOp .Or (b::rest) pos) t2):HTW X W E (.BoolOp .Or (a::b::rest) pos) (hOr t1 t2):=λhK=>by
 obtain⟨tt,a1,a2⟩:=h hK;obtain⟨tu,b1,b2⟩:=h2 hK;refine⟨_,pw_or a1 b1,λZ hZ A H σ ρ G R Q q=>a2 Z hZ A H σ ρ G R _ (HPx.bind q λc A1 H1 G1 h1 g1 q1=>?_)⟩;cases c with
 |true=>show(if true=true then Q true H1 else tu σ H1 Q);rw[if_pos rfl];exact q1 A1 H1 h1 Gro.refl
 |false=>show(if false=true then Q true H1 else tu σ H1 Q);rw[if_neg M6];exact b2 Z hZ A1 H1 σ ρ G1 (R.gro h1 g1) _ q1
def ua(h:HT X W E a t1):HT X W E (.UnaryOp .Not a pos) (x6 t1):=λhK=>by obtain⟨tt,a1,a2⟩:=h hK;exact⟨_,tw a1,λZ hZ A H σ ρ G R Q q=>a2 Z hZ A H σ ρ G R _ (HPx.bind q λc A1 H1 G1 h1 g1 q1=>q1 A1 H1 h1 Gro.refl)⟩
def x8(m:HME):HMT:=λρ G=>(m ρ G).bind λx G1=>match x with
 |.v (.b c)=>.ok c G1
 |_=>.wall
def ub(h:HE X W E e m1)(he:∀whole,isTrue e X.env whole=(do let v<-whole;standAt e.pos;holding [v] (truthy v)):=by intro _;rfl):HT X W E e (x8 m1):=λhK=>by
 obtain⟨te,a1,a2⟩:=h hK;refine⟨_,s_ a1 he,λZ hZ A H σ ρ G R Q q=>a2 Z hZ A H σ ρ G R _ (HPx.bind q λx A1 H1 G1 h1 g1 q1 v rx=>?_)⟩;split at q1
 .rename_i c;exact⟨c,(show v=.bl c from rx),q1 A1 H1 h1 Gro.refl⟩
 .exact q1.elim
end
section
variable {W:RC}{M:Hz}{A:HK}{n:Nat}{H:Hp}
def yO.get:∀{xs:List HV}{vs:HF}{i:Nat}{x:HV},yO W M A n H xs vs->xs[i]?=some x->∃v,vs[i]?=some v/\j5 W M A n H x v
 |[],_,_,_,_,e=>by simp at e
 |x::xs,_,0,y,h,e=>by obtain⟨v,r,rfl,h1,h2⟩:=h;simp at e;subst e;exact⟨v,rfl,h1⟩
 |x::xs,_,i+1,y,h,e=>by obtain⟨v,r,rfl,h1,h2⟩:=h;simp only[List.getElem?_cons_succ]at e ⊢;exact yO.get h2 e
def yO.at(h:yO W M A n H xs vs)(e:atI xs i=some x):∃v,atI vs i=some v/\j5 W M A n H x v:=by
 unfold atI at e ⊢;rw[h.len];cases q:ixN xs.length i with
 |none=>rw[q]at e;cases e
 |some j=>rw[q]at e;exact h.get e
def yO.append:∀{xs ys:List HV}{vs us:HF},yO W M A n H xs vs->yO W M A n H ys us->yO W M A n H (xs++ys) (vs++us)
 |[],_,_,_,h,k=>by cases(show _=_ from h);exact k
 |x::xs,_,_,_,h,k=>by obtain⟨v,r,rfl,h1,h2⟩:=h;exact⟨v,_,rfl,h1,yO.append h2 k⟩
variable {κ:Type}[DecidableEq κ] {R:HV->V->Prop}
def jW.len:∀{kvs:List (κ×HV)}{es:List (κ×V)},jW R kvs es->es.length=kvs.length
 |[],_,h=>by cases(show _=_ from h);rfl
 |_::_,_,⟨v,q,e,h1,h2⟩=>by subst e;rw[v4,v4,jW.len h2]
def jW.get:∀{kvs:List (κ×HV)}{es:List (κ×V)}{k:κ}{x:HV},jW R kvs es->qV kvs k=some x->∃v,Xj es k=some v/\R x v
 |[],_,_,_,_,e=>by cases e
 |kx::r,_,k,x,h,e=>by
  obtain⟨v,q,rfl,h1,h2⟩:=h;unfold qV at e;rw[a1C]at e;by_cases c:kx.1=k
  .rw[L8 c]at e;cases e;exact⟨v,Vj c,h1⟩
  .rw[L7 c]at e;obtain⟨u,hu,ru⟩:=jW.get h2 e;exact⟨u,by rw[Vk c];exact hu,ru⟩
def jW.put{k:κ}{a:List (κ×HV)}{es:List (κ×V)}(h:jW R a es)(hx:R x v):jW R (dput a k x) (putK es k v):=by
 have key:∀{a:List (κ×HV)}{es:List (κ×V)},jW R a es->a.any (λkv=>decide (kv.1=k))=es.any (λkv=>decide (kv.1=k))/\jW R (a.map λkv=>if kv.1=k then(kv.1,x)else kv) (es.map λkv=>if kv.1=k then(kv.1,v)else kv)/\jW R (a++[(k,x)]) (es++[(k,v)]):=by
  intro a
  induction a with
  |nil=>intro es h;cases(show _=_ from h);exact⟨rfl,rfl,v,[],rfl,hx,rfl⟩
  |cons kx a ih=>
   intro es h;obtain⟨u,q,rfl,h1,h2⟩:=h;obtain⟨i1,i2,i3⟩:=ih h2;refine⟨by rw[a0m,a0m,i1],?_,⟨u,_,rfl,h1,i3⟩⟩;rw[O7,O7];by_cases e:kx.1=k
   .rw[if_pos e,if_pos e];exact⟨v,_,rfl,hx,i2⟩
   .rw[if_neg e,if_neg e];exact⟨u,_,rfl,h1,i2⟩
 obtain⟨i1,i2,i3⟩:=key h;unfold dput putK;rw[i1];split
 .exact i2
 .exact i3
end
def ixH(G:AH):HV->HV->Option HV
 |.g k,.v y=>match G[k]? with
  |some (.l xs)=>match y with
   |.i j=>atI xs j
   |_=>none
  |some (.d kvs)=>(pk y).bind λq=>qV kvs q
  |some (.z kvs)=>(pk y).bind λq=>qV kvs q
  |_=>none
 |.t xs,.v (.i j)=>atI xs j
 |.v x,.v y=>match pIx x y with
  |.ok z=>some (.v z)
  |_=>none
 |_,_=>none
def hIx(m1 m2:HME):HME:=λρ G=>(m1 ρ G).bind λx G1=>(m2 ρ G1).bind λy G2=>match ixH G2 x y with
 |some z=>.ok z G2
 |none=>.wall
def ZO(f:List HV->AH->HX HV)(ms:HMA):HME:=λρ G=>(ms ρ G).bind λxs G1=>f xs G1
def hsp(W:RC)(n:Nat)(f:List HV->AH->HX HV):Sp:=λvs H Q E=>∃(Z:HC)(A:HK)(G:AH)(xs:List HV),Z.W=W/\xs.length=n/\HH Z A H G/\yO Z.W (HM Z A G.length) A G.length H xs vs/\HPx Z E A G.length H (KV' Z Q) (f xs G)
def mO:∀vs H Q E,hsp W n f vs H Q E->vs.length=n:=λvs H Q E ⟨Z,A,G,xs,_,hl,_,r,_⟩=>r.len.trans hl
def FP(h:HH Z A H G)(rx:j5 Z.W (HM Z A G.length) A G.length H x v)(ry:j5 Z.W (HM Z A G.length) A G.length H y u)(e:ixH G x y=some z)(q:∀H2 v,zy H H2->j5 Z.W (HM Z A G.length) A G.length H2 z v->Q v H2):Gp Z.W.K v u H Q:=by
 unfold ixH at e;split at e
 .rename_i k y;obtain⟨hk,rfl⟩:=rx;split at e
  .rename_i xs hc;obtain⟨vs,hp,r⟩:=h.cell k _ hc;split at e
   .obtain⟨w,hw,rw'⟩:=r.at e;exact .inl (.inl ⟨_,vs,_,w,rfl,ry,SqL.of hp,hw,q H w (zy.refl _) rw'⟩)
   .cases e
  .rename_i kvs hc;obtain⟨vs,hp,r⟩:=h.cell k _ hc;obtain⟨j,hj,e⟩:=O4.mp e;obtain⟨w,hw,rw'⟩:=r.get e;exact .inr ⟨_,w,rfl,by rw[aU (yX.iff.mpr (show Rep Z.W _ H y u from ry)) hj,<- hw];exact eB.rk (.inl hp),q H w (zy.refl _) rw'⟩
  .rename_i kvs hc;obtain⟨o,vs,hp,r⟩:=h.cell k _ hc;obtain⟨j,hj,e⟩:=O4.mp e;obtain⟨w,hw,rw'⟩:=r.get e;exact .inr ⟨_,w,rfl,by rw[aU (yX.iff.mpr (show Rep Z.W _ H y u from ry)) hj,<- hw];exact eB.rk (.inr ⟨o,hp⟩),q H w (zy.refl _) rw'⟩
  .cases e
 .obtain⟨p,vs,rfl,hl,r⟩:=rx;obtain⟨w,hw,rw'⟩:=r.at e;exact .inl (.inr (.inl ⟨p,vs,_,w,rfl,ry,hl,hw,q H w (zy.refl _) rw'⟩))
 .split at e
  .rename_i z' hz;cases e;refine CB (W:=Z.W) (HM Z A G.length) ⟨Z.W,E0,false⟩ (ig H λ_=>True) H _ _ v u Q h.new (Rep.weak rx) (Rep.weak ry) ?_;rw[hz];exact λw H2 s r=>q H2 w s r
  .cases e
 .cases e
def FQ(hu:X.A.units+1<cLine)(h1:HE X W E a m1)(h2:HE X W E b m2)(hs:X7 b:=by intro _ _;rfl):HE X W E (.Subscript a b pos) (hIx m1 m2):=λhK=>by
 obtain⟨ta,a1,a2⟩:=h1 hK;obtain⟨tb,b1,b2⟩:=h2 hK;refine⟨_,BQ (tG.or (lB hu)) a1 b1 hs,λZ hZ A H σ ρ G R Q q=>a2 Z hZ A H σ ρ G R _ (HPx.bind q λx A1 H1 G1 h1 g1 q1 v rx=>?_)⟩;refine b2 Z hZ A1 H1 σ ρ G1 (R.gro h1 g1) _ (HPx.bind q1 λy A2 H2 G2 h2 g2 q2 u ry=>?_);split at q2
 .rename_i z hz;rw[hK,<- hZ];exact FP h2 (rx.gro g2) ry hz λH3 w s r=>q2 A2 H3 (h2.keep s) (Gro.same s) w r
 .exact q2.elim
def Qz(F:jr X.prog X.w X.K X.mg X.base (CXe X.prog X.w) k f fd ps (hsp W n g))(hr:jO k X.A)(hg:Gl X x)(hm:X.mg x=some (.ref f))(hk:keepIn X.K (.ref f)=true)(hb:Binds X.K fd ps [])(hx:Passes (CXe X.prog X.w) X E)(ha:HA X W E (e::es) ms)(hn:∀ρ G xs G',ms ρ G=.ok xs G'->xs.length=n)
  (hdb:(x==("__debug__":Str))=false:=by decide) (he:starEach (e::es) X.env=(false,eval e X.env)::starEach es X.env:=by rfl) (hpl:(backTo pos (starEach es X.env)).any (·.1)=false:=by rfl):HE X W E (.Call (.Name x p) (e::es) [] pos) (ZO g ms):=λhK=>by
 obtain⟨ta,a1,a2⟩:=ha hK;refine⟨_,X4 F hr hg hm hk hb .nil hx a1 hdb he hpl,λZ hZ A H σ ρ G R Q q=>a2 Z hZ A H σ ρ G R _ ?_⟩;unfold ZO at q;revert q;cases hq:ms ρ G with
 |wall=>exact id
 |exc c fs G'=>exact id
 |ok xs G'=>intro q A1 H1 h1 g1 vs rs;rw[P7];exact⟨Z,A1,G',xs,hZ,hn _ _ _ _ hq,h1,rs,HPx.gro (o:=g xs G') q g1⟩
def Q7:∀ρ G xs G',Ko ρ G=.ok xs G'->xs.length=0:=λρ G xs G' e=>by cases e;rfl
def qg(h:∀ρ G xs G',ms ρ G=.ok xs G'->xs.length=n):∀ρ G xs G',yo m ms ρ G=.ok xs G'->xs.length=n+1:=λρ G xs G' e=>by
 unfold yo at e;cases h1:m ρ G with
 |wall=>rw[h1]at e;cases e
 |exc c fs G1=>rw[h1]at e;cases e
 |ok x G1=>
  rw[h1]at e;have e:(ms ρ G1).bind (λxs G2=>.ok (x::xs) G2)=.ok xs G':=e;cases h2:ms ρ G1 with
  |wall=>rw[h2]at e;cases e
  |exc c fs G1=>rw[h2]at e;cases e
  |ok ys G2=>rw[h2]at e;cases e;rw[v4,h _ _ _ _ h2]
inductive HFw where
 |nx (ρ:wJ) (G:AH)|rt (x:HV) (G:AH)|bk (ρ:wJ) (G:AH)|ct (ρ:wJ) (G:AH)|exc (c:Nat) (fs:Ic) (G:AH)|wall
abbrev HMS:=wJ->AH->HFw
def HPs(Z:HC)(E:XK)(A:HK)(n:Nat)(H:Hp)(D:Ends):HFw->Prop
 |.nx ρ' G'=>∀A' H' σ',HR Z A' H' σ' ρ' G'->Gro Z A n H A' G'.length H'->D.nx σ' H'
 |.rt x G'=>∀A' H' v,HH Z A' H' G'->Gro Z A n H A' G'.length H'->j5 Z.W (HM Z A' G'.length) A' G'.length H' x v->D.rt v H'
 |.bk ρ' G'=>∀A' H' σ',HR Z A' H' σ' ρ' G'->Gro Z A n H A' G'.length H'->D.bk σ' H'
 |.ct ρ' G'=>∀A' H' σ',HR Z A' H' σ' ρ' G'->Gro Z A n H A' G'.length H'->D.ct σ' H'
 |.exc c fs G'=>p5 Z E A n H c fs G'
 |.wall=>False
def HX.fw{α:Type}:HX α->(α->AH->HFw)->HFw
 |.ok a G,f=>f a G
 |.exc c fs G,_=>.exc c fs G
 |.wall,_=>.wall
def LHS(W:RC)(E:XK)(ts:TS)(m:HMS):Prop:=∀(Z:HC),Z.W=W->∀A H σ ρ G,HR Z A H σ ρ G->∀D,HPs Z E A G.length H D (m ρ G)->ts D σ H
def HS(X:Cx)(W:RC)(E:XK)(st:Ir)(m:HMS):Prop:=X.K=W.K->∃ts,PS X st ts/\LHS W E ts m
def HSs(X:Cx)(W:RC)(E:XK)(st:Ij)(m:HMS):Prop:=X.K=W.K->∃ts,PSs X st ts/\LHS W E ts m
section
variable {α:Type}{K':α->(Nat->Addr)->Hp->AH->Prop}
def HPs.gro(h:HPs Z E A n H D o)(g:Gro Z A n H A' n' H'):HPs Z E A' n' H' D o:=by
 cases o with
 |nx ρ G=>exact λA2 H2 σ2 r g2=>h A2 H2 σ2 r (g.trans g2)
 |rt x G=>exact λA2 H2 v r g2=>h A2 H2 v r (g.trans g2)
 |bk ρ G=>exact λA2 H2 σ2 r g2=>h A2 H2 σ2 r (g.trans g2)
 |ct ρ G=>exact λA2 H2 σ2 r g2=>h A2 H2 σ2 r (g.trans g2)
 |exc c fs G=>exact p5.gro h g
 |wall=>exact h
def HPs.bind{o:HX α}{f:α->AH->HFw}(h:HPs Z E A n H D (o.fw f))(k:∀x A' H' G',HH Z A' H' G'->Gro Z A n H A' G'.length H'->HPs Z E A' G'.length H' D (f x G')->K' x A' H' G'):HPx Z E A n H K' o:=by
 cases o with
 |ok x G'=>exact λA2 H2 h2 g2=>k x A2 H2 G' h2 g2 (HPs.gro (o:=f x G') h g2)
 |exc c fs G'=>exact h
 |wall=>exact h
end
def YU:HMS:=λρ G=>.nx ρ G
def vp(a b:HMS):HMS:=λρ G=>match a ρ G with
 |.nx ρ' G'=>b ρ' G'
 |.rt x G'=>.rt x G'
 |.bk ρ' G'=>.bk ρ' G'
 |.ct ρ' G'=>.ct ρ' G'
 |.exc c fs G'=>.exc c fs G'
 |.wall=>.wall
def wo(i:Nat)(m:HME):HMS:=λρ G=>(m ρ G).fw λx G1=>.nx (ρ.set i (some x)) G1
def Q8(m:HME):HMS:=λρ G=>(m ρ G).fw λ_ G1=>.nx ρ G1
def V0(m:HME):HMS:=λρ G=>(m ρ G).fw λx G1=>.rt x G1
def hIf(t:HMT)(a b:HMS):HMS:=λρ G=>(t ρ G).fw λc G1=>if c=true then a ρ G1 else b ρ G1
section
variable {X:Cx}{W:RC}{E:XK}{e a b o:HJ}{es:HD}{pos p pos' vq:Pos}{m m1 m2:HME}{ms:HMA}{t1:HMT}{s1 s2:HMS}{x:Str}{st:Ir}{sts stt:Ij}{i:Nat}
def vI:HSs X W E [] YU:=λ_=>⟨_,iw,λZ hZ A H σ ρ G R D q=>q A H σ R Gro.refl⟩
def Dl(h1:LHS W E t s1)(h2:LHS W E u s2):LHS W E (E1 t u) (vp s1 s2):=λZ hZ A H σ ρ G R D q=>by
 refine h1 Z hZ A H σ ρ G R _ ?_;unfold vp at q;revert q;cases s1 ρ G with
 |nx ρ' G'=>exact λq A' H' σ' R' g=>h2 Z hZ A' H' σ' ρ' G' R' D (HPs.gro (o:=s2 ρ' G') q g)
 |rt x G'=>exact id
 |bk ρ' G'=>exact id
 |ct ρ' G'=>exact id
 |exc c fs G'=>exact id
 |wall=>exact id
def zK(h1:HS X W E st s1)(h2:HSs X W E sts s2):HSs X W E (st::sts) (vp s1 s2):=λhK=>by obtain⟨t,a1,a2⟩:=h1 hK;obtain⟨u,b1,b2⟩:=h2 hK;exact⟨_,Vi a1 b1,Dl a2 b2⟩
def yk(h1:HS X W E st s1):HSs X W E [st] s1:=λhK=>by obtain⟨t,a1,a2⟩:=h1 hK;exact⟨_,ZQ a1,a2⟩
def mP(a2:∀(Z:HC),Z.W=W->∀A H σ ρ G,HR Z A H σ ρ G->∀Q,HPx Z E A G.length H (KV' Z Q) (m ρ G)->te σ H Q):LHS W E (tE te (X3 i)) (wo i m):=λZ hZ A H σ ρ G R D q=>
 a2 Z hZ A H σ ρ G R _ (HPs.bind q λx A1 H1 G1 h1 g1 q1 v rx=>q1 A1 H1 _ ((R.gro h1 g1).set rx) Gro.refl)
def mQ(hN:X.N.Nodup)(hi:X.N[i]?=some x)(hx:Loc X.env.scope x)(h:HE X W E e m)(hs:swapsWith e (some (.Name x pos')) pos.line X.env=pure false:=by rfl)(hf:X.fn x=true\/X.env.scope.names.lookup x=some .local:=by first|exact .inl rfl|exact .inr rfl|assumption):
  HS X W E (.Assign [.Name x pos'] e pos) (wo i m):=λhK=>by
 obtain⟨te,a1,a2⟩:=h hK;exact⟨_,ef hN hi hx a1 hs hf,mP a2⟩
def Uw(h:HE X W E e m)(hs:swapsWith e none pos.line X.env=pure false:=by rfl):HS X W E (.Expr e pos) (Q8 m):=λhK=>by obtain⟨te,a1,a2⟩:=h hK;exact⟨_,X2 a1 hs,λZ hZ A H σ ρ G R D q=>a2 Z hZ A H σ ρ G R _ (HPs.bind q λx A1 H1 G1 h1 g1 q1 v rx=>q1 A1 H1 σ (R.gro h1 g1) Gro.refl)⟩
def wq(h:HE X W E e m):HS X W E (.Return (some e) pos) (V0 m):=λhK=>by obtain⟨te,a1,a2⟩:=h hK;exact⟨_,d9 a1,λZ hZ A H σ ρ G R D q=>a2 Z hZ A H σ ρ G R _ (HPs.bind q λx A1 H1 G1 h1 g1 q1 v rx=>q1 A1 H1 v h1 Gro.refl rx)⟩
def V1(h:HT X W E c t1)(h1:HSs X W E sts s1)(h2:HSs X W E stt s2):HS X W E (.If c sts stt pos) (hIf t1 s1 s2):=λhK=>by
 obtain⟨tt,a1,a2⟩:=h hK;obtain⟨t,b1,b2⟩:=h1 hK;obtain⟨u,c1,c2⟩:=h2 hK;refine⟨_,BF a1 b1 c1,λZ hZ A H σ ρ G R D q=>a2 Z hZ A H σ ρ G R _ (HPs.bind q λk A1 H1 G1 h1 g1 q1=>?_)⟩;cases k with
 |true=>show(if true=true then t D σ H1 else u D σ H1);rw[if_pos rfl];exact b2 Z hZ A1 H1 σ ρ G1 (R.gro h1 g1) D q1
 |false=>show(if false=true then t D σ H1 else u D σ H1);rw[if_neg M6];exact c2 Z hZ A1 H1 σ ρ G1 (R.gro h1 g1) D q1
def EI(mo ma:HME):HMS:=λρ G=>(mo ρ G).fw λx G1=>match x with
 |.g k=>match G1[k]? with
  |some (.l _)=>(ma ρ G1).fw λy G2=>match G2[k]? with
   |some (.l xs)=>if xs.length<sizeLine then .nx ρ (G2.set k (.l (xs++[y])))else .wall
   |_=>.wall
  |_=>.wall
 |_=>.wall
def Gs{Z:HC}{A:HK}{H:Hp}{G:AH}{σ:St}{ρ:wJ}{D:Ends}{k:Nat}{c:Cell}{o o0:HO}(R:HR Z A H σ ρ G)(hk:k<G.length)(h0:H (A k)=some o0)(n0:¬Imm o0)(hc:af Z.W (HM Z A G.length) A G.length (upd H (A k) o) (A k) c)(q:HPs Z E A G.length H D (.nx ρ (G.set k c))):D.nx σ (upd H (A k) o):=by
 have g:Gro Z A G.length H A (G.set k c).length (upd H (A k) o):=by rw[S4];exact R.toHH.frw hk h0 n0
 exact q A _ σ (R.gro (R.toHH.write hk h0 n0 hc) g) g
def mR(ho:HE X W E o m1)(h:HE X W E e m2)(WN:attributeBase o "append" X.env (eval o X.env)=eval o X.env:=by rfl)
  (Bg:((backTo p (starEach [e] X.env)).all (λx=>!x.1)&&(backToKw p (keywordEach [] X.env)).all (λx=>x.1.isSome)&&decide ([e].length+([]:List Keyword).length+(if([]:List Keyword).isEmpty then 0 else 1)<30))=true:=by rfl)
  (WM:(vq.endLine==p.line)=true:=by rfl) (hs:starEach [e] X.env=[(false,eval e X.env)]:=by rfl) (hsw:swapsWith (.Call (.Attribute o "append" vq) [e] [] p) none pos.line X.env=pure false:=by rfl):
  HS X W E (.Expr (.Call (.Attribute o "append" vq) [e] [] p) pos) (EI m1 m2):=λhK=>by
 obtain⟨to,o1,o2⟩:=ho hK;obtain⟨te,a1,a2⟩:=h hK;refine⟨_,X2 (xi a0O a2i a2j VF o1 (Qn a1 Xh hs) WN Bg WM hs rfl) hsw,λZ hZ A H σ ρ G R D q=>o2 Z hZ A H σ ρ G R _ (HPs.bind q λx A1 H1 G1 h1 g1 q1 v rx=>?_)⟩;split at q1
 .rename_i k;obtain⟨hk,rfl⟩:=rx;split at q1
  .rename_i xs0 hc0;obtain⟨vs0,hp0,_⟩:=h1.cell k _ hc0;have R1:=R.gro h1 g1;refine⟨.inl ⟨rfl,_,SqL.of hp0⟩,a2 Z hZ A1 H1 σ ρ G1 R1 _ (HPs.bind q1 λy A2 H2 G2 h2 g2 q2 u ry=>?_)⟩;split at q2
   .rename_i xs hc;split at q2
    .rename_i hl;obtain⟨vs,hp,r⟩:=h2.cell k _ hc;have hk2:k<G2.length:=N7 hk g2.le;rw[<- g2.agr k hk];have g3:=h2.frw (o:=.lst (vs++[u])) hk2 hp id;have one:yO Z.W (HM Z A2 G2.length) A2 G2.length H2 [y] [u]:=⟨u,[],rfl,ry,rfl⟩;exact⟨_,vs,u,rfl,rfl,hp,by rw[r.len];exact hl,Gs (c:=.l (xs++[y])) (R1.gro h2 g2) hk2 hp id ⟨_,zd,(r.append one).gro g3⟩ q2⟩
    .exact q2.elim
   .exact q2.elim
  .exact q1.elim
 .exact q1.elim
def EJ(mo mk mv:HME):HMS:=λρ G=>(mv ρ G).fw λy G1=>(mo ρ G1).fw λx G2=>(mk ρ G2).fw λz G3=>match x,z with
 |.g k,.v z=>match G3[k]?,pk z with
  |some (.d kvs),some q=>if kvs.length<sizeLine then .nx ρ (G3.set k (.d (dput kvs q y)))else .wall
  |_,_=>.wall
 |_,_=>.wall
def uc(hu:X.A.units+1<cLine)(ho:HE X W E o m)(hk:HE X W E a m1)(hv:HE X W E e m2)(hs:swapsWith e (some (.Subscript o a pos')) pos.line X.env=pure false:=by rfl):
  HS X W E (.Assign [.Subscript o a pos'] e pos) (EJ m m1 m2):=λhK=>by
 obtain⟨to,o1,o2⟩:=ho hK;obtain⟨ta,a1,a2⟩:=hk hK;obtain⟨tv,b1,b2⟩:=hv hK;refine⟨_,iU hu o1 a1 b1 hs,λZ hZ A H σ ρ G R D q=>b2 Z hZ A H σ ρ G R _ (HPs.bind q λy A1 H1 G1 h1 g1 q1 v ry=>?_)⟩;have R1:=R.gro h1 g1;refine o2 Z hZ A1 H1 σ ρ G1 R1 _ (HPs.bind q1 λx A2 H2 G2 h2 g2 q2 w rx=>?_);have R2:=R1.gro h2 g2;refine a2 Z hZ A2 H2 σ ρ G2 R2 _ (HPs.bind q2 λz A3 H3 G3 h3 g3 q3 u rz=>?_);split at q3
 .rename_i k z;obtain⟨hk,rfl⟩:=rx;split at q3
  .rename_i kvs q hc hq;split at q3
   .rename_i hl;obtain⟨es,hp,r⟩:=h3.cell k _ hc;have hk3:k<G3.length:=N7 hk g3.le;have g4:=h3.frw (o:=.dK (putK es q v)) hk3 hp id;rw[<- g3.agr k hk];refine⟨_,_,rfl,by rw[aU (yX.iff.mpr (show Rep Z.W _ H3 z u from rz)) hq];exact Bl.k hp (by rw[r.len];exact hl),Gs (c:=.d (dput kvs q y)) (R2.gro h3 g3) hk3 hp id ⟨_,zd,?_⟩ q3⟩;exact(r.put ((ry.gro g2).gro g3)).imp λ_ _ h=>h.gro g4
   .exact q3.elim
  .exact q3.elim
 .exact q3.elim
end
abbrev HMG:=HV->wJ->Option wJ
def HG(X:Cx)(W:RC)(tg:HJ)(mg:HMG):Prop:=X.K=W.K->∃g,PG X tg g/\∀(Z:HC),Z.W=W->∀A H σ ρ G x v,HR Z A H σ ρ G->j5 Z.W (HM Z A G.length) A G.length H x v->∀Q:St->Hp->Prop,(∃ρ',mg x ρ=some ρ'/\∀σ',HR Z A H σ' ρ' G->Q σ' H)->g v σ H Q
abbrev Bp:=List HV->wJ->Option wJ
def HGs(X:Cx)(W:RC)(tgs:HD)(mg:Bp):Prop:=X.K=W.K->∃g,PGs X tgs g/\∀(Z:HC),Z.W=W->∀A H σ ρ G xs vs,HR Z A H σ ρ G->yO Z.W (HM Z A G.length) A G.length H xs vs->∀Q:St->Hp->Prop,(∃ρ',mg xs ρ=some ρ'/\∀σ',HR Z A H σ' ρ' G->Q σ' H)->g vs σ H Q
def hgN(i:Nat):HMG:=λx ρ=>some (ρ.set i (some x))
def bj:Bp:=λxs ρ=>match xs with
 |[]=>some ρ
 |_=>none
def jX(g:HMG)(gs:Bp):Bp:=λxs ρ=>match xs with
 |x::r=>(g x ρ).bind λρ'=>gs r ρ'
 |[]=>none
def hgT(n:Nat)(gs:Bp):HMG:=λx ρ=>match x with
 |.t xs=>if xs.length=n then gs xs ρ else none
 |.v (.t xs)=>if xs.length=n then gs (xs.map .v) ρ else none
 |_=>none
section
variable {X:Cx}{W:RC}{E:XK}{i:Nat}{x:Str}{pos:Pos}{e:HJ}{es:HD}{g:HMG}{gs:Bp}
def qX(hN:X.N.Nodup)(hi:X.N[i]?=some x)(hx:Loc X.env.scope x)(hf:X.fn x=true\/X.env.scope.names.lookup x=some .local:=by first|exact .inl rfl|exact .inr rfl|assumption):HG X W (.Name x pos) (hgN i):=
 λ_=>⟨_,iy hN hi hx hf,λZ hZ A H σ ρ G x v R r Q ⟨ρ',e,k⟩=>by cases e;exact k _ (R.set r)⟩
def Ux:HGs X W [] bj:=λ_=>⟨_,iz,λZ hZ A H σ ρ G xs vs R r Q ⟨ρ',e,k⟩=>by
 cases xs with
 |nil=>cases e;cases(show _=_ from r);exact⟨rfl,k _ R⟩
 |cons x xs=>cases e⟩
def jQ(h1:HG X W e g)(h2:HGs X W es gs)(hs:(assignEach (e::es) X.env).map (·.2)=assign e X.env::(assignEach es X.env).map (·.2):=by rfl):HGs X W (e::es) (jX g gs):=λhK=>by
 obtain⟨t,a1,a2⟩:=h1 hK;obtain⟨u,b1,b2⟩:=h2 hK;refine⟨_,d_ a1 b1 hs,λZ hZ A H σ ρ G xs vs R r Q ⟨ρ',e,k⟩=>?_⟩;cases xs with
 |nil=>cases e
 |cons x xs=>
  obtain⟨v,vr,rfl,rx,rr⟩:=r;have e:(g x ρ).bind (λρ'=>gs xs ρ')=some ρ':=e;cases hg:g x ρ with
  |none=>rw[hg]at e;cases e
  |some ρ1=>rw[hg]at e;exact⟨v,vr,rfl,a2 Z hZ A H σ ρ G x v R rx _ ⟨ρ1,hg,λσ' R'=>b2 Z hZ A H σ' ρ1 G xs vr R' rr Q ⟨ρ',e,k⟩⟩⟩
def fh(hc:X.calm=true)(h:HGs X W es gs)(hn:(assignEach es X.env).length=n:=by rfl)(hst:(assignEach es X.env).findIdx? (·.1)=none:=by rfl):HG X W (.Tuple es k pos) (hgT n gs):=λhK=>by
 obtain⟨t,a1,a2⟩:=h hK;refine⟨_,tD hc a1 hn hst,λZ hZ A H σ ρ G x v R r Q ⟨ρ',e,k⟩=>?_⟩;unfold hgT at e;split at e
 .obtain⟨p,vs,rfl,hp,rr⟩:=r;split at e
  .rename_i hl;exact⟨p,vs,rfl,by rw[hK,<- hZ];exact hp,by rw[rr.len];exact hl,a2 Z hZ A H σ ρ G _ vs R rr Q ⟨ρ',e,k⟩⟩
  .cases e
 .obtain⟨p,vs,rfl,hp,rr⟩:=r;split at e
  .rename_i hl;exact⟨p,vs,rfl,by rw[hK,<- hZ];exact hp,by rw[rr.len];exact hl,a2 Z hZ A H σ ρ G _ vs R (x5 rr) Q ⟨ρ',e,k⟩⟩
  .cases e
 .cases e
def oX(g:HMG)(m:HME):HMS:=λρ G=>(m ρ G).fw λx G1=>match g x ρ with
 |some ρ'=>.nx ρ' G1
 |none=>.wall
def mS(h:HE X W E e m)(hg:HG X W tg g)(hs:swapsWithSole [tg] e pos.line X.env=pure false:=by rfl)(hw:swappedStores [tg] e X.env=pure none:=by rfl)(h1:(assignEach [tg] X.env).map (·.2)=[assign tg X.env]:=by rfl):HS X W E (.Assign [tg] e pos) (oX g m):=λhK=>by
 obtain⟨te,a1,a2⟩:=h hK;obtain⟨t,b1,b2⟩:=hg hK;refine⟨_,iA a1 b1 hs hw h1,λZ hZ A H σ ρ G R D q=>a2 Z hZ A H σ ρ G R _ (HPs.bind q λx A1 H1 G1 h1 g1 q1 v rx=>?_)⟩;split at q1
 .rename_i ρ' hρ;exact b2 Z hZ A1 H1 σ ρ G1 x v (R.gro h1 g1) rx _ ⟨ρ',hρ,λσ' R'=>q1 A1 H1 σ' R' Gro.refl⟩
 .exact q1.elim
end
def Kp(g:HMG)(b:HMS):List HV->wJ->AH->HFw
 |[],ρ,G=>.nx ρ G
 |x::xs,ρ,G=>match g x ρ with
  |none=>.wall
  |some ρ1=>match b ρ1 G with
   |.nx ρ2 G2=>Kp g b xs ρ2 G2
   |.ct ρ2 G2=>Kp g b xs ρ2 G2
   |.bk ρ2 G2=>.nx ρ2 G2
   |.rt v G2=>.rt v G2
   |.exc c fs G2=>.exc c fs G2
   |.wall=>.wall
def isZ:Cell->Bool
 |.z _=>true
 |_=>false
def rj(A:HK)(G:AH)(a:Addr):Prop:=∃k c,G[k]?=some c/\isZ c=false/\A k=a
section
variable {X:Cx}{W:RC}{E:XK}{Z:HC}{A A':HK}{H H':Hp}{G G':AH}{σ:St}{ρ:wJ}{D:Ends}
def af.live{M:Hz}{n:Nat}{p:Addr}:∀{c:Cell},af W M A n H p c->isZ c=false->∃o,H p=Option.some o/\¬Imm o
 |.l _,⟨_,e,_⟩,_=>⟨_,e,id⟩
 |.d _,⟨_,e,_⟩,_=>⟨_,e,id⟩
 |.z _,_,h=>by cases h
 |.o _ _,⟨_,_,e,_⟩,_=>⟨_,e,id⟩
 |.y _,⟨_,_,e,_⟩,_=>⟨_,e,id⟩
 |.m _ _ _,⟨_,_,e,_⟩,_=>⟨_,e,id⟩
def af.zed{M:Hz}{n:Nat}{p:Addr}:∀{c:Cell},af W M A n H p c->isZ c=true->∃o,H p=Option.some o/\Imm o
 |.l _,_,h=>by cases h
 |.d _,_,h=>by cases h
 |.z _,⟨_,_,e,_⟩,_=>⟨_,e,trivial⟩
 |.o _ _,_,h=>by cases h
 |.y _,_,h=>by cases h
 |.m _ _ _,_,h=>by cases h
def Gro.rest(h:HH Z A H G)(h':HH Z A' H' G')(g:Gro Z A G.length H A' G'.length H'):Fr (λa=>¬rj A G a) H H':=λa o e m=>by
 rcases m with m|m
 .by_cases hc:∃k,k<G.length/\A k=a
  .obtain⟨k,hk,rfl⟩:=hc;have hq:=N4 hk;have hz:isZ G[k]=true:=by
    cases z:isZ G[k]with
    |true=>rfl
    |false=>exact absurd ⟨k,_,hq,z,rfl⟩ m
   obtain⟨o',e',i⟩:=(h.cell k _ hq).zed hz;rw[e']at e;cases e;exact g.fr _ _ e' (.inr i)
  .cases q:Z.H0 a with
   |none=>exact g.fr a o e (.inl ⟨.inr q,λk hk z=>hc ⟨k,hk,z⟩⟩)
   |some u=>have:=h.same a u q;rw[e]at this;cases this;exact h'.same a _ q
 .exact g.fr a o e (.inr m)
open Classical in
def bsH(Z:HC)(A:HK)(H:Hp)(G:AH):Bs:=⟨λa=>if rj A G a then none else H a,HM Z A G.length,λ_=>False,λ_ h=>h.elim,none,rj A G⟩
def FR(R:HR Z A H σ ρ G)(e:Vn bs ρ=some r)(hS:S.all (·==0)=true):Rel Z.W (bsH Z A H G) S (λ_=>0) H σ r:=by
 have n2:∀{k:Nat},S[k]?=some 2->False:=λ{k} h=>by have:=Dd hS h;omega
 have n1:∀{k:Nat},S[k]?=some 1->False:=λ{k} h=>by have:=Dd hS h;omega
 refine⟨λa o h=>?_,R.len.trans (Q5 e).symm,λi x hx=>?_,λi hi=>(n2 hi).elim,λi j hi=>(n2 hi).elim,λhi=>(n2 hi).elim,λa h=>?_,λi hi=>(n2 hi).elim⟩
 .unfold bsH at h;dsimp only at h;split at h
  .cases h
  .exact h
 .obtain⟨v,h1,h2⟩:=R.var i _ (Q4 e hx);refine⟨v,h1,λz=>(n2 z).elim,λz=>(n1 z).elim,λ_ _=>(show Rep Z.W _ H x v from h2).sub λa m _=>⟨⟨.inl m,λ⟨k,c,hk,_,ea⟩=>m.2 k (N5.mp hk).1 ea⟩,λi hi=>(n2 hi).elim⟩⟩
 .obtain⟨k,c,hk,hz,rfl⟩:=h;obtain⟨o,ho,ni⟩:=(R.toHH.cell k c hk).live hz;exact⟨o,ho,ni,by unfold bsH;dsimp only;rw[if_pos ⟨k,c,hk,hz,rfl⟩]⟩
def Uy(hZ:Z.W=W)
  (hi:∀R:It->Hp->Prop,(∀J H2,zy H H2->xM Z.W (HM Z A G.length) (λa=>¬rj A G a) H2 J xs->R J H2)->wi σ H R)
  (hg:∀(Z:HC),Z.W=W->∀A H σ ρ G x v,HR Z A H σ ρ G->j5 Z.W (HM Z A G.length) A G.length H x v->∀Q:St->Hp->Prop,(∃ρ',mg x ρ=some ρ'/\∀σ',HR Z A H σ' ρ' G->Q σ' H)->g v σ H Q) (hb:LHS W E tb mb) (R:HR Z A H σ ρ G) (q:HPs Z E A G.length H D (Kp mg mb (xs.map .v) ρ G)):Bi wi g tb D σ H:=by
 refine hi _ λJ H2 s2 io=>?_;have R2:=R.keep s2;have q2:=HPs.gro q (Gro.same s2);refine⟨λi n σ' H'=>n=xs.length-i/\i<=xs.length/\∃ρ' A' G',HR Z A' H' σ' ρ' G'/\Gro Z A G.length H2 A' G'.length H'/\HPs Z E A' G'.length H' D (Kp mg mb ((xs.drop i).map .v) ρ' G'),⟨_,rfl,T5 _,ρ,A,G,R2,Gro.refl,q2⟩,?_⟩
 rintro i n σ' H' ⟨rfl,hle,ρ',A',G',R',g',q'⟩
 have io':=io H' (Gro.rest R2.toHH R'.toHH g');by_cases hlt:i<xs.length
 .have hx:xs[i]?=some xs[i]:=N4 hlt;obtain⟨go,yl⟩:=io'.1 i _ hx;refine .inr ⟨go,λσ2 H2'=>i+1<=xs.length/\∃ρ' A' G',HR Z A' H2' σ2 ρ' G'/\Gro Z A G.length H2 A' G'.length H2'/\HPs Z E A' G'.length H2' D (Kp mg mb ((xs.drop (i+1)).map .v) ρ' G'),λσ2 H2' h=>⟨xs.length-(i+1),by omega,rfl,h.1,h.2⟩,λv H'' hy=>?_⟩;obtain⟨sy,ry⟩:=yl v H'' hy;have Ry:=R'.keep sy;have gy:Gro Z A G.length H2 A' G'.length H'':=g'.trans (Gro.same sy);have rx:Rep Z.W (HM Z A' G'.length) H'' xs[i] v:=ry _ λa m hn=>gy.sM a m hn;rw[a0s hlt,O7]at q';unfold Kp at q';split at q'
  .exact q'.elim
  .rename_i ρ1 hρ;refine hg Z hZ A' H'' σ' ρ' G' _ v Ry (show j5 Z.W _ _ _ H'' (.v xs[i]) v from rx) _ ⟨ρ1,hρ,λσ1 R1=>hb Z hZ A' H'' σ1 ρ1 G' R1 _ ?_⟩;have q':=HPs.gro q' (Gro.same sy);revert q';cases mb ρ1 G' with
   |wall=>exact id
   |exc c fs G2=>exact id
   |nx ρ2 G2=>exact λq' A3 H3 σ3 R3 g3=>⟨hlt,ρ2,A3,G2,R3,gy.trans g3,HPs.gro (o:=Kp mg mb ((xs.drop (i+1)).map .v) ρ2 G2) q' g3⟩
   |ct ρ2 G2=>exact λq' A3 H3 σ3 R3 g3=>⟨hlt,ρ2,A3,G2,R3,gy.trans g3,HPs.gro (o:=Kp mg mb ((xs.drop (i+1)).map .v) ρ2 G2) q' g3⟩
   |bk ρ2 G2=>exact id
   |rt x G2=>exact id
 .have e:i=xs.length:=by omega
  subst e;rw[a1q]at q';exact .inl ⟨io'.2,q' A' H' σ' R' Gro.refl⟩
end
def Uz(bs:HI)(mi:MI)(g:HMG)(b:HMS):HMS:=λρ G=>match Vn bs ρ with
 |some r=>match mi r with
  |.ok xs=>Kp g b (xs.map .v) ρ G
  |_=>.wall
 |none=>.wall
section
variable {X:Cx}{W:RC}{E:XK}{fr:Bool}{S:Ht}{tg y9:HJ}{body:Ij}{mi:MI}{mg:HMG}{mb:HMS}{pos:Pos}
def dg(bs:HI)(hp:PassesOwn (IP X) X.A X.env X.xe)(hc:X.calm=true)(hi:IM X ⟨W,E,fr⟩ S false tg y9 mi)(hg:HG X W tg mg)(hb:HSs X W E body mb)(hS:S.all (·==0)=true:=by rfl)(hs:∀x,foldedSetIterable y9 X.env x=pure x:=by intro _;rfl):
  HS X W E (.For tg y9 body [] pos) (Uz bs mi mg mb):=λhK=>by
 obtain⟨wi,a1,a2⟩:=hi hK;obtain⟨g,b1,b2⟩:=hg hK;obtain⟨tb,c1,c2⟩:=hb hK;refine⟨_,aj hp hc a1 b1 c1 hs,λZ hZ A H σ ρ G R D q=>?_⟩;unfold Uz at q;split at q
 .rename_i r hr;split at q
  .rename_i xs hx;subst hZ;refine Uy rfl (λR' k=>?_) b2 c2 R q;refine a2 _ _ H σ r (FR R hr hS) R' ?_;rw[hx];intro J H2 s io;refine k J H2 s λH' f=>?_;have n2:∀{k:Nat},S[k]?=some 2->False:=λ{k} h=>by have:=Dd hS h;omega
   obtain⟨i1,i2⟩:=io H' λa o h m=>f a o h (m.imp (λm z=>m.1 z) id);refine⟨λi x hx=>⟨(i1 i x hx).1,λv H'' hy=>⟨((i1 i x hx).2 v H'' hy).1,λM' sM=>((i1 i x hx).2 v H'' hy).2 M' λa m hn=>sM a ?_ hn⟩⟩,i2⟩;have m1:HM Z A G.length a\/(bsH Z A H G).H0 a=none:=m.1.1;rcases m1 with m1|m1
   .exact m1
   .unfold bsH at m1;dsimp only at m1;split at m1
    .rename_i hl;exact absurd hl m.1.2
    .exact R.toHH.new a m1
  .exact q.elim
 .exact q.elim
end
def hB(p:HP)(ms:HMA):HME:=λρ G=>(ms ρ G).bind λxs G1=>match c_ (Xr G1 8) xs with
 |some ys=>match p ys with
  |.ok z=>if imm z=true then .ok (.v z) G1 else .wall
  |_=>.wall
 |none=>.wall
section
variable {X:Cx}{W:RC}{E:XK}{e a b:HJ}{es:HD}{pos p:Pos}{m1 m2:HME}{ms:HMA}{x:Str}
end
section
variable {X:Cx}{W:RC}{E:XK}{fr:Bool}{S S' Sb Sc:Ht}{st:Ir}{s1:MS}
end
def dh(n:Nat)(ms:HMS)(xs:List HV)(G:AH):HX HV:=match ms (xs.map some++List.replicate (n-xs.length) none) G with
 |.nx _ G'=>.ok (.v .n) G'
 |.rt x G'=>.ok x G'
 |.exc c fs G'=>.exc c fs G'
 |_=>.wall
def gO{xs:List HV}{n k:Nat}{x:HV}(h:(xs.map some++List.replicate (n-xs.length) none)[k]?=some (some x)):xs[k]?=some x:=by
 rw[a1D]at h;split at h
 .rw[O2]at h;obtain⟨y,hy,e⟩:=u8.mp h;cases e;exact hy
 .rw[a0w]at h;split at h<;>cases h
def fi(h:HH Z A H G)(r:yO Z.W (HM Z A G.length) A G.length H xs vs):HR Z A H (start N vs) (xs.map some++List.replicate (N.length-xs.length) none) G:=by
 refine⟨h,?_,λi x e=>?_⟩
 .unfold start;rw[O1,O1,v0,v0,a0A,a0A,r.len]
 .obtain⟨v,hv,rv⟩:=r.get (gO e);have hk:i<vs.length:=(N5.mp hv).1;refine⟨v,?_,rv⟩;unfold start;rw[S6 (by rw[v0];exact hk),O2,hv];rfl
section
variable {P:HQ}{w:H_}{K:Ih}{mg:Hv}{base:Heap}
def bo{x qual:Str}{st:Ir}{f:Addr}{fd:Ib}{N ps:Hx}{k n l:Nat}{W:RC}{ms:HMS}(F:Fun K x qual st f fd)(S:zv N ps (zj st))(hW:K=W.K)(hl:ps.length=l)(hN:N.length=n)
  (h:∀(cdv:Value)(A:Ia)(outer:List Env)(s:Hy)(H:Hp)(E:XK),jO k (A.deeper (envOfC qual (zj st) s.heap.objs.size f cdv))->HSs (thr (Xi (CXe P w) P w K mg base N qual (zj st) f cdv A outer s H E) E) W E (kB st) ms):
  jr P w K mg base (CXe P w) (k+1) f fd ps (hsp W l (dh n ms)):=by
 subst hN hl;refine F.okX S mO λcdv A outer s H vs Q E hr ⟨Z,A',G,xs,hZ,hl,hh,r,q⟩=>?_;obtain⟨ts,t1,t2⟩:=h cdv A outer s H E hr hW;refine⟨ts,t1,t2 Z hZ A' H _ _ G (fi hh r) _ ?_⟩;unfold dh at q;revert q;cases ms (xs.map some++List.replicate (N.length-xs.length) none) G with
 |exc c fs G'=>exact id
 |wall=>exact id
 |nx ρ' G'=>exact λq A2 H2 σ2 R2 g2=>q A2 H2 R2.toHH g2 .non rfl
 |rt y G'=>exact λq A2 H2 v h2 g2 rv=>q A2 H2 h2 g2 v rv
 |bk ρ' G'=>exact λq=>q.elim
 |ct ρ' G'=>exact λq=>q.elim
end
def Zf(Z:HC)(a:Addr)(u:HO):HC:=⟨Z.W,λb=>if b=a then(match Z.H0 a with|none=>none|some _=>some u)else Z.H0 b,Z.M0⟩
section
variable {Z:HC}{E:XK}{A A':HK}{n n':Nat}{H H':Hp}{G G':AH}{σ σ':St}{ρ ρ':wJ}{a:Addr}{es:HL}{u u':HO}{W:RC}{M:Hz}{D:Ends}
def mT:(Zf Z a u).H0 b=none↔Z.H0 b=none:=by
 show(if b=a then _ else _)=none↔_;by_cases e:b=a
 .subst e;rw[if_pos rfl];cases Z.H0 b with
  |none=>exact a2H
  |some x=>exact⟨(λz=>by cases z),(λz=>by cases z)⟩
 .rw[if_neg e]
def UA:HM (Zf Z a u) A n=HM Z A n:=funext λb=>propext (and_congr (or_congr a2H mT) a2H)
def Dm(h:Z.H0 a=none\/Z.H0 a=some u'):Zf (Zf Z a u) a u'=Z:=by
 unfold Zf;cases Z with
 |mk W H0 M0=>
  dsimp only at h ⊢;congr 1
  funext b
  by_cases e:b=a
  .subst e;rw[if_pos rfl,if_pos rfl];rcases h with h|h<;>rw[h]
  .rw[if_neg e,if_neg e]
mutual
def j5.sw(h1:Rd H a (.dK es))(h2:Rd H' a (.dK es))(hne:∀b,b≠a->H' b=H b):∀{x:HV}{v:V},j5 W M A n H x v->j5 W M A n H' x v
 |.v x,v,h=>Rep.sw h1 h2 hne h
 |.g k,v,h=>h
 |.t xs,v,h=>by unfold j5 at h ⊢;obtain⟨p,vs,e,r,q⟩:=h;exact⟨p,vs,e,r.elim (λz=>.inl (YI h1 hne z (λ_=>by nofun) λ_ _=>by nofun)) .inr,yO.sw h1 h2 hne q⟩
def yO.sw(h1:Rd H a (.dK es))(h2:Rd H' a (.dK es))(hne:∀b,b≠a->H' b=H b):∀{x:List HV}{v:HF},yO W M A n H x v->yO W M A n H' x v
 |[],v,h=>h
 |x::xs,vs,h=>by unfold yO at h ⊢;obtain⟨v,r,e,q1,q2⟩:=h;exact⟨v,r,e,j5.sw h1 h2 hne q1,yO.sw h1 h2 hne q2⟩
end
def af.sw{p:Addr}(hp:p≠a)(h1:Rd H a (.dK es))(h2:Rd H' a (.dK es))(hne:∀b,b≠a->H' b=H b):∀{c:Cell},af W M A n H p c->af W M A n H' p c
 |.l _,⟨vs,e,q⟩=>⟨vs,(hne p hp).trans e,q.sw h1 h2 hne⟩
 |.d _,⟨vs,e,q⟩=>⟨vs,(hne p hp).trans e,q.imp λ_ _=>j5.sw h1 h2 hne⟩
 |.z _,⟨o,vs,e,q⟩=>⟨o,vs,(hne p hp).trans e,q.imp λ_ _=>j5.sw h1 h2 hne⟩
 |.o _ _,⟨dx,vs,e,q⟩=>⟨dx,vs,(hne p hp).trans e,q.imp λ_ _=>j5.sw h1 h2 hne⟩
 |.y _,⟨e1,ps,e,q⟩=>⟨e1,ps,(hne p hp).trans e,q⟩
 |.m _ _ _,⟨e1,ps,e,c',oc,ws,t,q1,q2,q3⟩=>⟨e1,ps,(hne p hp).trans e,c',oc,ws,t,q1,(hne c' λz=>by
  rcases h1 with h1|⟨o,h1⟩
  .rw[<- z,q2]at h1;cases h1
  .rw[<- z,q2]at h1;cases h1).trans q2,q3⟩
def HH.sw(h:HH Z A H G)(m:HM Z A G.length a)(ha:H a=some u)(du:DU es u)(du':DU es u'):HH (Zf Z a u') A (upd H a u') G:=by
 have h1:Rd H a (.dK es):=du.rd ha;have h2:Rd (upd H a u') a (.dK es):=du'.rd zd;have hne:∀b,b≠a->upd H a u' b=H b:=λb z=>zg z;refine⟨λb o e=>?_,λk c e=>?_,h.inj,λk hk=>mT.mpr (h.own k hk)⟩
 .have e:(if b=a then(match Z.H0 a with|none=>none|some _=>some u')else Z.H0 b)=some o:=e;by_cases z:b=a
  .subst z;rw[if_pos rfl]at e;rw[zd];cases q:Z.H0 b with
   |none=>rw[q]at e;cases e
   |some x=>rw[q]at e;exact e
  .rw[if_neg z]at e;rw[zg z];exact h.same b o e
 .rw[UA];exact(h.cell k c e).sw (λz=>m.2 k (N5.mp e).1 z) h1 h2 hne
def HR.sw(R:HR Z A H σ ρ G)(m:HM Z A G.length a)(ha:H a=some u)(du:DU es u)(du':DU es u'):HR (Zf Z a u') A (upd H a u') σ ρ G:=
 ⟨R.toHH.sw m ha du du',R.len,λi x e=>by
  obtain⟨v,q1,q2⟩:=R.var i x e;rw[UA];exact⟨v,q1,q2.sw (du.rd ha) (du'.rd zd) λb z=>zg z⟩⟩
def Gro.back(ha:H a=some (.dK es))(g:Gro (Zf Z a (.frz o (.dK es))) A n (upd H a (.frz o (.dK es))) A' n' H'):Gro Z A n H A' n' (upd H' a (.dK es)):=by
 have hm:HM (Zf Z a (.frz o (.dK es))) A n=HM Z A n:=UA;refine⟨g.le,g.agr,λk h1 h2=>?_,λb q e m=>?_,λb e=>?_⟩
 .have:=g.fresh k h1 h2;have ne:A' k≠a:=λz=>by rw[z,zd]at this;cases this
  rwa [zg ne]at this
 .by_cases z:b=a
  .subst z;rw[ha]at e;rw[zd];exact e
  .rw[zg z];exact g.fr b q (by rw[zg z];exact e) (by rw[hm];exact m)
 .have z:b≠a:=λz=>by rw[z,zd]at e;cases e
  rw[zg z]at e;have:=g.dom b e
  rwa [zg z]at this
def Dp(h:HH Z A H G)(m:HM Z A G.length a)(ha:H a=some (.dK es))(q:HPs Z E A G.length H D out):HPs (Zf Z a (.frz o (.dK es))) (Ef a es E) A G.length (upd H a (.frz o (.dK es))) (Df a es D) out:=by
 have du:DU es (.dK es):=.inl rfl;have du':DU es (.frz o (.dK es)):=.inr ⟨o,rfl⟩;have hz:Z.H0 a=none\/Z.H0 a=some (.dK es):=by
  cases q:Z.H0 a with
  |none=>exact .inl rfl
  |some x=>have:=h.same a x q;rw[ha]at this;cases this;exact .inr rfl
 have fz:∀{A' n' H'},Gro (Zf Z a (.frz o (.dK es))) A G.length (upd H a (.frz o (.dK es))) A' n' H'->H' a=some (.frz o (.dK es))/\HM Z A' n' a:=λg=>⟨g.fr a _ zd (.inr trivial),by
  have:=g.sM a (by rw[UA];exact m) (by rw[zd];exact λz=>by cases z)
  rwa [UA]at this⟩
 have bk:∀{A' H' σ' ρ' G'},HR (Zf Z a (.frz o (.dK es))) A' H' σ' ρ' G'->Gro (Zf Z a (.frz o (.dK es))) A G.length (upd H a (.frz o (.dK es))) A' G'.length H'->HR Z A' (upd H' a (.dK es)) σ' ρ' G':=λR' g'=>by
  have:=R'.sw (u':=.dK es) (by rw[UA];exact(fz g').2) (fz g').1 du' du
  rwa [Dm hz]at this
 have bh:∀{A' H' G'},HH (Zf Z a (.frz o (.dK es))) A' H' G'->Gro (Zf Z a (.frz o (.dK es))) A G.length (upd H a (.frz o (.dK es))) A' G'.length H'->HH Z A' (upd H' a (.dK es)) G':=λR' g'=>by
  have:=R'.sw (u':=.dK es) (by rw[UA];exact(fz g').2) (fz g').1 du' du
  rwa [Dm hz]at this
 cases out with
 |wall=>exact q
 |nx ρ' G'=>exact λA' H' σ' R' g'=>⟨⟨o,(fz g').1⟩,q A' _ σ' (bk R' g') (Gro.back ha g')⟩
 |bk ρ' G'=>exact λA' H' σ' R' g'=>⟨⟨o,(fz g').1⟩,q A' _ σ' (bk R' g') (Gro.back ha g')⟩
 |ct ρ' G'=>exact λA' H' σ' R' g'=>⟨⟨o,(fz g').1⟩,q A' _ σ' (bk R' g') (Gro.back ha g')⟩
 |rt x G'=>intro A' H' v h' g' rv;refine⟨⟨o,(fz g').1⟩,q A' _ v (bh h' g') (Gro.back ha g') ?_⟩;rw[UA]at rv;exact rv.sw (du'.rd (fz g').1) (du.rd zd) λb z=>zg z
 |exc c fs G'=>
  intro A' H' e dx xs h' g' e1 e2 e3;have w1:Rd H' a (.dK es):=du'.rd (fz g').1;have ne1:e≠a:=KZ w1 e1 (λ_=>by nofun) λ_ _=>by nofun
  have ne2:dx≠a:=KZ w1 e2 (λ_=>by nofun) λ_ _=>by nofun
  rw[UA]at e3;exact⟨⟨o,(fz g').1⟩,q A' _ e dx xs (bh h' g') (Gro.back ha g') ((zg ne1).trans e1) ((zg ne2).trans e2) (e3.sw w1 (du.rd zd) λb z=>zg z)⟩
end
def rl(i:Nat)(g:HMG)(b:HMS):HMS:=λρ G=>match ρ[i]? with
 |some (some (.v (.d kvs)))=>Kp g b ((kvs.map λkx=>kP kx.1).map .v) ρ G
 |_=>.wall
def x9(hc:X.calm=true)(own:Own X)(hv:∀E',PE (thr X E') y9 (XZ i))(hg:∀E',HG (thr X E') W tg mg)(hb:∀E',HSs (thr X E') W E' body mb)(hs:∀x,foldedSetIterable y9 X.env x=pure x:=by intro _;rfl):
  HS (thr X E) W E (.For tg y9 body [] pos) (rl i mg mb):=λhK=>by
 refine⟨tFz (λE' D σ H=>∃g tb,PG (thr X E') tg g/\PSs (thr X E') body tb/\Bi (e_ (XZ i)) g tb D σ H) E,C7 λE' pins s σ H D I ⟨g,tb,p1,p2,q⟩=>aj (X:=thr X E') (zS own) hc (Vm (hv E')) p1 p2 hs pins s σ H D I q,λZ hZ A H σ ρ G R D q=>?_⟩;unfold rl at q;split at q
 .rename_i kvs hx;obtain⟨v,hσ,a,es,rfl,m,hrd,rk⟩:=R.var i _ hx;have hk:es.map (·.1)=kvs.map (·.1):=(qx.iff.mp rk).1;subst hZ;rcases hrd with ha|⟨o,ha⟩
  .refine .inl ⟨a,es,ha,λo=>?_⟩;obtain⟨g,p1,lg⟩:=hg (Ef a es E) hK;obtain⟨tb,p2,lb⟩:=hb (Ef a es E) hK;have Rf:=R.sw (u':=.frz o (.dK es)) m ha (.inl rfl) (.inr ⟨o,rfl⟩);refine⟨g,tb,p1,p2,Uy (W:=Z.W) (Z:=Zf Z a (.frz o (.dK es))) (xs:=kvs.map λkx=>kP kx.1) rfl (λRr qq=>?_) lg lb Rf (Dp R.toHH m ha q)⟩;exact⟨.ref a,hσ,a,o,es,rfl,zd,qq _ _ (zy.refl _) (JS zd hk)⟩
  .obtain⟨g,p1,lg⟩:=hg E hK;obtain⟨tb,p2,lb⟩:=hb E hK;refine .inr ⟨g,tb,p1,p2,Uy (W:=Z.W) (xs:=kvs.map λkx=>kP kx.1) rfl (λRr qq=>?_) lg lb R q⟩;exact⟨.ref a,hσ,a,o,es,rfl,ha,qq _ _ (zy.refl _) (JS ha hk)⟩
 .exact q.elim
def FT{st:Ir}{te:TE}(h:PS X st (tE te (X3 j))):PS X st (tE (tGz te) (X3 j)):=by
 intro pins s σ H D I q;rcases q with⟨a,es,ha,q⟩|q
 .obtain⟨o,I1⟩:=I.FE ha;have hz:∀o v,X.H₀ a≠some (.frz o v):=I.eY ha;refine thn (h pins s σ _ { nx:=λσ' H2=>(∃o,H2 a=some (.frz o (.dK es)))/\D.nx σ' (upd H2 a (.dK es)),rt:=λ_ _=>False } I1 (q o)) λf s1 z=>?_;cases f with
  |next=>obtain⟨σ',H',J,⟨o',hf⟩,d⟩:=z;exact⟨σ',_,J.xU hf hz,d⟩
  |brk=>obtain⟨σ',H',J,d⟩:=z;exact d.elim
  |cont=>obtain⟨σ',H',J,d⟩:=z;exact d.elim
  |ret u=>obtain⟨v,σ',H',J,rv,d⟩:=z;exact d.elim
 .exact h pins s σ H D I q
def Dq(bs:HI)(N:Hx)(fr:HU)(Si:Ht)(hN:X.N.Nodup)(hy:X.N[j]?=some y)(hl:X.env.scope.names.lookup y=some .local)(hc:X.calm=true)(hok:gx X scope N fr=true)(hv:PE X y9 (XZ i))(hg:∀z:CI,GM (cxI X scope N z) ⟨W,E0,false⟩ Si Si tg mg)(ht:∀z:CI,TsM (cxI X scope N z) ⟨W,E0,false⟩ Si ifs mc)(he:∀z:CI,EM (cxI X scope N z) ⟨W,E0,false⟩ Si false elt me)(hS2:S[i]?≠some 2:=by decide)(hS:Si=inS S fr:=by rfl)(h0:S.all (·==0)=true:=by rfl)
  (hsw:swapsWith (.ListComp elt [⟨tg,y9,ifs,0⟩] scope pos) (some (.Name y py)) b_.line X.env=pure true:=by rfl) (hs:∀x,foldedSetIterable y9 X.env x=pure x:=by intro _;rfl):HS X W E (.Assign [.Name y py] (.ListComp elt [⟨tg,y9,ifs,0⟩] scope pos) b_) (wo j (hF bs (mLC (qf i) fr mg mc me))):=λhK=>by
 obtain⟨g,b1,b2⟩:=JQ hg λ_=>hK;obtain⟨tc,c1,c2⟩:=JP ht λ_=>hK;obtain⟨te,d1,d2⟩:=JO he λ_=>hK;exact⟨_,FT (pF N fr hN hy hl hc hok (Vm hv) (λfp pn s H L=>b1 ⟨fp,pn,s,H,L⟩) (λfp pn s H L=>c1 ⟨fp,pn,s,H,L⟩) (λfp pn s H L=>d1 ⟨fp,pn,s,H,L⟩) hsw hs),mP (Gr bs (t7 (C:=⟨W,E,false⟩) hS2 hS b2 c2 d2) h0)⟩
section
variable {X:Cx}{W:RC}{E:XK}{a o:HJ}{pos vq wA:Pos}{m m1:HME}
end
def fj{κ:Type}:List (κ×HV)->Option (List (κ×PV))
 |[]=>some []
 | (k,.v x)::xs=>(fj xs).map ((k,x)::·)
 |_::_=>none
def x_:Cell->Option PV
 |.l xs=>(fg xs).map .l
 |.d kvs=>(fj kvs).map .d
 |.z kvs=>(fj kvs).map .d
 |.o c fs=>(fj fs).map (.o c)
 |.y _=>none
 |.m _ _ _=>none
def sres(G:AH):HV->Option PV
 |.v x=>some x
 |.t xs=>(fg xs).map .t
 |.g k=>(G[k]?).bind x_
def WQ(G:AH):List Bool->wJ->Option Sto
 |_,[]=>some []
 |[],_::ρ=>(WQ G [] ρ).map (none::·)
 |false::bs,_::ρ=>(WQ G bs ρ).map (none::·)
 |true::bs,some x::ρ=>(sres G x).bind λy=>(WQ G bs ρ).map (some y::·)
 |true::_,none::_=>none
def hW(bs:HI)(m:ME):HME:=λρ G=>match WQ G bs ρ with
 |some r=>match m r with
  |.ok x=>.ok (.v x) G
  |.exc c fs=>.exc c fs G
  |.wall=>.wall
 |none=>.wall
section
variable {Z:HC}{A:HK}{H:Hp}{G:AH}{σ:St}{ρ:wJ}
def UB{W:RC}{M:Hz}{n:Nat}:∀{xs:List (Key×HV)}{ys:HZ}{vs:HL},fj xs=some ys->jW (j5 W M A n H) xs vs->qx W M H ys vs
 |[],_,_,e,h=>by cases e;exact h
 | (k,.v x)::xs,ys,_,e,h=>by unfold fj at e;obtain⟨zs,e1,rfl⟩:=u8.mp e;obtain⟨v,r,rfl,h1,h2⟩:=h;exact⟨v,r,rfl,h1,UB e1 h2⟩
 | (_,.g _)::_,_,_,e,_=>by cases e
 | (_,.t _)::_,_,_,e,_=>by cases e
def fk{W:RC}{M:Hz}{n:Nat}:∀{xs:List (Str×HV)}{ys:Ic}{vs:Ip},fj xs=some ys->jW (j5 W M A n H) xs vs->wd W M H ys vs
 |[],_,_,e,h=>by cases e;exact h
 | (k,.v x)::xs,ys,_,e,h=>by unfold fj at e;obtain⟨zs,e1,rfl⟩:=u8.mp e;obtain⟨v,r,rfl,h1,h2⟩:=h;exact⟨v,r,rfl,h1,fk e1 h2⟩
 | (_,.g _)::_,_,_,e,_=>by cases e
 | (_,.t _)::_,_,_,e,_=>by cases e
def rn(h:HH Z A H G)(r:j5 Z.W (HM Z A G.length) A G.length H x v)(e:sres G x=some y):yX Z.W (λa=>H a≠none) (HM Z A G.length) H y v:=by
 cases x with
 |v z=>have e:some z=some y:=e;cases e;exact yX.sub (yX.iff.mpr (show Rep Z.W _ H y v from r)) (λ_ _ n=>n) λ_ m _=>m
 |t xs=>obtain⟨ys,e1,rfl⟩:=u8.mp (show(fg xs).map PV.t=some y from e);obtain⟨p,vs,rfl,s,q⟩:=r;exact⟨p,vs,rfl,s,Q6 e1 q⟩
 |g k=>
  obtain⟨hk,rfl⟩:=r;obtain⟨c,hc,e⟩:=O4.mp (show(G[k]?).bind x_=some y from e);cases c with
  |y b=>cases e
  |m _ _ _=>cases e
  |l xs=>obtain⟨ys,e1,rfl⟩:=u8.mp (show(fg xs).map PV.l=some y from e);obtain⟨vs,h1,q⟩:=h.cell k _ hc;exact⟨A k,vs,rfl,(show H (A k)≠none from λz=>by(rw[h1]at z;cases z)),h1,Q6 e1 q⟩
  |d xs=>obtain⟨ys,e1,rfl⟩:=u8.mp (show(fj xs).map PV.d=some y from e);obtain⟨vs,h1,q⟩:=h.cell k _ hc;exact⟨A k,vs,rfl,(show H (A k)≠none from λz=>by(rw[h1]at z;cases z)),.inl h1,UB e1 q⟩
  |z xs=>obtain⟨ys,e1,rfl⟩:=u8.mp (show(fj xs).map PV.d=some y from e);obtain⟨o,vs,h1,q⟩:=h.cell k _ hc;exact⟨A k,vs,rfl,(show H (A k)≠none from λz=>by(rw[h1]at z;cases z)),.inr ⟨o,h1⟩,UB e1 q⟩
  |o c xs=>obtain⟨ys,e1,rfl⟩:=u8.mp (show(fj xs).map (PV.o c)=some y from e);obtain⟨dx,vs,h1,q⟩:=h.cell k _ hc;exact⟨A k,dx,vs,rfl,(show H (A k)≠none from λz=>by(rw[h1]at z;cases z)),h1,fk e1 q⟩
def YL:∀{bs:HI}{ρ:wJ}{r:Sto}{i:Nat}{x:PV},WQ G bs ρ=some r->r[i]?=some (some x)->i<bs.length/\∃y,ρ[i]?=some (some y)/\sres G y=some x
 |_,[],r,i,x,e,h=>by unfold WQ at e;cases e;simp at h
 |[],_::ρ,r,i,x,e,h=>by
  unfold WQ at e;obtain⟨r',e1,rfl⟩:=u8.mp e;cases i with
  |zero=>cases h
  |succ i=>rw[R7]at h;exact absurd (YL e1 h).1 (a0R _)
 |false::bs,_::ρ,r,i,x,e,h=>by
  unfold WQ at e;obtain⟨r',e1,rfl⟩:=u8.mp e;cases i with
  |zero=>cases h
  |succ i=>rw[R7]at h ⊢;exact⟨a2k (YL e1 h).1,(YL e1 h).2⟩
 |true::bs,some y::ρ,r,i,x,e,h=>by
  unfold WQ at e;obtain⟨z,e0,e⟩:=O4.mp e;obtain⟨r',e1,rfl⟩:=u8.mp e;cases i with
  |zero=>cases h;exact⟨Nat.zero_lt_succ _,y,rfl,e0⟩
  |succ i=>rw[R7]at h ⊢;exact⟨a2k (YL e1 h).1,(YL e1 h).2⟩
 |true::bs,none::ρ,r,i,x,e,h=>by cases e
def Vr:∀{bs:HI}{ρ:wJ}{r:Sto},WQ G bs ρ=some r->r.length=ρ.length
 |_,[],r,e=>by unfold WQ at e;cases e;rfl
 |[],_::ρ,r,e=>by unfold WQ at e;obtain⟨r',e1,rfl⟩:=u8.mp e;rw[v4,v4,Vr e1]
 |false::bs,_::ρ,r,e=>by unfold WQ at e;obtain⟨r',e1,rfl⟩:=u8.mp e;rw[v4,v4,Vr e1]
 |true::bs,some y::ρ,r,e=>by unfold WQ at e;obtain⟨z,e0,e⟩:=O4.mp e;obtain⟨r',e1,rfl⟩:=u8.mp e;rw[v4,v4,Vr e1]
 |true::bs,none::ρ,r,e=>by cases e
def FU(R:HR Z A H σ ρ G)(e:WQ G bs ρ=some r)(hS:S.all (·==1)=true)(hb:bs.length<=S.length):Rel Z.W (ig H (HM Z A G.length)) S (λ_=>0) H σ r:=by
 have one:∀{k c:Nat},S[k]?=some c->c=1:=λ{k c} h=>by have:=a0j.mp hS c (a0H h);simpa using this
 have n2:∀{k:Nat},S[k]?=some 2->False:=λ{k} h=>by have:=one h;omega
 refine⟨zy.refl _,R.len.trans (Vr e).symm,λi x h=>?_,λi hi=>(n2 hi).elim,λi j hi=>(n2 hi).elim,λhi=>(n2 hi).elim,λa h=>h.elim,λi hi=>(n2 hi).elim⟩;obtain⟨hi,y,h1,h2⟩:=YL e h;obtain⟨v,h3,h4⟩:=R.var i y h1;have h1':S[i]?=some 1:=by have hl:i<S.length:=N7 hi hb;have:=N4 hl;rw[this,one this]
 exact⟨v,h3,λz=>(n2 z).elim,λ_=>yX.sub (rn R.toHH h4 h2) (λ_ n _=>n) λa m _=>⟨⟨.inl m,id⟩,λi hi=>(n2 hi).elim⟩,λ_ z=>absurd h1' z⟩
end
section
variable {X:Cx}{W:RC}{E:XK}{fr:Bool}{S:Ht}{e:HJ}{m:ME}
def Hi(bs:HI)(h:EM X ⟨W,E,fr⟩ S false e m)(hS:S.all (·==1)=true:=by rfl)(hb:bs.length<=S.length:=by decide):HE X W E e (hW bs m):=λhK=>by
 obtain⟨te,a1,a2⟩:=h hK;refine⟨te,a1,λZ hZ A H σ ρ G R Q q=>?_⟩;subst hZ;unfold hW at q;split at q
 .rename_i r hr;refine a2 _ _ H σ r (FU R hr hS hb) Q ?_;revert q;cases m r with
  |ok x=>exact λq v H2 s rx=>q A H2 (R.toHH.keep s) (Gro.same s) v (rx.rep.sub λa m _=>p_ R.toHH a m)
  |exc c fs=>exact λq=>Uv R.toHH q λH2 es h=>h.sub λa m _=>m.elim id λn=>R.toHH.new a n
  |wall=>exact id
 .exact q.elim
end
section
variable {X:Cx}{C:LC}{S:Ht}{a b:HJ}{w1 w2:Bool}{m1 m2:ME}{pos:Pos}
end
def WR(G:AH):Nat->HV->Option PV
 |0,_=>none
 |_+1,.v x=>if imm x=true then some x else none
 |n+1,.t xs=>(c_ (WR G n) xs).map .t
 |n+1,.g k=>match G[k]? with
  |some (.l xs)=>(c_ (WR G n) xs).map .l
  |some (.d kvs)=>(de (WR G n) kvs).map .d
  |_=>none
def bp(f:List HV->AH->HX HV)(ms:HMA):HME:=λρ G=>(ms ρ G).bind λxs G1=>match c_ (Xr G1 8) xs with
 |some ys=>match f (ys.map .v) []with
  |.ok y X=>match WR X 8 y with
   |some z=>.ok (.v z) G1
   |none=>.wall
  |.exc c fs _=>if oW fs=true then .exc c fs G1 else .wall
  |.wall=>.wall
 |none=>.wall
def fm{f:HV->Option PV}:∀{xs:List HV}{ys:HW},c_ f xs=some ys->ys.length=xs.length
 |[],_,e=>by cases e;rfl
 |x::xs,ys,e=>by unfold c_ at e;obtain⟨y,_,e⟩:=O4.mp e;obtain⟨zs,e2,rfl⟩:=u8.mp e;rw[v4,v4,fm e2]
section
variable {Z:HC}{A:HK}{H:Hp}{G:AH}
def Vs{N:Hz}(h:HH Z A H G)(hN:∀k,k<G.length->N (A k)):∀(n:Nat)(x:HV)(v:V)(y:PV),j5 Z.W (HM Z A G.length) A G.length H x v->WR G n x=some y->Rep Z.W N H y v
 |0,_,_,_,_,e=>by cases e
 |n+1,.v x,v,y,r,e=>by
  unfold WR at e;split at e
  .rename_i hi;cases e;exact JT hi r
  .cases e
 |n+1,.t xs,v,y,r,e=>by unfold WR at e;obtain⟨ys,e1,rfl⟩:=u8.mp e;unfold j5 at r;obtain⟨p,vs,rfl,s,q⟩:=r;exact⟨p,vs,rfl,s,YK (Vs h hN n) q e1⟩
 |n+1,.g k,v,y,r,e=>by
  obtain⟨hk,rfl⟩:=r;unfold WR at e;split at e
  .rename_i xs hc;obtain⟨ys,e1,rfl⟩:=u8.mp e;obtain⟨vs,h1,q⟩:=h.cell k _ hc;exact⟨A k,vs,rfl,hN k hk,h1,YK (Vs h hN n) q e1⟩
  .rename_i xs hc;obtain⟨ys,e1,rfl⟩:=u8.mp e;obtain⟨vs,h1,q⟩:=h.cell k _ hc;exact⟨A k,vs,rfl,hN k hk,.inl h1,Vo (Vs h hN n) q e1⟩
  .cases e
def ud{W:RC}{N M:Hz}{n:Nat}(hN:∀a,N a->M a):∀{ys:HW}{vs:HF},zX W N H ys vs->yO W M A n H (ys.map .v) vs
 |[],_,h=>h
 |y::ys,_,⟨v,r,e,h1,h2⟩=>⟨v,r,e,Rep.sub h1 λa m _=>hN a m,ud hN h2⟩
def rA:HH ⟨Z.W,H,λ_=>True⟩ A H []:=⟨zy.refl _,λk c e=>(by cases e),λj k hj=>absurd hj (a0R _),λk hk=>absurd hk (a0R _)⟩
def JV(g:Gro ⟨Z.W,H,λ_=>True⟩ A 0 H A' n H'):zy H H':=λa o e=>g.fr a o e (.inl ⟨.inl trivial,λk hk=>absurd hk (a0R _)⟩)
end
def rB(F:jr X.prog X.w X.K X.mg X.base (CXe X.prog X.w) k f fd ps (hsp W n g))(hr:jO k X.A)(hg:Gl X x)(hm:X.mg x=some (.ref f))(hk:keepIn X.K (.ref f)=true)(hb:Binds X.K fd ps [])(hx:Passes (CXe X.prog X.w) X E)(ha:HA X W E (e::es) ms)(hn:∀ρ G xs G',ms ρ G=.ok xs G'->xs.length=n)
  (hdb:(x==("__debug__":Str))=false:=by decide) (he:starEach (e::es) X.env=(false,eval e X.env)::starEach es X.env:=by rfl) (hpl:(backTo pos (starEach es X.env)).any (·.1)=false:=by rfl):HE X W E (.Call (.Name x p) (e::es) [] pos) (bp g ms):=λhK=>by
 obtain⟨ta,a1,a2⟩:=ha hK;refine⟨_,X4 F hr hg hm hk hb .nil hx a1 hdb he hpl,λZ hZ A H σ ρ G R Q q=>a2 Z hZ A H σ ρ G R _ ?_⟩;unfold bp at q;revert q;cases hq:ms ρ G with
 |wall=>exact id
 |exc c fs G'=>exact id
 |ok xs G1=>
  intro q A1 H1 h1 g1 vs rs;rw[P7];have q:HPx Z E A G.length H (KV' Z Q) (match c_ (Xr G1 8) xs with
   |some ys=>match g (ys.map .v) []with
    |.ok y X=>match WR X 8 y with
     |some z=>.ok (.v z) G1
     |none=>.wall
    |.exc c fs _=>if oW fs=true then .exc c fs G1 else .wall
    |.wall=>.wall
   |none=>.wall):=q
  split at q
  .rename_i ys hy;have hl:ys.length=xs.length:=fm hy;have rr:zX Z.W (λ_=>True) H1 ys vs:=YK (Qy h1 8) rs hy;refine⟨⟨Z.W,H1,λ_=>True⟩,A1,[],ys.map .v,hZ,by rw[v0,hl];exact hn _ _ _ _ hq,rA,ud (λa _=>⟨.inl trivial,λk hk=>absurd hk (a0R _)⟩) rr,?_⟩;revert q;cases hf:g (ys.map .v) []with
   |wall=>exact λq=>q.elim
   |exc c fs X'=>
    intro q;dsimp only at q;split at q
    .rename_i hi;have q:=p5.gro q g1;exact λA2 H2 e dx es h2 g2 he hd rf=>q A1 H2 e dx es (h1.keep (JV g2)) (Gro.same (JV g2)) he hd (wK hi rf)
    .exact q.elim
   |ok y X'=>
    intro q;dsimp only at q;split at q
    .rename_i z hz;intro A2 H2 h2 g2 v rv;have s:=JV g2;exact q A1 H2 (h1.keep s) (g1.trans (Gro.same s)) v (show Rep Z.W _ H2 z v from Vs h2 (λk hk=>h1.new _ (g2.fresh k (T5 _) hk)) 8 y v z rv hz)
    .exact q.elim
  .exact q.elim
section
variable {X:Cx}{C:LC}{S S' S1 S2 Sb Sc:Ht}{e:HJ}{es:HD}{ws:HI}{ms:MA}{pos p pos':Pos}{x y:Str}{k i j:Nat}{f:Addr}{fd:Ib}{ps:Hx}{fr:Bool}{g:HP}{m1 m2:MS}
def zX.Dr{W:RC}{M:Hz}{H:Hp}:∀{xs:HW}{vs:HF},zX W M H xs vs->zX W M H xs.dropLast vs.dropLast
 |[],_,h=>by cases(show _=_ from h);exact rfl
 |[x],_,⟨v,r,e,_,h⟩=>by subst e;cases(show _=_ from h);exact rfl
 |x::y::xs,_,⟨v,r,e,h1,h2⟩=>by subst e;obtain⟨u,r',e',h3,h4⟩:=h2;subst e';have:=zX.Dr (xs:=y::xs) (vs:=u::r') ⟨u,r',rfl,h3,h4⟩;rw[a1L (a1t _ _),a1L (a1t _ _)];exact⟨v,_,rfl,h1,this⟩
def rC(i j:Nat):MS:=λρ=>match ρ[i]? with
 |some (some (.l xs))=>match xs[xs.length-1]? with
  |some y=>.ok (.nx ((ρ.set i (some (.l xs.dropLast))).set j (some y)))
  |none=>.wall
 |_=>.wall
def Aa(hN:X.N.Nodup)(hj:X.N[j]?=some x)(hx:Loc X.env.scope x)(ho:PE X o (XZ i))(hi:S[i]?=some 2:=by rfl)(WN:attributeBase o "pop" X.env (eval o X.env)=eval o X.env:=by rfl)(WM:(vq.endLine==p.line)=true:=by rfl)(hs:swapsWith (.Call (.Attribute o "pop" vq) [] [] p) (some (.Name x pos')) pos.line X.env=pure false:=by rfl)(hf:X.fn x=true\/X.env.scope.names.lookup x=some .local:=by first|exact .inl rfl|exact .inr rfl|assumption):
  SM X C S (S.set j 0) Sb Sc (.Assign [.Name x pos'] (.Call (.Attribute o "pop" vq) [] [] p) pos) (rC i j):=λhK=>by
 refine⟨_,ef hN hj hx (BU a0O PySem.F.slot_list_pop PySem.F.type_list_pop BW ho WN WM) hs hf,λB P H σ ρ R D q=>?_⟩;unfold rC at q;split at q
 .rename_i xs hx;obtain⟨hσ,⟨vs,hp,rr⟩,hl⟩:=R.at2 hi hx;split at q
  .rename_i y hy;obtain⟨v,hv,ry⟩:=rr.get hy;have hv:vs[vs.length-1]?=some v:=by rw[rr.len];exact hv
   have f:=Mof.wr (o:=.lst vs.dropLast) R hi;refine⟨_,hσ,.inl ⟨rfl,_,SqL.of hp⟩,_,vs,v,rfl,rfl,hp,hv,q P _ _ ((R.wr (x':=.l xs.dropLast) (o:=.lst vs.dropLast) hi hl hσ (by exact id) ⟨_,zd,rr.Dr.gen f λ_ m _=>m⟩).set (ry.gen f λ_ m _=>m))⟩
  .exact q.elim
 .exact q.elim
end
section
variable {X:Cx}{C:LC}{S:Ht}{tg e:HJ}{p pos:Pos}{m:ME}{cc:Bool}
end
section
variable {X:Cx}{W:RC}{E:XK}{o:HJ}{pos vq p:Pos}{m1:HME}
end
section
variable {X:Cx}{C:LC}{S Sb Sc:Ht}{y9 tg elt:HJ}{ifs:HD}{me:ME}{mc:MT}{mg:MG}{pos b_ py:Pos}{i j:Nat}{scope:Scope}{y:Str}
end
def signsOf:PV->Out (List PV)
 |.s z=>.ok (z.cps.toList.map λc=>.s ⟨#[c]⟩)
 |_=>.wall
def Xs(m:ME):MI:=λρ=>(m ρ).bind signsOf
def Ds:xM W M N H2 (Its z) (z.cps.toList.map λc=>PV.s ⟨#[c]⟩):=λH' f=>by refine⟨λi x hx=>?_,by rw[v0];exact a2g a0M.symm⟩;rw[O2]at hx;obtain⟨c,hc,rfl⟩:=u8.mp hx;rw[a2F]at hc;refine⟨(a03.mp hc).1,λv H'' hy=>?_⟩;obtain⟨rfl,c',hc',rfl⟩:=hy;rw[hc]at hc';cases hc';exact⟨zy.refl _,λ_ _=>rfl⟩
section
variable {X:Cx}
end
def Ab:List PV->Option (List Str)
 |[]=>some []
 |.s z::xs=>(Ab xs).map (z::·)
 |_::_=>none
def Ac:∀{vs:HF}{ys:Hx},zX W M H xs vs->Ab xs=some ys->vs=ys.map V.str:=by
 induction xs with
 |nil=>intro vs ys r e;cases e;unfold zX at r;exact r
 |cons x xs ih=>
  intro vs ys r e;unfold zX at r;obtain⟨v,q,rfl,rv,rq⟩:=r;cases x with
  |s z=>obtain⟨zs,e2,rfl⟩:=u8.mp (show(Ab xs).map (z::·)=some ys from e);unfold Rep at rv;rw[ih rq e2,rv];rfl
  |_=>cases(show(none:Option (List Str))=some ys from e)
def fo:∀{ys:Hx},Ab (ys.map .s)=some ys
 |[]=>rfl
 |y::ys=>by show(Ab (ys.map .s)).map _=_;rw[fo];rfl
section
variable {X:Cx}{C:LC}{S Sb Sc:Ht}{o e a:HJ}{es:HD}{w w1 w2:Bool}{ws:HI}{m m1 m2:ME}{ms:MA}{pos p wA vq:Pos}{i:Nat}{cc:Bool}{y:Str}{py:Pos}
end
def Dt:List V->Hp->VK->Prop:=λvs H Q=>∃n:Int,vs=[.int n]/\n.natAbs.log2<1920/\Q (.str (toString n)) H
def mU:j0 X (.type "str") Dt:=by intro pins s σ H xs us Q I r h;obtain⟨n,rfl,hn,q⟩:=h;obtain⟨u,rfl,t,rfl⟩:=vals1 r;exact P.str_of_int hn ⟨.str _,H,I.tok _,⟨_,rfl⟩,q⟩
def EK:List PV->Out PV
 |[.i n]=>if n.natAbs.log2<1920 then .ok (.s (toString n))else .wall
 |_=>.wall
def Ad:LfC W Dt EK:=λM C B H xs vs Q n h q=>by
 unfold EK at q;split at q
 .obtain⟨v,r,rfl,hx,hr⟩:=h;cases(show _=_ from hr);cases(show _=_ from hx);split at q
  .rename_i hn;exact⟨_,rfl,hn,q _ H (zy.refl _) rfl⟩
  .exact q.elim
 .exact q.elim
def Ae(hg:Gl X "str")(hm:X.mg "str"=none)(ha:AM X C S ws [e] ms)(he:starEach [e] X.env=[(false,eval e X.env)]:=by rfl):EM X C S false (.Call (.Name "str" p) [e] [] pos) (zh EK ms):=
 eR (λ_=>mU) Ad hg hm PyProof.Rows.Boot.str ha (he:=he)
def ue(h:EM X C S w e m):IM X C S cc (.Name y py) e (Xs m):=λhK=>by
 obtain⟨te,a1,a2⟩:=h hK;refine⟨_,Ck a1,λB P H σ ρ R Q q=>a2 B P H σ ρ R _ ?_⟩;unfold Xs at q;revert q;cases m ρ with
 |exc c fs=>exact id
 |wall=>exact id
 |ok x=>
  intro q v H2 s r;cases x with
  |s z=>have ev:v=V.str z:=r.weak;exact⟨z,ev,q _ H2 s Ds⟩
  |_=>exact(show False from q).elim
section
variable {X:Cx}{W:RC}{E:XK}{fr:Bool}{S:Ht}{e:HJ}{m:ME}
end
section
variable {X:Cx}{C:LC}{S S' Sb Sc:Ht}{o a:HJ}{w1 w2:Bool}{m1 m2:ME}{to ta:TE}{y z:Str}{n:Int}{vq wA py pz pi pos rp cp kp:Pos}{jy jz ji j:Nat}
end
def JW(k:Nat)(g:HMG)(b:HMS):Nat->Nat->wJ->AH->HFw
 |r,i,ρ,G=>match G[k]? with
  |some (.l xs)=>match xs[i]? with
   |none=>.nx ρ G
   |some x=>match r with
    |0=>.wall
    |r+1=>match g x ρ with
     |none=>.wall
     |some ρ1=>match b ρ1 G with
      |.nx ρ2 G2=>JW k g b r (i+1) ρ2 G2
      |.ct ρ2 G2=>JW k g b r (i+1) ρ2 G2
      |.bk ρ2 G2=>.nx ρ2 G2
      |.rt v G2=>.rt v G2
      |.exc c fs G2=>.exc c fs G2
      |.wall=>.wall
  |_=>.wall
def rD(m:HME)(g:HMG)(b:HMS):HMS:=λρ G=>(m ρ G).fw λx G1=>match x with
 |.g k=>match G1[k]? with
  |some (.l xs)=>JW k g b xs.length 0 ρ G1
  |_=>.wall
 |_=>.wall
def Af(hp:PassesOwn (IP X) X.A X.env X.xe)(hc:X.calm=true)(hi:HE X W E y9 m)(hg:HG X W tg mg)(hb:HSs X W E body mb)(hs:∀x,foldedSetIterable y9 X.env x=pure x:=by intro _;rfl):
  HS X W E (.For tg y9 body [] pos) (rD m mg mb):=λhK=>by
 obtain⟨te,a1,a2⟩:=hi hK;obtain⟨g,b1,b2⟩:=hg hK;obtain⟨tb,c1,c2⟩:=hb hK;refine⟨_,aj hp hc (lW a1) b1 c1 hs,λZ hZ A H σ ρ G R D q=>a2 Z hZ A H σ ρ G R _ (HPs.bind q λx A1 H1 G1 h1 g1 q1 v rx=>?_)⟩;split at q1
 .rename_i k;obtain⟨hk,rfl⟩:=(show _/\_ from rx);split at q1
  .rename_i xs hx;have R1:=R.gro h1 g1;obtain⟨vs,hl,rs⟩:=h1.cell k _ hx;refine .inl ⟨A1 k,rfl,⟨vs,SqL.of hl⟩,?_⟩;refine⟨λi n σ' H'=>∃ρ' A' G',HR Z A' H' σ' ρ' G'/\Gro Z A1 G1.length H1 A' G'.length H'/\HPs Z E A' G'.length H' D (JW k mg mb n i ρ' G'),⟨xs.length,ρ,A1,G1,R1,Gro.refl,q1⟩,?_⟩
   rintro i n σ' H' ⟨ρ',A',G',R',g',q'⟩
   have ak:A' k=A1 k:=g'.agr k hk;unfold JW at q';split at q'
   .rename_i ys hy;obtain⟨us,hu,ru⟩:=R'.toHH.cell k _ hy;rw[ak]at hu;split at q'
    .rename_i hn;refine .inl ⟨⟨us,SqL.of hu,?_⟩,q' A' H' σ' R' Gro.refl⟩;rw[ru.len];exact a06.mp hn
    .rename_i y hyi;obtain⟨u,hui,rui⟩:=ru.get hyi;split at q'
     .exact q'.elim
     .rename_i r;refine .inr ⟨⟨us,u,SqL.of hu,hui⟩,λσ2 H2'=>∃ρ' A' G',HR Z A' H2' σ2 ρ' G'/\Gro Z A1 G1.length H1 A' G'.length H2'/\HPs Z E A' G'.length H2' D (JW k mg mb r (i+1) ρ' G'),λσ2 H2' h=>⟨r,a1p _,h⟩,λv' H'' hv=>?_⟩;obtain⟨rfl,hv⟩:=hv;have:=hv us (SqL.of hu);rw[hui]at this;cases this;split at q'
      .exact q'.elim
      .rename_i ρ1 hρ;refine b2 Z hZ A' H'' σ' ρ' G' y u R' rui _ ⟨ρ1,hρ,λσ1 R1=>c2 Z hZ A' H'' σ1 ρ1 G' R1 _ ?_⟩;revert q';cases mb ρ1 G' with
       |wall=>exact id
       |exc c fs G2=>exact id
       |nx ρ2 G2=>exact λq' A3 H3 σ3 R3 g3=>⟨ρ2,A3,G2,R3,g'.trans g3,HPs.gro (o:=JW k mg mb r (i+1) ρ2 G2) q' g3⟩
       |ct ρ2 G2=>exact λq' A3 H3 σ3 R3 g3=>⟨ρ2,A3,G2,R3,g'.trans g3,HPs.gro (o:=JW k mg mb r (i+1) ρ2 G2) q' g3⟩
       |bk ρ2 G2=>exact id
       |rt x G2=>exact id
   .exact q'.elim
  .exact q1.elim
 .exact q1.elim
section
variable {X:Cx}{W:RC}{E:XK}{e:HJ}{es:HD}{ms:HMA}{ws:HI}{g:HP}{k:Nat}{f:Addr}{fd:Ib}{ps:Hx}{x:Str}{p pos:Pos}
end
section
variable {X:Cx}{C:LC}{S:Ht}{mi:MI}{mg:MG}{mc:MT}{me:ME}
end
section
variable {X:Cx}{W:RC}{E:XK}
variable {fr':Bool}{S:Ht}{y9 tg elt:HJ}{ifs:HD}{me:ME}{mc:MT}{mg:MG}{mi:MI}{pos b_ py:Pos}{i j:Nat}{scope:Scope}{y:Str}
end
def Bq(kvs:HZ)(y:PV):Out PV:=match pk y with
 |some k=>.ok ((qV kvs k).getD .n)
 |none=>.wall
def Gu(m1 m2:ME):ME:=λρ=>(m1 ρ).bind λx=>match x with
 |.d kvs=>(m2 ρ).bind (Bq kvs)
 |_=>.wall
def Du(hu:X.A.units+1<cLine)(h1:EM X C S w1 o m1)(h2:EM X C S w2 e m2)(m:M1 X o "get" vq e wA):EM X C S false (.Call (.Attribute o "get" vq) [e] [] wA) (Gu m1 m2):=λhK=>by
 obtain⟨ta,a1,a2⟩:=h1 hK;obtain⟨tb,b1,b2⟩:=h2 hK;refine⟨_,pf hu a1 b1 m,λB P H σ ρ R Q q=>a2 B P H σ ρ R _ (qd q λx v H1 s1 r1 q1=>?_)⟩;cases x with
 |d kvs=>
  obtain⟨p,es,rfl,_,hd,rk⟩:=r1.weak;refine⟨p,rfl,.inl ⟨es,hd⟩,b2 B P H1 σ ρ (R.keep s1) _ (qd (o:=m2 ρ) (f:=Bq kvs) q1 λy u H2 s2 r2 q2=>?_)⟩;cases ek:pk y with
  |none=>
   have e:Bq kvs y=.wall:=by unfold Bq;rw[ek]
   rw[e]at q2;exact q2.elim
  |some k=>
   have e:Bq kvs y=.ok ((qV kvs k).getD .n):=by unfold Bq;rw[ek]
   rw[e]at q2;have eu:=aU r2.weak ek;subst eu;have hd2:Rd H2 p (.dK es):=hd.elim (λz=>.inl (s2 _ _ z)) λ⟨o,z⟩=>.inr ⟨o,s2 _ _ z⟩;refine⟨Xj es k,.inl ⟨es,k,hd2,rfl,rfl⟩,?_⟩;cases ed:qV kvs k with
   |none=>rw[ed]at q2;rw[rk.EC ed];exact q2 _ H2 (zy.refl _) (RV.of rfl)
   |some x=>rw[ed]at q2;obtain⟨v,ev,rv⟩:=rk.get ed;rw[ev];exact q2 _ H2 (zy.refl _) (RV.of (rv.same s2))
 |_=>exact q1.elim
section
variable {X:Cx}{W:RC}{E:XK}{o a:HJ}{m1 m2:HME}{pos vq wA:Pos}
end
section
variable {X:Cx}{W:RC}{E:XK}{fr:Bool}{S S1 Sb Sc:Ht}{tg a0 b0:HJ}{body:Ij}{mg:MG}{mb:MS}{pos ipos:Pos}{i j:Nat}
end
section
variable {X:Cx}{C:LC}{S S' Sb Sc:Ht}{e a b o:HJ}{es:HD}{w w1 w2:Bool}{ws:HI}{m m1 m2:ME}{ms:MA}{pos p pos':Pos}{i x1:Nat}
end
section
variable {X:Cx}{W:RC}{E:XK}{o e:HJ}{es:HD}{m:HME}{ms:HMA}{pos vq:Pos}{mn:Str}{n:Nat}
end
section
variable {X:Cx}{k:Nat}{f C:Addr}{fd:Ib}{ps:Hx}{sp:Sp}{x m:Str}{p pos vq:Pos}{e o:HJ}{es:HD}{ta te:TE}{t:TA}{alts:Addr->Sp->Prop}
end
section
variable {X:Cx}{C:LC}{S S' S1 S2 Sb Sc:Ht}{e o:HJ}{es:HD}{ws:HI}{m:ME}{ms:MA}{pos p pos' vq:Pos}{x y mn:Str}{k i j:Nat}{f:Addr}{fd:Ib}{ps:Hx}{fr w:Bool}{g:HP}{m1 m2:MS}
end
end L2
namespace L2
open PySem PySem.W PyProof.Rows
def Kq{α:Type}(P:ID)(f:Iy):KasT α->(α->Prop)->Prop
 |.ret a,Q=>Q a
 |.ask i j k,Q=>P i/\P j/\Kq P f (k (f i j)) Q
def wu{α β:Type}{P:ID}{f:Iy}{g:α->KasT β}{Q:β->Prop}:∀{t:KasT α},Kq P f t (λa=>Kq P f (g a) Q)->Kq P f (t.bind g) Q
 |.ret _,h=>h
 |.ask _ _ _,h=>⟨h.1,h.2.1,wu h.2.2⟩
def y0{α:Type}{P:ID}{f:Iy}{Q Q':α->Prop}(hq:∀a,Q a->Q' a):∀{t:KasT α},Kq P f t Q->Kq P f t Q'
 |.ret _,h=>hq _ h
 |.ask _ _ _,h=>⟨h.1,h.2.1,y0 hq h.2.2⟩
def mV{α:Type}{P:ID}{f:Iy}{cmp:Nat->Nat->(Bool->Shared->Prop)->Shared->Prop}{J:Shared->Prop}(hc:∀i j C s,P i->P j->J s->(∀s',J s'->C (f i j) s')->cmp i j C s){Q:α->Prop}{R:α->Shared->Prop}(hq:∀a s,Q a->J s->R a s):∀{t:KasT α}{s:Hy},J s->Kq P f t Q->t.kasWp cmp R s
 |.ret a,s,hs,h=>hq a s h hs
 |.ask i j k,s,hs,h=>hc i j _ s h.1 h.2.1 hs λs' hs'=>mV hc hq hs' h.2.2
abbrev at0(p:Iw)(k:Nat):Nat:=p.getD k 0
def Q9:at0 p k=(p[k]?).getD 0:=by
 unfold at0;by_cases h:k<p.size
 .simp[Array.getD,h]
 .simp[Array.getD,h]
def UC(hj:j<=p.size)(k:Nat):at0 (kas_rev p i j) k=if i<=k/\k<j then at0 p (i+j-1-k)else at0 p k:=by rw[Q9,Q9,Q9];unfold kas_rev;rw[getElem?_mirror_all hj];split<;>rfl
def Xt(hk:k<p.size)(hl:l<=k)(i:Nat):at0 (bubble p k (k-l)) i=if i=l then at0 p k else if l<i/\i<=k then at0 p (i-1)else at0 p i:=by
 rw[Q9,Q9,Q9,Q9,getElem?_bubble hk (k-l) (by omega),show k-(k-l)=l by omega];split
 .rfl
 .split<;>rfl
section
variable {O:KeyOrd}{key:Nat->O.α}{n:Nat}
abbrev kk(key:Nat->O.α)(p:Iw)(i:Nat):O.α:=key (at0 p i)
abbrev ans(key:Nat->O.α)(i j:Nat):Bool:=O.blt (key i) (key j)
structure Pm(n:Nat)(p:Iw):Prop where
 perm:p.toList.Perm (List.range n)
 size:p.size=n
def Pm.rev(h:Pm n p):Pm n (kas_rev p i j):=⟨(a1Y.mp (mirror_perm p i j _)).trans h.perm,(kas_rev_size i j).trans h.size⟩
def Pm.bub(h:Pm n p):Pm n (bubble p i j):=⟨(a1Y.mp (bubble_perm p i j)).trans h.perm,(bubble_size p i j).trans h.size⟩
def Pm.lt(h:Pm n p)(h0:0<n)(k:Nat):at0 p k<n:=by
 rw[Q9];by_cases hk:k<p.size
 .rw[getElem?_pos p k hk];have:p[k]∈p.toList:=by simp
  exact S5.mp (h.perm.mem_iff.mp this)
 .rw[getElem?_neg p k hk];exact h0
def Up(key:Nat->O.α)(p:Iw)(m:Nat):Prop:=∀i j,i<=j->j<m->O.kle (kk key p i) (kk key p j)
def Dn(key:Nat->O.α)(p:Iw)(m:Nat):Prop:=∀i j,i<=j->j<m->O.kle (kk key p j) (kk key p i)
def mW{p:Iw}(hp:Pm n p)(h0:0<n):∀{f m:Nat},1<=m->m+f<=n->Up key p m->Kq (·<n) (ans key) (kas_asc p f m) λr=>m<=r/\r<=m+f/\Up key p r/\(r<m+f->O.klt (kk key p r) (kk key p (r-1)))
 |0,m,_,_,hu=>⟨M7 _,M7 _,hu,λh=>absurd h (by omega)⟩
 |f+1,m,h1,hm,hu=>by
  refine⟨hp.lt h0 _,hp.lt h0 _,?_⟩;show Kq _ _ (if O.blt (kk key p m) (kk key p (m-1))=true then _ else _) _;cases hc:O.blt (kk key p m) (kk key p (m-1))with
  |true=>exact⟨M7 _,by omega,hu,λ_=>hc⟩
  |false=>
   have hu':Up key p (m+1):=λi j hij hj=>by
    by_cases c:j=m
    .subst c;by_cases c2:i=j
     .subst c2;exact O.irrefl _
     .exact a2l (hu i (j-1) (by omega) (by omega)) hc
    .exact hu i j hij (by omega)
   exact y0 (λr ⟨a,b,c,d⟩=>⟨by omega,by omega,c,λh=>d (by omega)⟩) (mW hp h0 (f:=f) (m:=m+1) (by omega) (by omega) hu')
structure Br(key:Nat->O.α)(n:Nat)(p:Iw)(m q:Nat):Prop where
 pm:Pm n p
 dn:Dn key p m
 le:m<=n
 qm:q+1<=m
 eq:∀k,m-(q+1)<=k->k<m->kk key p k=kk key p (m-1)
def Br.alike(h:Br key n p m q)(k:Nat):kk key (kas_rev p (m-(q+1)) m) k=kk key p k:=by
 have hm:=h.le;have hs:=h.pm.size;have hq:=h.qm;unfold kk;rw[UC (by omega)];split
 .rename_i c;have e1:=h.eq (m-(q+1)+m-1-k) (by omega) (by omega);have e2:=h.eq k c.1 c.2;exact e1.trans e2.symm
 .rfl
def di(h0:0<n):∀{f m q:Nat}{p:Iw},m+f<=n->Br key n p m q->Kq (·<n) (ans key) (kas_desc f p m q) λr=>m<=r.2.1/\r.2.1<=m+f/\Br key n r.1 r.2.1 r.2.2
 |0,m,q,p,_,h=>⟨M7 _,M7 _,h⟩
 |f+1,m,q,p,hm,h=>by
  have hq:=h.qm;refine⟨h.pm.lt h0 _,h.pm.lt h0 _,?_⟩;show Kq _ _ (if O.blt (kk key p m) (kk key p (m-1))=true then _ else _) _;have dn1:∀{p':Iw},(∀k,kk key p' k=kk key p k)->O.kle (kk key p m) (kk key p (m-1))->Dn key p' (m+1):=λ{p'} he hk i j hij hj=>by
   rw[he,he];by_cases c:j=m
   .subst c;by_cases c2:i=j
    .subst c2;exact O.irrefl _
    .exact a2l hk (h.dn i (j-1) (by omega) (by omega))
   .exact h.dn i j hij (by omega)
  cases hc:O.blt (kk key p m) (kk key p (m-1))with
  |true=>
   have hk:O.kle (kk key p m) (kk key p (m-1)):=a2m hc;have go:∀{p':Iw},Pm n p'->(∀k,kk key p' k=kk key p k)->Kq (·<n) (ans key) (kas_desc f p' (m+1) 0) λr=>m<=r.2.1/\r.2.1<=m+(f+1)/\Br key n r.1 r.2.1 r.2.2:=λ{p'} hp he=>
    y0 (λr ⟨a,b,c⟩=>⟨by omega,by omega,c⟩) (di h0 (f:=f) (m:=m+1) (q:=0) (p:=p') (by omega) ⟨hp,dn1 he hk,by omega,by omega,λk k1 k2=>by rw[show k=m+1-1 by omega]⟩)
   show Kq _ _ (if q>0 then kas_desc f (kas_rev p (m-(q+1)) m) (m+1) 0 else kas_desc f p (m+1) 0) _;by_cases c:q>0
   .rw[if_pos c];exact go h.pm.rev h.alike
   .rw[if_neg c];exact go h.pm λ_=>rfl
  |false=>
   refine⟨h.pm.lt h0 _,h.pm.lt h0 _,?_⟩;show Kq _ _ (if O.blt (kk key p (m-1)) (kk key p m)=true then _ else _) _;cases hd:O.blt (kk key p (m-1)) (kk key p m)with
   |true=>exact⟨M7 _,by show m<=m+(f+1);omega,h⟩
   |false=>
    have e:kk key p m=kk key p (m-1):=O.total _ _ hc hd;refine y0 (λr ⟨a,b,c⟩=>⟨by omega,by omega,c⟩) (di h0 (f:=f) (m:=m+1) (q:=q+1) (p:=p) (by omega) ⟨h.pm,dn1 (λ_=>rfl) hd,by omega,by omega,λk k1 k2=>?_⟩);by_cases c:k=m
    .rw[c];rfl
    .rw[show m+1-1=m by omega,e];exact h.eq k (by omega) (by omega)
abbrev FV(key:Nat->O.α)(n:Nat):Nat×Array Nat->Prop:=λr=>Pm n r.2/\1<=r.1/\r.1<=n/\Up key r.2 r.1
def fq(h0:0<n)(hp:Pm n p)(h1:1<=m)(hm:m<=n)(hd:Dn key p m):Kq (·<n) (ans key) (kas_tail3 m n p) (FV key n):=by
 have hs:=hp.size;have hu:Up key (kas_rev p 0 m) m:=λi j hij hj=>by unfold kk;rw[UC (by omega),UC (by omega),if_pos ⟨by omega,by omega⟩,if_pos ⟨by omega,by omega⟩];exact hd (0+m-1-j) (0+m-1-i) (by omega) (by omega)
 refine wu (y0 (λr ⟨a,b,c,_⟩=>?_) (mW hp.rev h0 (f:=n-m) (m:=m) h1 (by omega) hu));exact⟨hp.rev,by show 1<=r;omega,by show r<=n;omega,c⟩
def V2(h0:0<n)(hp:Pm n p)(h1:1<=m)(hm:m+1<=n)(he:∀k,k<m->kk key p k=kk key p (m-1))(hl:O.klt (kk key p m) (kk key p (m-1))):Kq (·<n) (ans key) (kas_descPart m n p) (FV key n):=by
 have hs:=hp.size;have hf:Br key n p (m+1) 0:=⟨hp,λi j hij hj=>by
  by_cases c:j=m
  .subst c;by_cases c2:i=j
   .subst c2;exact O.irrefl _
   .rw[he i (by omega)];exact a2m hl
  .rw[he i (by omega),he j (by omega)];exact O.irrefl _,by omega,by omega,λk k1 k2=>by rw[show k=m+1-1 by omega]⟩
 refine wu (y0 (λr ⟨a,b,c⟩=>?_) (di h0 (f:=n-(m+1)) (m:=m+1) (q:=0) (p:=p) (by omega) hf));have cm:=c.qm;by_cases hq:r.2.2>0
 .rw[if_pos hq];exact fq h0 c.pm.rev (by omega) c.le λi j hij hj=>by rw[c.alike,c.alike];exact c.dn i j hij hj
 .rw[if_neg hq];exact fq h0 c.pm (by omega) c.le c.dn
def rF(h0:0<n)(hp:Pm n p):Kq (·<n) (ans key) (kas_count n p) (FV key n):=by
 have hs:=hp.size;refine wu (y0 (λm ⟨a,b,c,d⟩=>?_) (mW (key:=key) hp h0 (f:=n-1) (m:=1) (M7 _) (by omega) λi j hij hj=>by rw[show i=j by omega];exact O.irrefl _));by_cases e1:(m==n)=true
 .rw[if_pos e1];exact⟨hp,a,by show m<=n;omega,c⟩
 .rw[if_neg e1];have hmn:m<n:=by have:m≠n:=λq=>e1 (by rw[q];exact a0Z _);omega
  have hl:=d (by omega);by_cases e2:m>1
  .rw[if_pos e2];refine⟨hp.lt h0 _,hp.lt h0 _,?_⟩;show Kq _ _ (if O.blt (kk key p 0) (kk key p (m-1))=true then _ else _) _;cases hc:O.blt (kk key p 0) (kk key p (m-1))with
   |true=>exact⟨hp,a,by show m<=n;omega,c⟩
   |false=>
    have e:kk key p 0=kk key p (m-1):=O.total _ _ hc (c 0 (m-1) (by omega) (by omega));have al:∀k,k<m->kk key p k=kk key p (m-1):=λk hk=>O.total _ _ (by rw[<- e];exact c 0 k (by omega) hk) (c k (m-1) (by omega) (by omega));have rv:∀k,kk key (kas_rev p 0 m) k=kk key p k:=λk=>by
     unfold kk;rw[UC (by omega)];split
     .rename_i z;exact(al (0+m-1-k) (by omega)).trans (al k z.2).symm
     .rfl
    exact V2 h0 hp.rev a hmn (λk hk=>by rw[rv,rv];exact al k hk) (by rw[rv,rv];exact hl)
  .rw[if_neg e2];exact V2 h0 hp a hmn (λk hk=>by rw[show k=m-1 by omega]) hl
def UD{p:Iw}(hp:Pm n p)(h0:0<n){k:Nat}(hu:Up key p k):∀{f l r:Nat},l<=r->r<=k->r-l<=f->(∀i,i<l->O.kle (kk key p i) (kk key p k))->(∀i,r<=i->i<k->O.klt (kk key p k) (kk key p i))->
  Kq (·<n) (ans key) (kas_place p k f l r) λl=>l<=k/\(∀i,i<l->O.kle (kk key p i) (kk key p k))/\∀i,l<=i->i<k->O.klt (kk key p k) (kk key p i)
 |0,l,r,lr,rk,hf,h1,h2=>⟨by omega,h1,λi hi=>h2 i (by omega)⟩
 |f+1,l,r,lr,rk,hf,h1,h2=>by
  show Kq _ _ (if l ≥ r then KasT.ret l else _) _;by_cases c:l ≥ r
  .rw[if_pos c];exact⟨by omega,h1,λi hi=>h2 i (by omega)⟩
  .rw[if_neg c];refine⟨hp.lt h0 _,hp.lt h0 _,?_⟩;show Kq _ _ (if O.blt (kk key p k) (kk key p ((l+r) / 2))=true then _ else _) _;cases hc:O.blt (kk key p k) (kk key p ((l+r) / 2))with
   |true=>exact UD hp h0 hu (f:=f) (l:=l) (r:=(l+r) / 2) (by omega) (by omega) (by omega) h1 λi i1 i2=>KeyOrd.klt_of_klt_of_kle hc (hu _ _ i1 i2)
   |false=>exact UD hp h0 hu (f:=f) (l:=(l+r) / 2+1) (r:=r) (by omega) rk (by omega) (λi hi=>a2l (hu i ((l+r) / 2) (by omega) (by omega)) hc) h2
def uf(h0:0<n):∀{f k:Nat}{p:Iw},Pm n p->k+f<=n->Up key p k->Kq (·<n) (ans key) (kas_bin f p k) λp'=>Pm n p'/\Up key p' (k+f)
 |0,k,p,hp,_,hu=>⟨hp,hu⟩
 |f+1,k,p,hp,hk,hu=>by
  have hs:=hp.size;refine wu (y0 (λl ⟨a,b,c⟩=>?_) (UD hp h0 hu (f:=k) (l:=0) (r:=k) (T5 _) (M7 _) (by omega) (λi hi=>absurd hi (a0R _)) λi i1 i2=>absurd i2 (by omega)));refine y0 (λp' ⟨x,y⟩=>⟨x,by rw[show k+(f+1)=k+1+f by omega];exact y⟩) (uf h0 (f:=f) (k:=k+1) hp.bub (by omega) λi j hij hj=>?_);unfold kk;rw[Xt (by omega) a,Xt (by omega) a];by_cases i1:i=l
  .rw[if_pos i1];by_cases j1:j=l
   .rw[if_pos j1];exact O.irrefl _
   .rw[if_neg j1,if_pos ⟨by omega,by omega⟩];exact a2m (c (j-1) (by omega) (by omega))
  .rw[if_neg i1];by_cases j1:j=l
   .rw[if_pos j1,if_neg (by omega)];exact b i (by omega)
   .rw[if_neg j1];by_cases i2:l<i/\i<=k
    .rw[if_pos i2,if_pos ⟨by omega,by omega⟩];exact hu (i-1) (j-1) (by omega) (by omega)
    .rw[if_neg i2];by_cases j2:l<j/\j<=k
     .rw[if_pos j2];exact hu i (j-1) (by omega) (by omega)
     .rw[if_neg j2];exact hu i j hij (by omega)
def mX(h0:0<n):Kq (·<n) (ans key) (kas_sort n) λp=>Pm n p/\Up key p n:=by
 refine wu (y0 (λr ⟨a,b,c,d⟩=>?_) (rF (key:=key) h0 (p:=List.toArray (List.range n)) ⟨List.Perm.refl _,by simp⟩));by_cases h:r.1<n
 .rw[if_pos h,show max r.1 1=r.1 by omega];refine y0 (λp ⟨x,y⟩=>⟨x,by rw[show n=r.1+(n-r.1) by omega];exact y⟩) (uf h0 (f:=n-r.1) (k:=r.1) a (by omega) d)
 .rw[if_neg h];exact⟨a,by rw[show n=r.1 by omega];exact d⟩
end
end L2
namespace L2
open PySem PySem.Spec PyProof.Rows PySem.W
section
variable {prog:HQ}{w:H_}{A:Ia}{E:Hw}{s:Hy}
end
section
variable {X:Cx}{pins:Hu}{σ:St}{H:Hp}{s:Hy}{h':Heap}
def Inv.FW(I:Inv X pins σ H s)(k:∀b o,b≠it->s.heap.get? b=some o->h'.get? b=some o)(hn:H it=none)(hL:it≠X.env.locals)
  (h1:it∈X.ex\/X.s₀.heap.objs.size<=it) (h2:∀x c,X.env.cells.lookup x=some c->c≠it) (h3:∀p∈X.pn++pins,p.1≠it) (new:yM X.prog X.w (upd H it o) h' it o):Inv X pins σ (upd H it o) { s with heap:=h',toks:=t' }:=by
 have nit:∀b u,H b=some u->b≠it:=λb u e z=>by rw[z,hn]at e;cases e
 have nc:∀b,b∉[it]->b≠it:=λb hc z=>hc (by simp[z]);refine I.step (g':=s.gens) (d':=s.drawn) (ch:=[it]) (λb hb=>?_) (λb o _ _ hc e _=>k b o (nc b hc) e) (λb o _ _ hc e _=>⟨o.slots,k b o (nc b hc) e⟩) (λb _ hc _ n=>by rw[zg (nc b hc)];exact n)
  (λb o hc e=>⟨o,k b o (nc b hc) e⟩) (λb xs e=>by rw[zg (nit b _ e)];exact e) (λb _ _ e=>by rw[zg (nit b _ e)];exact e) (λb ps e=>⟨#[],by rw[zg (nit b _ e),e];simp⟩) (λm hm=>?_) (λb u e=>?_) I.bare
 .have e:b=it:=by simpa using hb
  subst e;exact⟨h1,hL,h2,h3⟩
 .obtain⟨o,es,ep,ho,r⟩:=hm;exact⟨o,es,ep,k _ o (Ne.symm hL) ho,r⟩
 .by_cases hb:b=it
  .subst hb;rw[zd]at e;cases e;exact new
  .rw[zg hb]at e;refine(I.hok b u e).h_ (λc v hc q=>k c v ?_ q) (λc q=>by rw[zg (nit c _ q)];exact q) λc xs q=>by rw[zg (nit c _ q)];exact q
   rcases hc with z|z
   .rw[z];exact nit b u e
   .exact nit c _ z
structure rG(X:Cx)(pins:Hu)(a:Addr):Prop where
 loc:a≠X.env.locals
 fs:a∉X.fs
 ex:a∈X.ex\/X.s₀.heap.objs.size<=a
 cel:∀x c,X.env.cells.lookup x=some c->c≠a
 pin:∀p∈X.pn++pins,p.1≠a
def Inv.Gv{H':Hp}(I:Inv X pins σ H s)(hb:s.heap.objs.size<=b):rG X pins b:=by have:=I.Bh (H':=λ_=>none) hb rfl;exact⟨this.2.1,this.2.2.1,this.2.2.2.1,this.2.2.2.2.1,this.2.2.2.2.2⟩
def Inv.EL(I:Inv X pins σ H s)(w:rG X pins a)(hn:H a=none)(ho:s.heap.get? a=some o)(hc:∀v,o.data≠.cell v):Inv X (pins++[(a,o)]) σ H s:=
 I.JK λp hp=>(a0b.mp hp).elim (λz=>I.pin p (N9 _ z)) λz=>by rw[T0.mp z];exact⟨ho,hn,w.loc,w.fs,hc⟩
def Inv.at1(I:Inv X (pins++[(a,o)]) σ H s):s.heap.get? a=some o/\H a=none:=by have:=I.pin (a,o) (N9 _ (N9 _ M3));exact⟨this.1,this.2.1⟩
end
def mY(sp:Sp):List V->List V->Hp->(List V->Hp->Prop)->Prop
 |[],acc,H,Q=>Q acc H
 |v::vs,acc,H,Q=>sp [v] H (λz H'=>mY sp vs (acc++[z]) H' Q) (λ_ _ _=>False)
section
variable {X:Cx}{k:Nat}{f:Addr}{fd:Ib}{ps:Hx}{sp:Sp}
end
section
variable {X:Cx}{k:Nat}{f:Addr}{sp:Sp}
def Vals.getD(r:Vals ys its)(i:Nat):RelV (ys.getD i .non) (its.getD i .none):=by
 induction r generalizing i with
 |nil=>exact rfl
 |cons r rs ih=>
  cases i with
  |zero=>exact r
  |succ i=>exact ih i
def UE{ys:HF}{its:HB}(r:Vals ys its):∀q:List Nat,Vals (q.map λi=>ys.getD i .non) (q.map λi=>its.getD i .none)
 |[]=>.nil
 |i::q=>.cons (r.getD i) (UE r q)
end
section
variable {X:Cx}{k:Nat}{f:Addr}{fd:Ib}{ps:Hx}{sp:Sp}
def bq{pins:Hu}{σ:St}{A:Ia}{E:Hw}{kS D:Addr}{e e1:Nat}{H:Hp}{s:Hy}{us outU:HB}{outV:HF}{st:SortSt}{Q:VK}{P:PySem.Fin->Shared->Prop}
  (w1:rG X pins D) (w2:rG X (pins++[(D,seqObj "list" #[] e1)]) kS) (hu:us.length<64) (ho:outU.length<64) (ro:Vals outV outU) (hout:(arrOf st).map (·.2)=List.toArray outU) (hf:failedOf st=none)
  (I:Inv X (pins++[(D,seqObj "list" #[] e1)]++[(kS,seqObj "list" us.toArray e)]) σ H s) (hq:Q (.ref D) (upd H D (.lst outV))) (hP:∀s',EP X pins σ Q (.ref D) s'->P (.done (.ret .none)) s'):wpAny (IP X) A (ksk_tail D false e1 (.ref kS) st) P E s:=by
 have aK:=I.at1;have J1:Inv X (pins++[(D,seqObj "list" #[] e1)]) σ H s:=I.jN;have hne:kS≠D:=λz=>w2.pin (D,seqObj "list" #[] e1) (N9 _ (N9 _ M3)) z.symm;have J2:Inv X (pins++[(D,seqObj "list" #[] e1)]) σ H { s with heap:=s.heap.update kS (Obj.mapSeq λ_=>(#[]:Array Value)),toks:=s.toks }:=J1.turned (λb o hb ho=>(P6 s.heap _ (Ne.symm hb)).trans ho) aK.2 w2.loc w2.ex w2.cel w2.pin;have aD:=J2.at1;unfold ksk_tail
 try dsimp only
 rw[hout];refine f8 (a1Z aK.1 rfl ?_ (by rw[O3,a0c];omega) (T5 _));refine f8 (wpAny_letGo ?_);refine f8 (seqEpoch_at aD.1 rfl ?_);refine f8 (a1Z aD.1 rfl ?_ (T5 _) (by simp only[Bool.false_eq_true,if_false,List.size_toArray];rw[a0c];omega));rw[hf];simp only[bne_self_eq_false,Bool.false_eq_true,if_false];refine M8 (hP _ ?_);have e2:=get?_update_seq aD.1 λ_=>List.toArray outU;have hl:=ro.length;have J4:Inv X pins σ (upd H D (.lst outV)) { s with heap:=(s.heap.update kS (Obj.mapSeq λ_=>(#[]:Array Value))).update D (Obj.mapSeq λ_=>List.toArray outU),toks:=s.toks }:=Inv.FW (s:={ s with heap:=s.heap.update kS (Obj.mapSeq λ_=>(#[]:Array Value)),toks:=s.toks }) J2.jN (λb o hb ho=>(P6 _ _ (Ne.symm hb)).trans ho) aD.2 w1.loc w1.ex w1.cel w1.pin (o:=.lst outV) ⟨by rw[a0c];omega,outU,_,ro,e2⟩;exact⟨.ref D,_,J4,rfl,hq⟩
end
section
variable {X:Cx}{k:Nat}{f:Addr}{sp:Sp}
end
def zX.mZ{W:RC}{M:Hz}{H:Hp}{xs:HW}{vs:HF}(h:zX W M H xs vs):∀q:List Nat,zX W M H (q.map λi=>xs.getD i .n) (q.map λi=>vs.getD i .non)
 |[]=>rfl
 |i::q=>by
  refine⟨_,_,rfl,?_,h.mZ q⟩;show Rep W M H (xs.getD i .n) (vs.getD i .non);simp only[List.getD_eq_getElem?_getD];cases hx:xs[i]? with
  |some x=>obtain⟨v,e,r⟩:=h.get hx;rw[e];exact r
  |none=>
   cases hv:vs[i]? with
   |none=>exact rfl
   |some v=>obtain⟨x,e,_⟩:=h.Bm hv;rw[hx]at e;cases e
section
variable {X:Cx}{C:LC}{S:Ht}{e:HJ}{wk:Bool}{ws:HI}{ms:MA}{p p2 pos kpos:Pos}{fn:Str}{k:Nat}{f:Addr}{fd:Ib}{ps:Hx}{g:HP}{sp:Sp}{t:TA}
end
section
variable {X:Cx}{W:RC}{E:XK}{o e:HJ}{m1 m2:HME}{pos pos':Pos}{fn:Str}
end
section
variable {X:Cx}{W:RC}{E:XK}{e:HJ}{es:HD}{ms:HMA}{g:List HV->AH->HX HV}{k n:Nat}{f:Addr}{fd:Ib}{ps:Hx}{x:Str}{p pos:Pos}
end
section
variable {X:Cx}{C:LC}{S:Ht}{o f:HJ}{es:HD}{ws:HI}{w1 w2:Bool}{m1 m2:ME}{ms:MA}{wA vq p:Pos}{x1:Nat}
end
section
open PySem.SeqAt
open PySem.AutoSeq1 (wpAny_loadPart')
open PySem.MeetsSeq PySem.MeetsSeq2 PySem.MeetsSeq3
end
section
variable {X:Cx}
end
section
variable {X:Cx}{C:LC}{S:Ht}{o f:HJ}{es:HD}{ws:HI}{w1 w2:Bool}{m1 m2:ME}{ms:MA}{wA vq p:Pos}{x1:Nat}
end
end L2
namespace L2
open PySem PySem.Spec PyProof.Rows PySem.W
section
variable {X:Cx}{W:RC}{E:XK}{o a e:HJ}{m m1 m2:HME}{pos tpos:Pos}
end
section
variable {Z:HC}{E:XK}{A A':HK}{H H':Hp}{G G':AH}{σ σ':St}{ρ ρ':wJ}{es:HL}{k n:Nat}{D:Ends}{kvs:List (Key×HV)}{o:Obj}
end
section
variable {X:Cx}{W:RC}{E:XK}{tg y9:HJ}{body:Ij}{mg:HMG}{mb:HMS}{pos:Pos}{i:Nat}
end
section
variable {X:Cx}{pins:Hu}{σ:St}{H:Hp}{s:Hy}{a b:Addr}{kvs more:HL}{A:Ia}{E:Hw}
end
section
variable {X:Cx}{C:LC}{S Sb Sc:Ht}{o e:HJ}{m:ME}{w:Bool}{pos p:Pos}
end
section
variable {X:Cx}{o:HJ}{to:TE}{p pos vq wA:Pos}
end
section
variable {X:Cx}{C:LC}{S:Ht}{w:Bool}{o:HJ}{m:ME}{p pos vq wA:Pos}
end
section
variable {X:Cx}{W:RC}{E:XK}{tg a0 b0:HJ}{body:Ij}{mg:HMG}{mb:HMS}{pos ipos:Pos}{i:Nat}{n:Int}
end
section
variable {prog:HQ}{w:H_}{A:Ia}{E:Hw}{s:Hy}
end
section
variable {X:Cx}{pins:Hu}{σ:St}{H:Hp}{s:Hy}{W:RC}
end
section
variable {X:Cx}{C:LC}{S:Ht}{e a b:HJ}{m m1 m2:ME}{pos:Pos}
end
section
variable {X:Cx}{o:HJ}{to:TE}{p pos vq wA:Pos}
end
section
variable {X:Cx}{C:LC}{S:Ht}{w:Bool}{o:HJ}{m:ME}{p pos vq wA:Pos}
end
section
variable {prog:HQ}{w:H_}{A:Ia}{R:Result->Shared->Prop}{I S:Addr}{fp wr:Iu}{n:Nat}{P:Nat->Value->Prop}{St:Nat->Heap->Prop}{d:Value}
end
section
variable {X:Cx}{C:LC}{S:Ht}{e:HJ}{ws:HI}{ms:MA}{p pos kpos pk:Pos}{jk:Nat}{n:Int}{t:TA}
end
section
variable {X:Cx}{C:LC}{S:Ht}{mi:MI}{mg:MG}{mc:MT}{me:ME}
end
section
variable {X:Cx}{W:RC}{E:XK}
variable {fr':Bool}{S:Ht}{y9 tg elt:HJ}{ifs:HD}{me:ME}{mc:MT}{mg:MG}{mi:MI}{pos b_ py:Pos}{i j:Nat}{scope:Scope}{y:Str}
end
section
variable {X:Cx}
end
section
variable {X:Cx}{W:RC}{E:XK}{o e f:HJ}{m1 m2:HME}{ma:HMA}{vq p pos:Pos}
end
section
variable {X:Cx}{C:LC}{S:Ht}{w:Bool}{e:HJ}{lo hi:IF}{m:ME}{ml mh:MO}{p2 pos:Pos}
end
section
variable {X:Cx}{pins:Hu}{σ:St}{H:Hp}{s:Hy}{h':Heap}{ch:Iu}{T:Addr}{o:HO}{t':Nat}
end
section
variable {P:HQ}{w:H_}{K:Ih}{elts:HD}{kk:Nat}{tp:Pos}
end
section
variable {X:Cx}{C:LC}{S:Ht}{elts:HD}{kk:Nat}{tp p pos:Pos}{e a b:HJ}{m:ME}{ms:MA}{cc:Bool}
end
section
variable {X:Cx}{C:LC}{S:Ht}{o e f:HJ}{w1 w2:Bool}{m1 m2 m3:ME}{wA vq:Pos}
end
section
variable {X:Cx}{C:LC}{S:Ht}{elts:HD}{kk:Nat}{tp p pos:Pos}{a b:HJ}{m1 m2:ME}
end
section
variable {X:Cx}{W:RC}{E:XK}{e:HJ}{es:HD}{pos p:Pos}{ms:HMA}{x:Str}{k:Nat}{f:Addr}{fd:Ib}{ps:Hx}{g:HP}{ws:HI}
end
section
variable {X:Cx}{W:RC}{E:XK}{a b:HJ}{rest:HD}{pos:Pos}{m1 m2:HME}
end
def LFr.le(h:LFr C S te m):LE C S false te m:=λB P H σ ρ R Q q=>h B P H σ ρ R Q (ZV q λx v H2 s hr=>RV.of (hr.rep R.new))
section
variable {X:Cx}{W:RC}{E:XK}{fr' fr:Bool}{S:Ht}{y9 tg elt:HJ}{ifs:HD}{m me:ME}{mc:MT}{mg:MG}{mi:MI}{pos b_ py:Pos}{i j:Nat}{scope:Scope}{y:Str}
def Gw(bs:HI)(a2:LE ⟨W,E,fr⟩ S false te m)(hS:S.all (·==0)=true:=by rfl):∀(Z:HC),Z.W=W->∀A H σ ρ G,HR Z A H σ ρ G->∀Q,HPx Z E A G.length H (KV' Z Q) (hP bs m ρ G)->te σ H Q:=λZ hZ A H σ ρ G R Q q=>by
 subst hZ;unfold hP at q;split at q
 .rename_i r hr;refine a2 _ _ H σ r (p6 R hr hS) Q ?_;revert q;cases m r with
  |ok x=>exact λq v H2 s rx=>q A H2 (R.toHH.keep s) (Gro.same s) v (rx.rep.sub λa m _=>p_ R.toHH a m)
  |exc c fs=>exact λq=>Uv R.toHH q λH2 es h=>h.sub λa m _=>m.elim id λn=>R.toHH.new a n
  |wall=>exact id
 .split at q
  .rename_i r hr;refine a2 _ _ H σ r (p7 R hr hS) Q ?_;revert q;cases m r with
   |ok x=>
    intro q v H2 s rx;dsimp only at q;split at q
    .rename_i hi;exact q A H2 (R.toHH.keep s) (Gro.same s) v (JT hi rx.rep)
    .exact q.elim
   |exc c fs=>
    intro q;dsimp only at q;split at q
    .rename_i hi;exact Uv R.toHH q λH2 es h=>wK hi h
    .exact q.elim
   |wall=>exact id
  .exact q.elim
def ug(bs:HI)(N:Hx)(fr:HU)(Si:Ht)(hN:X.N.Nodup)(hy:X.N[j]?=some y)(hl:X.env.scope.names.lookup y=some .local)(hc:X.calm=true)(hok:gx X scope N fr=true)(hi:IM X ⟨W,E,fr'⟩ S true tg y9 mi)(hg:∀z:CI,GM (cxI X scope N z) ⟨W,E0,false⟩ Si Si tg mg)(ht:∀z:CI,TsM (cxI X scope N z) ⟨W,E0,false⟩ Si ifs mc)(he:∀z:CI,EM (cxI X scope N z) ⟨W,E0,false⟩ Si false elt me)(hS:Si=inS S fr:=by rfl)(h0:S.all (·==0)=true:=by rfl)
  (hsw:swapsWith (.ListComp elt [⟨tg,y9,ifs,0⟩] scope pos) (some (.Name y py)) b_.line X.env=pure true:=by rfl) (hs:∀x,foldedSetIterable y9 X.env x=pure x:=by intro _;rfl):HS X W E (.Assign [.Name y py] (.ListComp elt [⟨tg,y9,ifs,0⟩] scope pos) b_) (wo j (hP bs (mLC mi fr mg mc me))):=λhK=>by
 obtain⟨wi,a1,a2⟩:=hi hK;obtain⟨g,b1,b2⟩:=JQ hg λ_=>hK;obtain⟨tc,c1,c2⟩:=JP ht λ_=>hK;obtain⟨te,d1,d2⟩:=JO he λ_=>hK;exact⟨_,pF N fr hN hy hl hc hok a1 (λfp pn s H L=>b1 ⟨fp,pn,s,H,L⟩) (λfp pn s H L=>c1 ⟨fp,pn,s,H,L⟩) (λfp pn s H L=>d1 ⟨fp,pn,s,H,L⟩) hsw hs,mP (Gw bs (fr:=fr') (pQ a2 rfl hS b2 c2 d2).le h0)⟩
end
section
variable {X:Cx}{C:LC}{S S' S1 S2 S3 Sb Sc:Ht}{j:Nat}{pos:Pos}{m1 m2 m3:MS}
end
def HEX(X:Cx)(W:RC)(e:HJ)(m:HME):Prop:=X.K=W.K->∃te:TEx,PEx X e te/\∀(Z:HC),Z.W=W->∀A H σ ρ G,HR Z A H σ ρ G->∀Q Zx,HPx Z Zx A G.length H (KV' Z Q) (m ρ G)->te σ H Q Zx
def HXS(X:Cx)(W:RC)(st:Ij)(m:HMS):Prop:=X.K=W.K->∃t:TSx,Cd X st t/\∀(Z:HC),Z.W=W->∀A H σ ρ G,HR Z A H σ ρ G->∀D Zx,HPs Z Zx A G.length H D (m ρ G)->t D Zx σ H
def ft(g:List HV->AH->HX HV)(ms:HMA):HME:=λρ G=>match ms ρ G with
 |.ok xs G1=>g xs G1
 |_=>.wall
section
variable {X:Cx}{W:RC}{E:XK}{e:HJ}{es:HD}{pos p pos':Pos}{ms:HMA}{m:HME}{x y:Str}{k n i j:Nat}{f:Addr}{fd:Ib}{ps:Hx}{g:List HV->AH->HX HV}{m1 m2 m3:HMS}
def Ag(F:jr X.prog X.w X.K X.mg X.base (CXe X.prog X.w) k f fd ps (hsp W n g))(hr:jO k X.A)(hg:Gl X x)(hm:X.mg x=some (.ref f))(hk:keepIn X.K (.ref f)=true)(hb:Binds X.K fd ps [])(ha:HA X.nox W E0 (e::es) ms)(hn:∀ρ G xs G',ms ρ G=.ok xs G'->xs.length=n)
  (hdb:(x==("__debug__":Str))=false:=by decide) (he:starEach (e::es) X.env=(false,eval e X.env)::starEach es X.env:=by rfl) (hpl:(backTo pos (starEach es X.env)).any (·.1)=false:=by rfl):HEX X W (.Call (.Name x p) (e::es) [] pos) (ft g ms):=λhK=>by
 obtain⟨ta,a1,a2⟩:=ha hK;refine⟨_,eE F hr hg hm hk hb a1 hdb he hpl,λZ hZ A H σ ρ G R Q Zx q=>a2 Z hZ A H σ ρ G R _ ?_⟩;unfold ft at q;revert q;cases hq:ms ρ G with
 |wall=>exact id
 |exc c fs G'=>exact λq=>q.elim
 |ok xs G'=>intro q A1 H1 h1 g1 vs rs;exact⟨Z,A1,G',xs,hZ,hn _ _ _ _ hq,h1,rs,HPx.gro (o:=g xs G') q g1⟩
def uh(hN:X.N.Nodup)(hi:X.N[i]?=some x)(hx:Loc X.env.scope x)(h:HEX X W e m)(hs:swapsWith e (some (.Name x pos')) pos.line X.env=pure false:=by rfl)(hf:X.fn x=true\/X.env.scope.names.lookup x=some .local:=by first|exact .inl rfl|exact .inr rfl|assumption):
  HXS X W [.Assign [.Name x pos'] e pos] (wo i m):=λhK=>by
 obtain⟨te,a1,a2⟩:=h hK;refine⟨_,eF (xo hN hi hx a1 hs hf),λZ hZ A H σ ρ G R D Zx q=>a2 Z hZ A H σ ρ G R _ Zx ?_⟩;exact HPs.bind (show HPs Z Zx A G.length H D ((m ρ G).fw λv G'=>.nx (ρ.set i (some v)) G')from q) λx A1 H1 G1 h1 g1 q1 v rx=>q1 A1 H1 _ ((R.gro h1 g1).set rx) Gro.refl
def rH(cs cs2:Ht)(m1:HMS)(j:Nat)(m2 m3:HMS):HMS:=λρ G=>match m1 ρ G with
 |.nx ρ' G'=>.nx ρ' G'
 |.rt x G'=>.rt x G'
 |.exc c fs G'=>if c∈cs then(match m2 (ρ.set j (some (.v (.x c fs)))) G' with
  |.rt x G2=>.rt x G2
  |_=>.wall)else if c∈cs2 then(match m3 (ρ.set j (some (.v (.x c fs)))) G' with
  |.rt x G2=>.rt x G2
  |_=>.wall)else .wall
 |_=>.wall
def Dv(cs:Ht)(m1:HMS)(j:Nat)(m2:HMS):HMS:=rH cs [] m1 j m2 λ_ _=>.wall
def Dw{body suite:Ij}{b₀:Ir}{cx n:Str}{np hp:Pos}{F:Addr}{cs:Ht}(own:Own X)(hb:HXS X W body m1)(hg:Gl X cx)(hm:X.mg cx=some (.ref F))
  (hN:X.N.Nodup) (hi:X.N[j]?=some n) (hx:Loc X.env.scope n) (hs:∀e,HSs (X.held (.ref e)) W E (b₀::suite) m2) (hcs:∀c∈cs,Catch X.K (W.cls c) F true) (hl:X.env.kindOf n=some .local:=by rfl)
  (hdb:(cx==("__debug__":Str))=false:=by decide) (hf:X.fn n=true\/X.env.scope.names.lookup n=some .local:=by first|exact .inl rfl|exact .inr rfl|assumption):
  HS X W E (.Try body [.ExceptHandler (some (.Name cx np)) (some n) (b₀::suite) hp] [] [] pos) (Dv cs m1 j m2):=λhK=>by
 obtain⟨tb,a1,a2⟩:=hb hK;have hs':=λe=>hs e hK;refine⟨_,Cg own a1 hg hm hN hi hx hl (ts:=λe=>Classical.choose (hs' e)) (λe=>(T4 (hs' e)).1) hdb hf,λZ hZ A H σ ρ G R D q=>a2 Z hZ A H σ ρ G R D _ ?_⟩;unfold Dv rH at q;revert q;cases m1 ρ G with
 |wall=>exact id
 |nx ρ' G'=>exact id
 |rt x G'=>exact id
 |bk ρ' G'=>exact λq=>q.elim
 |ct ρ' G'=>exact λq=>q.elim
 |exc c fs G'=>
  intro q A' H' e dx es h g h1 h2 h3;have q:HPs Z E A G.length H D (if c∈cs then(match m2 (ρ.set j (some (.v (.x c fs)))) G' with
   |.rt x G2=>.rt x G2
   |_=>.wall)else if c∈[]then HFw.wall else .wall):=q
  have R':=(R.gro h g).set (i:=j) (x:=.v (.x c fs)) (v:=.ref e) (show Rep Z.W _ H' (.x c fs) _ from⟨e,dx,es,rfl,h1,h2,h3⟩);subst hZ;split at q
  .rename_i hc;refine⟨e,_,dx,rfl,rfl,h1,hcs c hc,(T4 (hs' e)).2 Z rfl A' H' _ _ G' R' _ ?_⟩;split at q
   .rename_i x G2 hx;rw[hx];exact λA2 H2 v hh gg rr=>q A2 H2 v hh (g.trans gg) rr
   .exact q.elim
  .split at q<;>exact q.elim
end
section
variable {X:Cx}{W:RC}{E:XK}{a b:HJ}{pos:Pos}{m1 m2:HME}
end
section
variable {X:Cx}{W:RC}{E:XK}{e:HJ}{es:HD}{pos p:Pos}{ms:MA}{x:Str}{k:Nat}{f:Addr}{fd:Ib}{ps:Hx}{g:HP}{ws:HI}{S:Ht}{fr:Bool}
end
section
variable {X:Cx}{W:RC}{E:XK}{fr' fr:Bool}{S:Ht}{y9 tg elt:HJ}{ifs:HD}{m me:ME}{mc:MT}{mg:MG}{mi:MI}{pos b_ py:Pos}{i j:Nat}{scope:Scope}{y:Str}
end
section
variable {X:Cx}{W:RC}{e:HJ}{es:HD}{ms:HMA}{g:List HV->AH->HX HV}{k n:Nat}{f:Addr}{fd:Ib}{ps:Hx}{x:Str}{p pos:Pos}
end
def leS(a b:Str):Bool:=!ltCps b.cps.toList a.cps.toList
def QA:leS a b=true↔a.cps.toList<=b.cps.toList:=by unfold leS;rw[ltCps_eq];simp
def br(a b c:Str)(h1:leS a b=true)(h2:leS b c=true):leS a c=true:=QA.mpr (List.le_trans (QA.mp h1) (QA.mp h2))
def m6(a b:Str):(leS a b||leS b a)=true:=by
 rcases List.le_total a.cps.toList b.cps.toList with h|h
 .rw[QA.mpr h];rfl
 .rw[QA.mpr h];exact a2e _
def rJ(h1:leS a b=true)(h2:leS b a=true):a=b:=by have h:=List.le_antisymm (QA.mp h1) (QA.mp h2);obtain⟨x⟩:=a;obtain⟨y⟩:=b;exact T1 Str.mk (Array.toList_inj.mp h)
def vt(l:Hx):List Str:=l.mergeSort leS
def rK{a b:Hx}(h:a.Perm b)(ha:a.Pairwise λx y=>leS x y=true)(hb:b.Pairwise λx y=>leS x y=true):a=b:=
 List.Perm.eq_of_pairwise (λ_ _ _ _ h1 h2=>rJ h1 h2) ha hb h
def m7:(vt l).Pairwise λx y=>leS x y=true:=List.pairwise_mergeSort br m6 l
def pw_of_rising:∀{l:Hx}{p:Str},risingS p l=true->(p::l).Pairwise λx y=>leS x y=true
 |[],p,_=>List.pairwise_singleton _ _
 |x::r,p,h=>by
  unfold risingS at h;rw[a0f]at h;have ih:=pw_of_rising h.2;refine a1c.mpr ⟨λy hy=>?_,ih⟩;rcases O0.mp hy with rfl|hy
  .exact h.1
  .exact br p x y h.1 ((a1c.mp ih).1 y hy)
def pw_of_sorted(h:sortedS l=true):l.Pairwise λx y=>leS x y=true:=by
 cases l with
 |nil=>exact List.Pairwise.nil
 |cons x r=>exact pw_of_rising h
def bt(hp:l'.Perm l)(h:sortedS l'=true):l'=vt l:=rK (hp.trans (List.mergeSort_perm l leS).symm) (pw_of_sorted h) m7
def Xu:∀{ss:Hx}{its:HB},Vals (ss.map V.str) its->StrsAre its ss
 |[],_,h=>by cases h;exact .nil
 |z::ss,_,h=>by cases h with|cons r t=>obtain⟨k,rfl⟩:=r;exact .cons z k (Xu t)
def UG:∀{ss:Hx}{its:HB},StrsAre its ss->Vals (ss.map V.str) its
 |_,_,.nil=>.nil
 |_,_,.cons z t h=>.cons ⟨t,rfl⟩ (UG h)
def m8(K:Ih):List V->Hp->VK->Prop:=λvs H Q=>∃p ss,vs=[.ref p]/\SqL K H p (ss.map V.str)/\ss.length<64/\∀l,H l=none->Q (.ref l) (upd H l (.lst ((vt ss).map V.str)))
def Xv:j0 X (.builtin "sorted") (m8 X.K):=by
 intro pins s σ H xs us Q I r h;obtain⟨p,ss,rfl,hq,h64,q⟩:=h;obtain⟨u,rfl,rx⟩:=vals1 r;cases rx;obtain⟨its,rv,pl,hz⟩:=I.list hq;have hS:=Xu rv;have hlen:its.length=ss.length:=by rw[<- rv.length,v0]
 refine sorted_strs pl.isList hS (by rw[hlen];exact h64) λout ss' a1 a2 a3=>?_;obtain⟨e,he⟩:=sortedAll_at s.heap its out;have e2:=bt a2 a3;subst e2;exact⟨.ref _,_,I.laid (t':=s.toks) (λ_ _=>sortedAll_old) (a0I _) (show yM X.prog X.w _ _ _ (.lst ((vt ss).map V.str))from⟨by rw[v0,a2.length_eq];rw[v0]at hz;exact hz,out.toList,e,UG a1,by rw[a1F];exact he⟩),rfl,q _ (I.hok.fresh (a0I _))⟩
def V3:List PV->Out PV
 |[.l xs]=>match Ab xs with
  |some ss=>if ss.length<64 then .ok (.l ((vt ss).map .s))else .wall
  |none=>.wall
 |_=>.wall
def UH{W:RC}{M:Hz}{H:Hp}:∀{ss:Hx},zX W M H (ss.map PV.s) (ss.map V.str)
 |[]=>rfl
 |_::_=>⟨_,_,rfl,rfl,UH⟩
def fu:LfF W (m8 W.K) V3:=λM C B H xs vs Q n h q=>by
 unfold V3 at q;split at q
 .split at q
  .rename_i ss hs;split at q
   .rename_i h64;obtain⟨v,r,rfl,⟨p,us,rfl,_,hl,rr⟩,hr⟩:=h;cases(show _=_ from hr);rw[Ac rr hs]at hl;exact⟨p,ss,rfl,SqL.of hl,h64,λl hl=>q _ _ (zy.upd hl) (Km UH hl)⟩
   .exact q.elim
  .exact q.elim
 .exact q.elim
def fv{id:String}{r:List V->Hp->VK->Prop}{g:HP}(hc:X.K=C.W.K->j0 X (.builtin id) r)(L:LfF C.W r g)(hg:Gl X x)(hm:X.mg x=none)(hv:bootBuiltins x=some (.builtin id))(ha:AM X C S ws (e::es) ms)(hn:x≠"__name__":=by decide)(hdb:(x==("__debug__":Str))=false:=by decide)
  (he:starEach (e::es) X.env=(false,eval e X.env)::starEach es X.env:=by rfl) (hpl:(backTo pos (starEach es X.env)).any (·.1)=false:=by rfl):FM X C S (.Call (.Name x p) (e::es) [] pos) (zh g ms):=λhK=>by
 obtain⟨ta,a1,a2⟩:=ha hK;exact⟨_,X5 (hc hK) hg hm hv a1 hn hdb he hpl,CK L a2⟩
def rL(hg:Gl X "sorted")(hm:X.mg "sorted"=none)(ha:AM X C S ws [e] ms)(he:starEach [e] X.env=[(false,eval e X.env)]:=by rfl):FM X C S (.Call (.Name "sorted" p) [e] [] pos) (zh V3 ms):=
 fv (λhK=>hK▸Xv) fu hg hm a3a ha (he:=he)
def V4(hr:aO k A):A.units+1<cLine:=a0i (a2T (by decide:1<=64) _) hr.units
section
variable {X:Cx}{W:RC}{E:XK}{e:HJ}{ms:HMA}{p pos:Pos}
end
section
variable {X:Cx}{W:RC}{E:XK}{o:HJ}{m:HME}{pos vq:Pos}{mn:Str}
end
section
variable {prog:HQ}{w:H_}{A:Ia}{it t:Addr}{items:Im}{i:Nat}{x:Value}
end
section
variable {prog:HQ}{w:H_}{A:Ia}{z TI TO i1 i2 l1 l2:Addr}{x y a b:Value}{B1 N1 B2 N2:Heap->Prop}
end
section
variable {prog:HQ}{w:H_}{A:Ia}{z TI TO i1 i2 l1 l2:Addr}{xs ys:Im}{x y a b:Value}{i:Nat}{s:Hy}{Q:Option Value->Shared->Prop}{E:Hw}
end
section
variable {prog:HQ}{w:H_}{A:Ia}{E:Hw}{s:Hy}{l1 l2:Addr}{xs ys:Im}{Q:Hw}
end
section
variable {P:HQ}{w:H_}{K:Ih}{elts:HD}{kk:Nat}{tp:Pos}
end
section
variable {X:Cx}{C:LC}{S:Ht}{elts:HD}{kk:Nat}{tp p pos:Pos}{a b:HJ}{ms:MA}{cc:Bool}
end
section
variable {X:Cx}{C:LC}{S:Ht}{y9 tg elt:HJ}{ifs:HD}{me:ME}{mc:MT}{mg:MG}{pos vq wA:Pos}{i:Nat}{scope:Scope}
end
section
variable {prog:HQ}{w:H_}{A:Ia}{E:Hw}{s:Hy}{K:Type}[DecidableEq K] {knd:PySem.KeyKind prog w K}
def Kr{Q:List Value->Shared->Prop}{d:Addr}{kvs:List (K×Value)}{ep:Nat}(hh:A.handled=none)(hd:(d==sysModules)=false)(hm:s.heap.DictAt knd d kvs ep)(hn:kvs.length<=sizeLine)
  (hQ:∀h' tk acc',(∀b o,s.heap.get? b=some o->h'.get? b=some o)->s.heap.objs.size<=h'.objs.size->ItemsOf (λi v=>∃k x,kvs[i]?=some (k,x)/\knd.is k v=true) acc' kvs.length->Q acc'.toList { s with heap:=h',toks:=tk }):
  wpAny (model prog w) A (collect (.ref d)) Q E s:=by
 have l1:d<s.heap.objs.size:=by obtain⟨o,_,ho,_⟩:=hm;exact M9 ho
 unfold collect;refine f8 (wpAny_runValue (a1E PySem.F.entry_proto_collect ?_));rw[a00 PySem.F.plain_proto_collect _];show wpAny _ A.in1 (newList [] >>= λl=>again (.builtin "list.__iadd__" ⟨[l,.ref d],[]⟩)) _ _ s;refine f8 (a0U ?_);refine M8 ⟨a1o a2u _,a1E PySem.F.entry_list_iadd ?_⟩;rw[a00 a2u _];have hS₂:(s.heap.push { cls:=.type "list",data:=.seq ([]:List Value).toArray }).get? s.heap.objs.size=some { cls:=.type "list",data:=.seq ([]:List Value).toArray }:=O5 _ rfl;have kp:∀b o,s.heap.get? b=some o->(s.heap.push { cls:=.type "list",data:=.seq ([]:List Value).toArray }).get? b=some o:=λb o e=>L6 _ e;show wpAny _ A.in1 (Builtin.List.listExtendWith (.ref s.heap.objs.size) (.ref d) (.ref s.heap.objs.size)) _ _ _;generalize(s.heap.push { cls:=.type "list",data:=.seq ([]:List Value).toArray })=h2 at hS₂ kp;have hm2:h2.DictAt knd d kvs ep:=hm.at' λo e=>kp _ _ e;have hT2:∀{s':Hy},s'.heap.DictAt knd d kvs ep->s'.TypeIs (.ref d) "dict":=λz=>z.dictOf.typeIs;unfold Builtin.List.listExtendWith;refine f8 (a0W (T:="dict") (hT2 hm2) ?_);have hne1:s.heap.objs.size≠d:=a0a l1;have h1:Builtin.List.listSameRef (.ref s.heap.objs.size) (.ref d)=false:=by simp[Builtin.List.listSameRef,hne1]
 rw[if_neg (by rw[h1];decide)];refine f8 (a13 hd hm2 ?_);have kp2:∀b o,h2.get? b=some o->(h2.push { cls:=.type "dict_keyiterator",data:=.fields #[.ref d,.int 0 0,.int kvs.length 0,.int ep 0] }).get? b=some o:=λb o e=>L6 _ e;have hm3:(h2.push { cls:=.type "dict_keyiterator",data:=.fields #[.ref d,.int 0 0,.int kvs.length 0,.int ep 0] }).DictAt knd d kvs ep:=hm2.at' λo e=>kp2 _ _ e;refine f8 (T2 (mK (hT2 hm3) ?_));rw[if_pos (by decide)];refine f8 (a17 ?_);unfold Builtin.List.listTouch Builtin.List.listUpdate;have s2:s.heap.objs.size<h2.objs.size:=M9 hS₂;have dn:d≠h2.objs.size:=N8 (a0V l1 s2);have hS3:=kp2 _ _ hS₂;have it3:(h2.push { cls:=.type "dict_keyiterator",data:=.fields #[.ref d,.int 0 0,.int kvs.length 0,.int ep 0] }).get? h2.objs.size=some { cls:=.type "dict_keyiterator",data:=.fields #[.ref d,.int 0 0,.int kvs.length 0,.int ep 0] }:=O5 _ rfl;have kq:∀b o,s.heap.get? b=some o->(h2.push { cls:=.type "dict_keyiterator",data:=.fields #[.ref d,.int 0 0,.int kvs.length 0,.int ep 0] }).get? b=some o:=λb o e=>kp2 _ _ (kp b o e);generalize(h2.push { cls:=.type "dict_keyiterator",data:=.fields #[.ref d,.int 0 0,.int kvs.length 0,.int ep 0] })=h3 at hS3 it3 kq hm3;refine f8 (f8 (a07 hS3 rfl ?_));have hS4:=T8 (Obj.mapSeq (λx:Array Value=>x.push Value.none)) hS3 rfl;refine a07 hS4 rfl ?_;have hS5:=T8 (Obj.mapSeq (λx:Array Value=>x.pop)) hS4 rfl;have ku:∀b o,b≠s.heap.objs.size->h3.get? b=some o->((h3.update s.heap.objs.size (Obj.mapSeq λx=>x.push Value.none)).update s.heap.objs.size (Obj.mapSeq λx=>x.pop)).get? b=some o:=λb o hb e=>
  (P6 _ _ (Ne.symm hb)).trans ((P6 _ _ (Ne.symm hb)).trans e)
 have hm5:=hm3.at' (h':=((h3.update s.heap.objs.size (Obj.mapSeq λx=>x.push Value.none)).update s.heap.objs.size (Obj.mapSeq λx=>x.pop))) λo e=>ku _ _ (Ne.symm hne1) e;have it5:=ku _ _ (a0a s2) it3;have k5:∀b o,s.heap.get? b=some o->((h3.update s.heap.objs.size (Obj.mapSeq λx=>x.push Value.none)).update s.heap.objs.size (Obj.mapSeq λx=>x.pop)).get? b=some o:=λb o e=>ku b o (N8 (M9 e)) (kq b o e);generalize((h3.update s.heap.objs.size (Obj.mapSeq λx=>x.push Value.none)).update s.heap.objs.size (Obj.mapSeq λx=>x.pop))=h5 at hS5 hm5 it5 k5;refine M8 ⟨a1o a18 _,a2N (Walks.dictKeys (knd:=knd) (A:=A.in1) hh h2.objs.size d dn kvs ep).toS hn s.heap.objs.size (by simp;exact⟨N8 s2,hne1⟩) _ kvs.length 0 _ _ _ rfl (T5 _) (show _/\_ from⟨⟨_,it5,rfl,rfl⟩,hm5⟩) hS5 (ItemsOf.nil _) λs' acc' c' hmv hS' hacc=>?_⟩;rw[a2R hmv]at hS' ⊢;show wpAny _ A (load s.heap.objs.size >>= _) _ _ _;refine f8 (a15 hS' ?_);refine M8 (hQ s'.heap s'.toks acc' (λb o e=>hmv.heap b o (λhmem=>?_) (k5 b o e)) (a0z (M9 hS')) hacc);have:=M9 e;rcases O0.mp hmem with e'|hm
 .exact N8 this e'
 .exact N8 (a0V this s2) (T0.mp hm)
def dj{Q:Hw}{d:Addr}{kvs:List (K×Value)}{ep:Nat}{vs:HB}{ss:Hx}(hh:A.handled=none)(hd:(d==sysModules)=false)(hm:s.heap.DictAt knd d kvs ep)(h64:kvs.length<64)
  (hS:∀vs:List Value,ItemsOf (λi v=>∃k x,kvs[i]?=some (k,x)/\knd.is k v=true) vs.toArray kvs.length->StrsAre vs ss)
  (h:∀(h':Heap)(tk:Nat)(out:Im)(ss':Hx)(e:Nat)(l:Addr),(∀b o,s.heap.get? b=some o->h'.get? b=some o)->s.heap.objs.size<=l->h'.get? l=some (seqObj "list" out e)->StrsAre out.toList ss'->ss'.Perm ss->sortedS ss'=true->Q (.ref l) { s with heap:=h',toks:=tk }):
  wpAny (model prog w) A (call (.builtin "sorted") [.ref d]) Q E s:=by
 refine Calls.call_function_entry kind_sorted plain_sorted entry_sorted (args_sorted1 _) ?_;unfold Builtin.«sorted»;refine f8 (m:=checkCount "sorted" 1 1 _) (M8 ?_);have hz:kvs.length<=sizeLine:=by rw[a0c];omega
 refine f8 (Kr (A:=A.in1) hh hd hm hz λh' tk acc hk hsz hi=>?_);have hSs:=hS acc.toList (by rw[a1F];exact hi);have hlen:acc.toList.length=kvs.length:=hi.1;refine f8 (a2S ?_ (by rw[hlen];exact hz));have hoL:(h'.push (seqObj "list" acc.toList.toArray 0)).get? h'.objs.size=some (seqObj "list" acc.toList.toArray 0):=O5 _ rfl;show wpAny _ _ _ _ _ { s with heap:=h'.push (seqObj "list" acc.toList.toArray 0),toks:=tk };refine f8 (T2 (wpAny_call_entry slot_list_sort ⟨_,hoL,rfl⟩ entry_list_sort (list_sort_treeK strKind_oneLt hoL hSs.keysOf (λv₁ v₂ rest e=>keyKind_strs (by rw[<- e];exact hSs)) (by rw[hlen];exact h64) λst' a1 a2=>⟨_,rfl,?_⟩) (args_list_sort _)));obtain⟨ss',b1,b2,b3⟩:=sorted_out_str hSs a1 a2;obtain⟨e,he⟩:=sortedHeap_at (out:=(arrOf st').map (·.2)) hoL;refine M8 ⟨_,rfl,h _ _ _ ss' e _ (λb o q=>?_) hsz he b1 b2 b3⟩;have hb:=M9 (hk b o q);rw[sortedHeap_old (N8 hb) (by rw[a2O];exact a1h hb)];exact L6 _ (hk b o q)
end
def ui:List V->Hp->VK->Prop:=λvs H Q=>∃p es ss,vs=[.ref p]/\Rd H p (.dK es)/\es.map (·.1)=ss.map Sum.inr/\ss.length<64/\∀l,H l=none->Q (.ref l) (upd H l (.lst ((vt ss).map V.str)))
def Xw:∀{ss:Hx}{vs:HB},vs.length=ss.length->(∀(i:Nat)(v:Value),vs[i]?=some v->∃(x:Str)(t:Tok),ss[i]?=some x/\v=Value.str x t)->StrsAre vs ss
 |[],[],_,_=>.nil
 |x::ss,v::vs,hl,h=>by obtain⟨y,t,e,rfl⟩:=h 0 v rfl;cases e;exact .cons _ t (Xw (by simpa using hl) λi v e=>h (i+1) v e)
def gQ(hc:X.calm=true):j0 X (.builtin "sorted") ui:=by
 intro pins s σ H xs us Q I r h;obtain⟨p,es,ss,rfl,hS,hk,h64,q⟩:=h;obtain⟨u,rfl,ru⟩:=vals1 r;cases ru;obtain⟨z,hd,vs,rel,o,ds,ep,e1,e2,e3,e4,e5,e6⟩:=ZS I.hok hS;have hl:vs.length=es.length:=rel.length.symm;have hls:es.length=ss.length:=by simpa using T1 List.length hk
 refine dj (knd:=yw X.prog X.w) (kvs:=vs) (ep:=ep) (vs:=[]) (ss:=ss) (I.ok.hd hc) hd ⟨o,ds,e1,e2,e3,e4,e5,e6⟩ (by omega) (λws hi=>Xw (by have:=hi.1;simp at this;omega) λi v hv=>?_) λh' tk out ss' e l hk' hl' he b1 b2 b3=>?_
 .obtain⟨k,x,f3,f4⟩:=hi.2 i v (by simpa using hv);have hi':i<es.length:=by have:=(N5.mp f3).1;omega
  obtain⟨w',hw⟩:=eZ rel (k:=es[i].1) (v:=es[i].2) (N4 hi');rw[hw]at f3;cases f3;have h1:(es.map (·.1))[i]?=some es[i].1:=by rw[O2,N4 hi'];rfl
  rw[hk,O2]at h1;obtain⟨y,hy,ey⟩:=u8.mp h1;rw[<- ey]at f4;obtain⟨t,rfl⟩:=(show ∃t:Tok,v=Value.str y t from by
   rw[JJ]at f4;rcases ye f4 with⟨i,t,e,_⟩|⟨x,t,e,rfl⟩
   .cases e
   .cases e;exact⟨t,rfl⟩)
  exact⟨y,t,hy,rfl⟩
 .have e2:=bt b2 b3;subst e2;exact⟨.ref _,_,I.laid (t':=tk) hk' hl' (show yM X.prog X.w _ _ _ (.lst ((vt ss).map V.str))from⟨by rw[v0,b2.length_eq,<- hls];exact z,out.toList,e,UG b1,by rw[a1F];exact he⟩),rfl,q _ (I.hok.fresh hl')⟩
def dk:List (Key×PV)->Option (List Str)
 |[]=>some []
 | (.inr x,_)::r=>(dk r).map (x::·)
 |_::_=>none
def fB:∀{kvs:HZ}{ss:Hx},dk kvs=some ss->kvs.map (·.1)=ss.map Sum.inr
 |[],_,h=>by cases h;rfl
 | (.inr x,y)::r,ss,h=>by unfold dk at h;obtain⟨zs,e,rfl⟩:=u8.mp h;rw[O7,O7,fB e]
 | (.inl x,y)::r,ss,h=>by cases h
def Xx:List PV->Out PV
 |[.l xs]=>V3 [.l xs]
 |[.d kvs]=>match dk kvs with
  |some ss=>if ss.length<64 then .ok (.l ((vt ss).map .s))else .wall
  |none=>.wall
 |_=>.wall
def rM:LfF W (λvs H Q=>m8 W.K vs H Q\/ui vs H Q) Xx:=λM C B H xs vs Q n h q=>by
 unfold Xx at q;split at q
 .exact .inl (fu M C B H _ vs Q n h q)
 .split at q
  .rename_i ss hs;split at q
   .rename_i h64;obtain⟨v,r,rfl,⟨p,es,rfl,_,hl,rr⟩,hr⟩:=h;cases(show _=_ from hr);exact .inr ⟨p,es,ss,rfl,hl,(qx.iff.mp rr).1.trans (fB hs),h64,λl hl=>q _ _ (zy.upd hl) (Km UH hl)⟩
   .exact q.elim
  .exact q.elim
 .exact q.elim
def rN(hc:X.calm=true)(hg:Gl X "sorted")(hm:X.mg "sorted"=none)(ha:AM X C S ws [e] ms)(he:starEach [e] X.env=[(false,eval e X.env)]:=by rfl):FM X C S (.Call (.Name "sorted" p) [e] [] pos) (zh Xx ms):=
 fv (λhK=>hK▸Xv.or (gQ hc)) rM hg hm a3a ha (he:=he)
section
variable {Z:HC}{A:HK}{H:Hp}{G:AH}
end
section
variable {X:Cx}{C:LC}{S:Ht}{e:HJ}{es:HD}{ms:MA}{g:List HV->AH->HX HV}{k n:Nat}{f:Addr}{fd:Ib}{ps:Hx}{x:Str}{p pos:Pos}{ws:HI}
end
section
variable {CX:CXT}{P:HQ}{w:H_}{K:HN}{mg:Hv}{base:Heap}{k:Nat}{f:Addr}{name qual x:Str}{params:Arguments}{body:HJ}{scope:Scope}{pm ctv:Value}{c':Addr}{oc:Obj}{ws:Im}{tq:Tok}{N:Hx}{sp:Sp}
end
section
variable {X:Cx}{pins:Hu}{σ:St}{H:Hp}{s:Hy}{h':Heap}{P:Addr}{ps more:Im}
end
def Ah{K:Ih}{H:Hp}{P l:Addr}{ps:Im}{o:HO}{ys:HF}(h:SqL K H l ys)(hP:H P=some (.tbl ps)):SqL K (upd H P o) l ys:=by
 have ne:∀u,H l=some u->(∀qs,u≠.tbl qs)->l≠P:=λu e n q=>by rw[q,hP]at e;cases e;exact n _ rfl
 rcases h with h|h
 .rcases h with h|⟨o',h⟩
  .exact .inl (.inl (by rw[zg (ne _ h λqs z=>by cases z)];exact h))
  .exact .inl (.inr ⟨o',by rw[zg (ne _ h λqs z=>by cases z)];exact h⟩)
 .exact .inr h
section
variable {X:Cx}{k:Nat}{c P:Addr}{params:Arguments}{body e:HJ}{scope:Scope}{lpos p pos kpos:Pos}{x:Str}{N:Hx}{sp:Sp}{t:TA}
end
def Ai(P:Addr)(H:Hp):Prop:=H P=some (.tbl #[])/\∀b,b=P\/H b=none\/∃o xs,H b=some (.frz o (.lst xs))
structure m9(base:Heap)(mg:Hv)(c P:Addr):Prop where
 hd:CodeHd base c P
 bl:base.BuiltinsAt mg P
 ne:mainGlobals≠P
def m_{P:HQ}{w:H_}{K:Ih}{mg mb:Hv}{CX:CXT}{k:Nat}{fa a c P₀:Addr}{fd:Ib}{x:Str}{sp:Sp}{s₁:Hy}{vs:HB}{ns:HY}
  (KX:K.In s₁.heap) (hns:s₁.heap.Ns mainGlobals mg) (hb:s₁.heap.Ns builtinsNs mb) (hbb:∀x:Str,x≠"__name__"->mb x=bootBuiltins x) (hlim:s₁.heap.NoLimit) (hg:s₁.gens = #[])
  (ha:s₁.heap.get? a=some { cls:=.type "list",data:=.seq vs.toArray }) (hi:IntsAre vs ns) (hl:ns.length<=sizeLine) (hr:jO k callerA)
  (hC:CodeHd s₁.heap c P₀) (hT:s₁.heap.get? P₀=some (tabObj #[])) (hnt:noTabs K=true) (hbm:∃bm ob,mg "__builtins__"=some (.ref bm)/\bm≠builtinsNs/\s₁.heap.get? bm=some ob/\ob.cls=.type "module"/\ob.dict=some builtinsNs/\ob.data=.plain)
  (F:∀base:Heap,K.In base->base.Ns mainGlobals mg->m9 base mg c P₀->jr P w K mg base CX k fa fd [x] sp) (hbind:∀(s:Hy)(u:Value),BindsTo s fd ⟨[u],[]⟩ [(x,u)])
  (hsp:∀H:Hp,Ai P₀ H->SqL K H a (ns.map V.int)->sp [.ref a] H (λv _=>v=.bl true) λ_ _ _=>False)
  (hCX:∀H e s',CX [] H s₁ (λ_ _ _=>False) e s'->False):
  codeAny (model P w) callerA (.call (.ref fa) ⟨[.ref a],[]⟩) (λr s'=>r=.ok (.ret (.bool true))/\OldK s₁.heap s'.heap/\s'.os=s₁.os/\AllBare s'.gens) s₁:=by
 have rv:=aH hi;have lenV:=hi.length;have aP:a≠P₀:=λq=>by rw[q,hT]at ha;cases ha
 have gP:mainGlobals≠P₀:=λq=>by obtain⟨o,es,ep,e,hd,_⟩:=hns;rw[q,hT]at e;cases e;cases hd
 have core:∀H:Hp,Ai P₀ H->SqL K H a (ns.map V.int)->HOk P w H s₁.heap->(∀b,H b≠none->b=a\/b=P₀)->(H a≠none->K.lookup a=none)->
   codeAny (model P w) callerA (.call (.ref fa) ⟨[.ref a],[]⟩) (λr s'=>r=.ok (.ret (.bool true))/\OldK s₁.heap s'.heap/\s'.os=s₁.os/\AllBare s'.gens) s₁:=by
  intro H hO hS hok hA hK;have base_of:∀{b:Addr}{o:Obj},s₁.heap.get? b=some o->H b=none->(oN s₁.heap H).get? b=some o:=λe n=>oZ e n;have noC:∀{b:Addr}{o:Obj},s₁.heap.get? b=some o->o.cls≠.type "list"->o.cls≠.none->H b=none:=λ{b o} e d1 d2=>by
   cases q:H b with
   |none=>rfl
   |some u=>
    rcases hA b (by rw[q];simp)with e'|e'
    .subst e';rw[ha]at e;cases e;exact absurd rfl d1
    .subst e';rw[hT]at e;cases e;exact absurd rfl d2
  have noA:∀{b:Addr}{o:Obj}{es:Array DictEntry}{ep:Nat},s₁.heap.get? b=some o->o.data=.dict es ep->H b=none:=λ{b o es ep} e d=>by
   cases q:H b with
   |none=>rfl
   |some u=>
    rcases hA b (by rw[q];simp)with e'|e'
    .subst e';rw[ha]at e;cases e;have d':Data.seq vs.toArray _=Data.dict es ep:=d;cases d'
    .subst e';rw[hT]at e;cases e;have d':Data.fields #[]=Data.dict es ep:=d;cases d'
  have nsK:∀{b:Addr}{m:Hv},s₁.heap.Ns b m->(oN s₁.heap H).Ns b m:=λ{b m} ⟨o,es,ep,e,d,r⟩=>⟨o,es,ep,base_of e (noA e d),d,r⟩;have hKb:K.In (oN s₁.heap H):=λb o e=>base_of (KX b o e) (by
   cases q:H b with
   |none=>rfl
   |some u=>
    rcases hA b (by rw[q];simp)with e'|e'
    .subst e';rw[hK (by rw[q];simp)]at e;cases e
    .subst e';have h1:=KX _ _ e;rw[hT]at h1;cases h1;have h2:=a0j.mp hnt _ (mem_of_lookupK e);exact absurd (show false=true from h2) M6)
  have hM:Mod K mg (oN s₁.heap H):=⟨hKb,nsK hns,⟨mb,nsK hb,hbb⟩,let⟨mc,h1,h2⟩:=hlim;⟨mc,nsK h1,h2⟩⟩;have tb:m9 (oN s₁.heap H) mg c P₀:=by
   refine⟨?_,?_,gP⟩
   .obtain⟨o,vs,file,tf,flags,tg,inF,text,tt,e,e2,r⟩:=hC;exact⟨o,vs,file,tf,flags,tg,inF,text,tt,base_of e (noC e (by rw[e2];decide) (by rw[e2];exact λz=>by cases z)),e2,r⟩
   .obtain⟨bm,ob,b1,b2,b3,b4,b5,b6⟩:=hbm;refine⟨bm,ob,b1,b2,λq=>?_,λq=>?_,base_of b3 (noC b3 (by rw[b4];decide) (by rw[b4];exact λz=>by cases z)),b4,b5,b6⟩
    .obtain⟨o,es,ep,e,hd,_⟩:=hns;rw[q,e]at b3;cases b3;rw[hd]at b6;cases b6
    .rw[q,hT]at b3;cases b3;cases b4
  have e0:ib P w K mg (oN s₁.heap H) callerA [] s₁ H:=⟨rfl,hM,λb o e=>u5 e,a2g (iu _ _),trivial,λb hb=>absurd (show b∈([]:List Addr)from hb) (by simp),hok,.of_eq hg⟩;refine a0K ((F _ hKb (nsK hns) tb).run callerA [] s₁ H ⟨[.ref a],[]⟩ [.ref a] [.ref a] _ _ hr e0 (hbind s₁ (.ref a)) (.cons rfl .nil) (hsp H hO hS)) λr s' h=>?_;cases r with
  |error e=>exact(hCX H e s' h).elim
  |ok fl=>
   cases fl with
   |next=>exact False.elim h
   |brk=>exact False.elim h
   |cont=>exact False.elim h
   |ret u=>
    obtain⟨v,H',os,bare,un,hok',r',q⟩:=h;have q':v=.bl true:=q;subst q';obtain rfl:u=Value.bool true:=r';have keep:∀b o,b≠P₀->s₁.heap.get? b=some o->s'.heap.get? b=some o:=λb o hne e=>by
     cases q:H b with
     |none=>exact un.keep b o e q (by intro z;exact absurd (show b∈([]:List Addr)from z) (by simp)) (by simp)
     |some u=>
      rcases hO.2 b with z|z|⟨ob,xs,z⟩
      .exact absurd z hne
      .rw[q]at z;cases z
      .have z2:=un.ip b ob _ z;obtain⟨e1,_⟩:=hok b _ z;obtain⟨e2,_⟩:=hok' b _ z2;rw[e]at e1;cases e1;exact e2
    obtain⟨more,hm⟩:=un.oI P₀ _ hO.1;have hP':s'.heap.get? P₀=some { cls:=.none,data:=.fields (#[]++more) }:=hok' P₀ _ hm;refine⟨rfl,⟨λb o e=>?_,λb o e=>?_⟩,os,bare⟩
    .by_cases hbP:b=P₀
     .subst hbP;rw[hT]at e;cases e;exact .inr (.inl ⟨(hC.tab hT).isCodeTable,rfl,#[],more,rfl,hP'⟩)
     .exact .inl (keep b o hbP e)
    .by_cases hbP:b=P₀
     .subst hbP;exact⟨_,hP'⟩
     .exact⟨o,keep b o hbP e⟩
 have hTo:yM P w (λb=>if b=P₀ then some (.tbl #[])else none) s₁.heap P₀ (.tbl #[]):=hT;cases hk:K.lookup a with
 |some o=>
  have e:=KX a o hk;rw[ha]at e;cases e;refine core (λb=>if b=P₀ then some (.tbl #[])else none) ⟨if_pos rfl,λb=>?_⟩ (.inr ⟨_,vs.toArray,_,hk,rfl,rfl,rfl,by rw[O3,lenV];exact hl,by simpa using rv⟩) (λb u z=>?_) (λb z=>?_) λz=>absurd (if_neg aP) z
  .by_cases hbP:b=P₀
   .exact .inl hbP
   .exact .inr (.inl (if_neg hbP))
  .by_cases hbP:b=P₀
   .have z':=(if_pos hbP).symm.trans z;cases z';subst hbP;exact hT
   .have z':=(if_neg hbP).symm.trans z;cases z'
  .by_cases hbP:b=P₀
   .exact .inr hbP
   .exact absurd (if_neg hbP) z
 |none=>
  refine core (λb=>if b=a then some (.frz { cls:=.type "list",data:=.seq vs.toArray } (.lst (ns.map V.int)))else if b=P₀ then some (.tbl #[])else none) ⟨(if_neg (Ne.symm aP)).trans (if_pos rfl),λb=>?_⟩ (.inl (.inr ⟨{ cls:=.type "list",data:=.seq vs.toArray },if_pos rfl⟩)) (λb u z=>?_) (λb z=>?_) λ_=>hk
  .by_cases hb:b=a
   .exact .inr (.inr ⟨_,_,if_pos hb⟩)
   .by_cases hbP:b=P₀
    .exact .inl hbP
    .exact .inr (.inl ((if_neg hb).trans (if_neg hbP)))
  .by_cases hb:b=a
   .have z':=(if_pos hb).symm.trans z;cases z';subst hb;exact⟨ha,by rw[v0];exact hl,vs,_,rv,ha⟩
   .have z':=(if_neg hb).symm.trans z;by_cases hbP:b=P₀
    .have z'':=(if_pos hbP).symm.trans z';cases z'';subst hbP;exact hT
    .have z'':=(if_neg hbP).symm.trans z';cases z''
  .by_cases hb:b=a
   .exact .inl hb
   .by_cases hbP:b=P₀
    .exact .inr hbP
    .exact absurd ((if_neg hb).trans (if_neg hbP)) z
def rO{l:OpenLaw}{n k:Nat}{q:HQ}{loose:Hx}{XP:(Str->Option Value)->Heap->Prop}{YP:World->Heap->Prop}{d d':DefRec}{K:Params->Frag}{CX:World->CXT}{sp:World->Addr->Sp}{x y:Str}
  (hn:l.most=some n) (hn2:n<=sizeLine) (hdf:d.params.defaults=[]) (hr:jO k callerA)
  (hY:∀(w:H_)(h:Heap),YP w h->(K w.params).In h) (hy:(recsOf q).find? (λe=>e.name==y)=some d')
  (F:∀(w:H_)(mg:Hv)(fa:Addr)(h:Heap),(K w.params).In h->h.Ns mainGlobals mg->mg d.name=some (.ref fa)->
   ∃(fd:Ib)(c P:Addr),tabIn (K w.params) y=some (c,P)/\noTabs (K w.params)=true/\(∀(s:Hy)(u:Value),BindsTo s fd ⟨[u],[]⟩ [(x,u)])/\
    ∀base:Heap,(K w.params).In base->base.Ns mainGlobals mg->m9 base mg c P->jr l.prog w (K w.params) mg base (CX w) k fa fd [x] (sp w P))
  (hsp:∀(w:H_)(P:Addr)(H:Hp)(a:Addr)(ns:HY),ns.length<=n->Ai P H->SqL (K w.params) H a (ns.map V.int)->sp w P [.ref a] H (λv _=>v=.bl true) λ_ _ _=>False)
  (hCX:∀(w:H_)(H:Hp)(s:Hy)(e:Value)(s':Hy),CX w [] H s (λ_ _ _=>False) e s'->False):
  WalkO q loose XP YP l.row.toRowW d [] (λf vs=>PySem.call f vs):=by
 refine Att.cG hn hdf λw s₀ s₁ mg mb fa o pm cd doc a vs ns G Y ho hd hcd hmg hobj hints hlen hg=>?_;have KX:=hY w _ Y;obtain⟨fd,c,P,ht,hnt,hb,hF⟩:=F w mg fa _ KX G.T.g hmg;obtain⟨hC,hT⟩:=tab_of G.T KX hy ht;exact m_ KX G.T.g G.T.b G.T.builtins G.T.nolimit hg hobj hints (O8 hlen hn2) hr hC hT hnt G.T.bmain hF hb (λH hO hS=>hsp w P H a ns hlen hO hS) λH e s'=>hCX w H s₁ e s'
def Dx{K:Ih}{x:Str}{f c P:Addr}{fd:Ib}{oc oc':Value}{od od':Iq}{sl sl':Ie}{vs:Im}(h1:nsIn K mainGlobals x=some (some (.ref f)))(h2:K.lookup f=some ⟨oc,od,.func fd,sl⟩)(h3:fd.code=.ref c)(h4:K.lookup c=some ⟨oc',od',.fields vs,sl'⟩)(h5:vs[11]?=some (.ref P)):tabIn K x=some (c,P):=by unfold tabIn;rw[h1];dsimp only;rw[h2];dsimp only;rw[h3];dsimp only;rw[h4];dsimp only;rw[h5]
def ij(n:Nat)(m:ME)(xs:HW):Out PV:=match m (xs.map some++List.replicate (n-xs.length) none)with
 |.ok y=>.ok y
 |_=>.wall
def rP(hK:X.K=W.K)(hN:N.length=n)(hn:ws.length<=n)(h:EM X ⟨W,E,false⟩ (WT ws n) false body m)(q:lsp W false ws (ij n m) vs H Q E):∃te,PE X body te/\te (start N vs) H Q:=by
 subst hN;obtain⟨M,xs,ha,q⟩:=q;obtain⟨te,t1,t2⟩:=h hK;refine⟨te,t1,t2 (ig H M) _ H _ _ (VT ha hn) _ ?_⟩;unfold ij at q;revert q;cases m (xs.map some++List.replicate (N.length-xs.length) none)with
 |exc c fs=>exact λq=>q.elim
 |wall=>exact id
 |ok y=>intro q v H' s r;refine q v H' s ?_;unfold RtV;rw[if_neg M6];exact r.rep.sub λa m _=>m.1.1
section
variable {X:Cx}{W:RC}{E:XK}{k:Nat}{c P:Addr}{params:Arguments}{body e:HJ}{scope:Scope}{lpos p pos kpos:Pos}{x:Str}{N:Hx}{ms:HMA}{g:HP}{wk:Bool}
end
section
variable {P:HQ}{w:H_}{K:Ih}{mg:Hv}{base:Heap}
def Aj{x qual:Str}{st:Ir}{f c:Addr}{fd:Ib}{N ps:Hx}{k n l:Nat}{W:RC}{ms:HMS}(F:Fun K x qual st f fd)(hcode:fd.code=.ref c)(S:zv N ps (zj st))(hW:K=W.K)(hl:ps.length=l)(hN:N.length=n)
  (h:∀(A:Ia)(outer:List Env)(s:Hy)(H:Hp)(E:XK),jO k (A.deeper (envOfC qual (zj st) s.heap.objs.size f (.ref c)))->HSs (thr (Xi (CXe P w) P w K mg base N qual (zj st) f (.ref c) A outer s H E) E) W E (kB st) ms):
  jr P w K mg base (CXe P w) (k+1) f fd ps (hsp W l (dh n ms)):=by
 subst hN hl;obtain⟨oc,od,kV,doc,pm,an,cdv,ct,osl,rfl,lk,hcd⟩:=F.ex;have e:cdv=.ref c:=hcode;subst e;refine BP lk hcd S mO λA outer s H vs Q E hr ⟨Z,A',G,xs,hZ,hl,hh,r,q⟩=>?_;obtain⟨ts,t1,t2⟩:=h A outer s H E hr hW;refine⟨ts,t1.B_ λv s h=>tN h,t2 Z hZ A' H _ _ G (fi hh r) _ ?_⟩;unfold dh at q;revert q;cases ms (xs.map some++List.replicate (N.length-xs.length) none) G with
 |exc c fs G'=>exact id
 |wall=>exact id
 |nx ρ' G'=>exact λq A2 H2 σ2 R2 g2=>q A2 H2 R2.toHH g2 .non rfl
 |rt y G'=>exact λq A2 H2 v h2 g2 rv=>q A2 H2 h2 g2 v rv
 |bk ρ' G'=>exact λq=>q.elim
 |ct ρ' G'=>exact λq=>q.elim
end
def rQ(hT:H (W.cls 1000)=some (.tbl #[]))(hS:SqL W.K H p (ns.map V.int))(h:∃G,g [.v (.sc ns)] [.y true]=.ok (.v (.b true)) G)(k:∀H',Q (.bl true) H'):hsp W 1 g [.ref p] H Q E:=by
 obtain⟨G,h⟩:=h;have np:∀{u:HO},H p=some u->(∀ps,u≠.tbl ps)->W.cls 1000≠p:=λe n z=>by rw[<- z,hT]at e;cases e;exact n _ rfl
 refine⟨⟨W,λb=>if b=W.cls 1000 then none else H b,λ_=>True⟩,λ_=>W.cls 1000,[.y true],[.v (.sc ns)],rfl,rfl,⟨λa o e=>?_,λk c e=>?_,λj k hj hk _=>?_,λk _=>if_pos rfl⟩,⟨.ref p,[],rfl,⟨p,rfl,?_⟩,rfl⟩,?_⟩
 .by_cases z:a=W.cls 1000
  .have e':=(if_pos z).symm.trans e;cases e'
  .exact(if_neg z).symm.trans e
 .cases k with
  |zero=>cases e;exact⟨rfl,#[],hT,λ_=>rfl⟩
  |succ k=>simp at e
 .have hj:j<1:=hj;have hk:k<1:=hk;omega
 .rcases hS with z|z
  .refine .inl ⟨⟨.inl trivial,λ_ _=>?_⟩,z⟩;rcases z with z|⟨o,z⟩
   .exact np z λ_=>by nofun
   .exact np z λ_=>by nofun
  .exact .inr z
 .rw[h];intro A2 H2 h2 g2 v rv;cases(show v=_ from rv);exact k H2
def ng{W:RC}{M:Hz}{A:HK}{n:Nat}{H:Hp}:∀{xs:HW}{vs:HF},zX W M H xs vs->yO W M A n H (xs.map .v) vs
 |[],_,h=>h
 |_::_,_,⟨v,r,e,h1,h2⟩=>⟨v,r,e,h1,ng h2⟩
section
variable {X:Cx}{W:RC}{E:XK}{k:Nat}{c P:Addr}{params:Arguments}{body e:HJ}{scope:Scope}{lpos p pos kpos:Pos}{x:Str}{N:Hx}{ms:HMA}{g:HP}{wk:Bool}
end
section
variable {X:Cx}{C:LC}{S:Ht}{mi:MI}{mg:MG}{mc:MT}{me:ME}
end
section
variable {X:Cx}{W:RC}{E:XK}
variable {fr' w:Bool}{S:Ht}{y9 tg ek ev:HJ}{ifs:HD}{mk me:ME}{mc:MT}{mg:MG}{mi:MI}{pos pos2 p p1:Pos}{scope:Scope}
end
section
variable {X:Cx}{pins:Hu}{σ:St}{H:Hp}{s:Hy}
end
section
variable {X:Cx}{C:LC}{S:Ht}{a b:HJ}{w1 w2:Bool}{m1 m2:ME}{pos:Pos}
end
def Ak{α:Type}(f:Iy):KasT α->α
 |.ret a=>a
 |.ask i j k=>Ak f (k (f i j))
def fC{α:Type}{P:ID}{f:Iy}{Q:α->Prop}:∀{t:KasT α},Kq P f t Q->Kq P f t λa=>Q a/\a=Ak f t
 |.ret _,h=>⟨h,rfl⟩
 |.ask i j k,h=>⟨h.1,h.2.1,fC (t:=k (f i j)) h.2.2⟩
def fD{α:Type}{P:ID}{f:Iy}{Q:α->Prop}:∀{t:KasT α},Kq P f t Q->Q (Ak f t)
 |.ret _,h=>h
 |.ask i j k,h=>fD (t:=k (f i j)) h.2.2
def Al:KeyOrd where
 α:=Int
 blt a b:=decide (a<b)
 irrefl a:=L7 (Int.lt_irrefl a)
 trans a b c h1 h2:=L8 (Int.lt_trans (a0F h1) (a0F h2))
 negTrans a b c h:=by
  have h:=a0F h;by_cases c':a<b
  .exact .inl (L8 c')
  .exact .inr (L8 (by omega))
 total a b h1 h2:=by have h1:=a1T h1;have h2:=a1T h2;omega
def cg(kz:HY):List Nat:=if kz.length<2 then List.range kz.length else(Ak (ans (O:=Al) λi=>kz.getD i 0) (kas_sort kz.length)).toList
def dm(kz:HY):(cg kz).Perm (List.range kz.length)/\(cg kz).Pairwise λi j=>kz.getD i 0<=kz.getD j 0:=by
 unfold cg;by_cases h:kz.length<2
 .rw[if_pos h];refine⟨.refl _,?_⟩;rw[a19];intro i j hi hj hij;rw[S9]at hi hj;omega
 .rw[if_neg h];obtain⟨hp,hu⟩:=fD (mX (O:=Al) (key:=λi=>kz.getD i 0) (n:=kz.length) (by omega));refine⟨hp.perm,?_⟩;rw[a19];intro i j hi hj hij;have hs:=hp.size;rw[a0M]at hi hj;have:=hu i j (a0z hij) (by omega);have e:∀k (hk:k<(Ak (ans (O:=Al) λi=>kz.getD i 0) (kas_sort kz.length)).size),at0 (Ak (ans (O:=Al) λi=>kz.getD i 0) (kas_sort kz.length)) k=(Ak (ans (O:=Al) λi=>kz.getD i 0) (kas_sort kz.length)).toList[k]'(by rw[a0M];exact hk):=λk hk=>by rw[Q9,getElem?_pos _ k hk];simp
  unfold kk at this;rw[e i hi,e j hj]at this;exact Int.not_lt.mp (a1T this)
def bu:∀{kz:HY}{us:HB},Vals (kz.map V.int) us->IntsAre us kz
 |[],_,.nil=>.nil
 |k::kz,_,.cons r rs=>by obtain⟨t,rfl⟩:=r;exact .cons _ _ (bu rs)
def ints_get:∀{kz:HY}{us:HB}{i:Nat},IntsAre us kz->i<kz.length->∃t,us.getD i .none=.int (kz.getD i 0) t
 |_,_,0,.cons k t _,_=>⟨t,rfl⟩
 |_,_,i+1,.cons k t h,hi=>ints_get (i:=i) h (Nat.lt_of_succ_lt_succ hi)
def KCs(X:Cx)(σ:St)(k:Nat)(lp:Hu)(f:Addr)(sp:Sp):Prop:=∀{pins:Hu}{H:Hp}{s:Hy}{Q:VK}{E:Hw}{A:Ia}{u:Value}{v:V},(∀p∈lp,p∈pins)->jO k A->ib X.prog X.w X.K X.mg X.base A X.stack s H->Inv X pins σ H s->RelV v u->sp [v] H Q (λ_ _ _=>False)->wpAny (IP X) A (call (.ref f) [u]) (EP X pins σ Q) E s
def nk(sp:Sp)(ys:HF)(H:Hp)(Q:VK):Prop:=ys.length<64/\mY sp ys [] H λzs H'=>∃kz:List Int,kz.length=ys.length/\zs=kz.map V.int/\∀a,H' a=none->Q (.ref a) (upd H' a (.lst ((cg kz).map λi=>ys.getD i .non)))
def EO(X:Cx)(s:Hy)(l:Addr)(ys:HF):Prop:=∀{Q:List Value->Shared->Prop}{E:Hw},(∀h0 tk its,Vals ys its->(∀b o,s.heap.get? b=some o->h0.get? b=some o)->s.heap.objs.size<=h0.objs.size->Q its { s with heap:=h0,toks:=tk })->wpAny (IP X) X.A.in1 (collect (.ref l)) Q E s
section
variable {X:Cx}{k:Nat}{f:Addr}{fd:Ib}{ps:Hx}{sp:Sp}
def bw{pins:Hu}{σ:St}{A:Ia}{E:Hw}{kS:Addr}{Q0:List V->Hp->Prop}{body:Value->PUnit->Sem (ForInStep PUnit)}{lp:Hu}(F:KCs X σ k lp f sp)(hlp:∀p∈lp,p∈pins)(hr:jO k A)(hA:A.frames=X.A.frames)
  (w:rG X pins kS)
  (Zn:∀x s (C:Shared->Prop),wpAny (IP X) A (call (.ref f) [x]) (λz s'=>wpAny (IP X) A (Builtin.List.listUpdate (.ref kS) (·.push z)) (λ_ s''=>C s'') (λ_ _=>False) s') (λ_ _=>False) s->wpAny (IP X) A (body x ⟨⟩) (λr s'=>r=.yield ⟨⟩/\C s') E s):
  ∀{ys:HF}{its:HB}{acc:HF}{us:HB}{e:Nat}{H:Hp}{s:Hy},acc.length+ys.length<64->Vals ys its->Vals acc us->Inv X (pins++[(kS,seqObj "list" us.toArray e)]) σ H s->mY sp ys acc H Q0->
   wpAny (IP X) A (forIn its PUnit.unit body) (λ_ s'=>∃zs us' e' H',zs.length=acc.length+ys.length/\Vals zs us'/\Inv X (pins++[(kS,seqObj "list" us'.toArray e')]) σ H' s'/\Q0 zs H') E s
 |[],_,acc,us,e,H,s,_,.nil,ra,I,h=>by rw[List.forIn_nil];exact M8 ⟨acc,us,e,H,rfl,ra,I,h⟩
 |v::ys,_,acc,us,e,H,s,hl,.cons (b:=u) (l₂:=its) r rs,ra,I,h=>by
  rw[v4]at hl;have hul:=ra.length;rw[List.forIn_cons];refine f8 (R8 (Zn u s (λs'=>∃(zs:(V×Nat)×Value) (H':Hp),Inv X (pins++[(kS,seqObj "list" (us++[zs.2]).toArray zs.1.2)]) σ H' s'/\RelV zs.1.1 zs.2/\mY sp ys (acc++[zs.1.1]) H' Q0) ?_) (λq s' hq=>?_) λ_ _ x=>x)
  .have A0:ib X.prog X.w X.K X.mg X.base A X.stack s H:=⟨hA.trans I.ic.frames,I.ic.mod,I.ic.bs,I.ic.bsz,I.ic.aa,I.ic.frf,I.ic.hok,I.ic.bare⟩;refine R8 (F (λp hp=>a0e _ (hlp p hp)) hr A0 I r h) (λz s1 ⟨y,H1,I1,r1,q1⟩=>?_) λ_ _ x=>x;have a1:=I1.at1;have J1:Inv X pins σ H1 s1:=I1.jN;obtain⟨e2,he2⟩:∃e2,(s1.heap.update kS (Obj.mapSeq (·.push z))).get? kS=some (seqObj "list" (us++[z]).toArray e2):=⟨_,by
    have:=get?_update_seq a1.1 (·.push z);rw[show us.toArray.push z=(us++[z]).toArray by simp]at this;exact this⟩
   refine a1Z a1.1 rfl ?_ (by rw[O3,a0c];omega) (O8 (a2g (Array.size_push ..)) (by rw[O3,a0c];omega));have J2:Inv X pins σ H1 { s1 with heap:=s1.heap.update kS (Obj.mapSeq (·.push z)),toks:=s1.toks }:=J1.turned (λb o hb ho=>(P6 s1.heap _ (Ne.symm hb)).trans ho) a1.2 w.loc w.ex w.cel w.pin;exact⟨((y,e2),z),H1,J2.EL w a1.2 he2 (λv h=>by cases h),r1,q1⟩
  .obtain⟨rfl,zs,H',I',r',q'⟩:=hq;show wpAny (IP X) A (forIn its PUnit.unit body) _ E s';refine R8 (bw F hlp hr hA w Zn (ys:=ys) (acc:=acc++[zs.1.1]) (us:=us++[zs.2]) (by rw[O1,a1u];omega) rs (ra.append (.cons r' .nil)) I' q') (λ_ s2 ⟨zs',us',e',H2,hl',h2,h3,h4⟩=>⟨zs',us',e',H2,?_,h2,h3,h4⟩) λ_ _ x=>x;rw[hl',O1,a1u,v4];omega
def nq
  (w1:rG X pins D) (w2:rG X (pins++[(D,seqObj "list" #[] e1)]) kS) (hy:ys.length<64) (ry:Vals ys its) (rz:Vals zs us) (hk:zs=kz.map V.int) (hkl:kz.length=ys.length)
  (I:Inv X (pins++[(D,seqObj "list" #[] e1)]++[(kS,seqObj "list" us.toArray e)]) σ H s) (hq:Q (.ref D) (upd H D (.lst ((cg kz).map λi=>ys.getD i .non)))) (hP:∀s',EP X pins σ Q (.ref D) s'->P (.done (.ret .none)) s'):wpAny (IP X) A (ksk_end D false its.toArray e1 (.ref kS) us.toArray) P E s:=by
 have hl:=ry.length;have hzl:zs.length=kz.length:=by rw[hk,v0]
 have hul:=rz.length;have hit:us.length=its.length:=by omega
 unfold ksk_end
 try dsimp only
 simp only[Bool.false_eq_true,if_false];by_cases h2:its.toArray.size<2
 .rw[if_pos h2,if_pos h2];rw[O3]at h2;refine f8 (M8 ?_);rw[StateT.run_pure];refine f8 (M8 ?_)
  try dsimp only
  have hs:cg kz=List.range its.length:=by unfold cg;rw[if_pos (by omega),show kz.length=its.length by omega]
  rw[hs]at hq;refine bq w1 w2 (by omega) (outU:=(List.range its.length).map λi=>its.getD i .none) (by rw[v0,S9];omega) (UE ry _) ?_ rfl I hq hP;apply Array.toList_inj.mp;show((us.toArray.zip its.toArray).map (·.2)).toList=_;rw[Array.toList_map,ksk_zip,List.map_snd_zip (by rw[List.toList_toArray,hit];exact M7 _)];refine List.ext_getElem (by rw[v0,S9]) λi h1 h2=>?_;rw[a0q,a1S];simp[h1]
 .rw[if_neg h2,if_neg h2];rw[O3]at h2;subst hk;have T3:=bu rz;refine f8 (a1R (ksk_kind (keys:=us.toArray) (kz:=kz) (by simpa using T3) (by rw[List.size_toArray];omega)) ?_);have tree:(kas_sort its.length).kasWp (kas_ask X.prog X.w A oneType' us) (λp s'=>s'=s/\p.toList=cg kz) s:=by
   refine mV (P:=(·<kz.length)) (f:=ans (O:=Al) λi=>kz.getD i 0) (J:=λs'=>s'=s) (Q:=λp=>p.toList=cg kz) (λi j C s' hi hj hs hC=>?_) (λp s' h1 h2=>⟨h2,h1⟩) rfl ?_
   .subst hs;obtain⟨t1,e1⟩:=ints_get T3 hi;obtain⟨t2,e2⟩:=ints_get T3 hj;show wpAny _ _ (keyLt' oneType' (us.getD i .none) (us.getD j .none)) _ _ _;rw[keyLt'_oneType,e1,e2];exact oneLt_int (hC _ rfl)
   .have:=fC (mX (O:=Al) (key:=λi=>kz.getD i 0) (n:=kz.length) (by omega));rw[show its.length=kz.length by omega];refine y0 (λp ⟨_,b⟩=>?_) this;unfold cg;rw[if_neg (by omega),b]
  refine f8 (R8 (kat_run (ks:=us) (vs:=its) (Q:=λst' s'=>s'=s/\∃p:Array Nat,p.size=its.length/\arrOf st'=p.map (kas_item (us.toArray.zip its.toArray))/\failedOf st'=none/\p.toList=cg kz) hit (by omega) (by omega) (λp st' s' a1 a2 a3 a4=>⟨a4.1,p,a1,a2,a3,a4.2⟩) tree) ?_ λ_ _ x=>x)
  rintro⟨⟨⟩,st'⟩ s' ⟨rfl,p,hp,har,hf,srt⟩
  try dsimp only
  rw[<- srt]at hq;exact bq w1 w2 (by omega) (outU:=p.toList.map λi=>its.getD i .none) (by rw[v0,a0M];omega) (UE ry _) (kat_snds hit har) hf I hq hP
def Xy(F:KCs X σ k lp f sp)(hlp:∀p∈lp,p∈pins)(hr:jO (k+2) X.A)
  (I:Inv X pins σ H s) (hcol:EO X s l ys) (h:nk sp ys H Q):wpAny (IP X) X.A (call (.builtin "sorted") [.ref l] [(Str.ofString "key",.ref f)]) (EP X pins σ Q) E s:=by
 obtain⟨hy,h⟩:=h;refine call_function_entry_kw kind_sorted plain_sorted entry_sorted (ksk_s1 _ _) ?_;unfold Builtin.«sorted»;refine f8 (m:=checkCount "sorted" 1 1 _) (M8 ?_);refine f8 (hcol λh0 tk its ry hk0 hs0=>?_);have hlen:=ry.length;refine f8 (a2S ?_ (by rw[a0c];omega));have I0:Inv X pins σ H { s with heap:=h0,toks:=tk }:=I.kept hk0;have hoL:(h0.push (seqObj "list" its.toArray 0)).get? h0.objs.size=some (seqObj "list" its.toArray 0):=O5 _ rfl;have I1:Inv X pins σ H { s with heap:=h0.push (seqObj "list" its.toArray 0),toks:=tk }:=Inv.kept (s:={ s with heap:=h0,toks:=tk }) I0 λb o q=>L6 _ q;have hs1:(h0.push (seqObj "list" its.toArray 0)).objs.size=h0.objs.size+1:=a2O ..;have w1:rG X pins h0.objs.size:=I0.Gv (H':=H) (M7 _);have n1:H h0.objs.size=none:=I0.hok.fresh (M7 _);show wpAny _ _ _ _ _ { s with heap:=h0.push (seqObj "list" its.toArray 0),toks:=tk };generalize h0.push (seqObj "list" its.toArray 0)=h1 at hoL hs1 I1;generalize hD:h0.objs.size=D at hoL w1 n1 hs1;refine f8 (T2 (wpAny_call_entry_kw slot_list_sort ⟨_,hoL,rfl⟩ entry_list_sort ?body (ksk_l1 _ _)))
 case body=>
  show wpAny (IP X) X.A.in1.in1 (Builtin.«list.sort» ⟨[.ref D],[(Str.ofString "key",.ref f)]⟩) _ _ _;rw[ksk_t1];obtain⟨e1,ho1⟩:∃e1,(h1.update D (Obj.mapSeq λ_=>(#[]:Array Value))).get? D=some (seqObj "list" #[] e1):=⟨_,get?_update_seq hoL λ_=>#[]⟩;have I2:Inv X pins σ H { s with heap:=h1.update D (Obj.mapSeq λ_=>(#[]:Array Value)),toks:=tk }:=Inv.turned (s:={ s with heap:=h1,toks:=tk }) I1 (λb o hb ho=>(P6 h1 _ (Ne.symm hb)).trans ho) n1 w1.loc w1.ex w1.cel w1.pin;have hs2:(h1.update D (Obj.mapSeq λ_=>(#[]:Array Value))).objs.size=D+1:=by rw[Heap.size_update,hs1]
  unfold ksk_tree;refine f8 (listItems_at hoL rfl ?_);refine f8 (a1Z hoL rfl ?_ (by rw[O3,a0c];omega) (T5 _));generalize h1.update D (Obj.mapSeq λ_=>(#[]:Array Value))=h2 at ho1 I2 hs2;refine f8 (seqEpoch_at ho1 rfl ?_);refine f8 (wpAny_newTuple ?_ (by show its.length<=_;rw[a0c];omega));refine f8 (a2S ?_ (T5 _));refine T2 ?_;have hk3:(h2.push { cls:=.type "tuple",data:=.seq its.toArray.toList.toArray }).objs.size=D+2:=by rw[a2O,hs2]
  have keep3:∀b o,h2.get? b=some o->((h2.push { cls:=.type "tuple",data:=.seq its.toArray.toList.toArray }).push { cls:=.type "list",data:=.seq ([]:List Value).toArray }).get? b=some o:=λb o q=>L6 _ (L6 _ q);have I3:Inv X pins σ H { s with heap:=(h2.push { cls:=.type "tuple",data:=.seq its.toArray.toList.toArray }).push { cls:=.type "list",data:=.seq ([]:List Value).toArray },toks:=tk }:=Inv.kept (s:={ s with heap:=h2,toks:=tk }) I2 keep3;have hoK:((h2.push { cls:=.type "tuple",data:=.seq its.toArray.toList.toArray }).push { cls:=.type "list",data:=.seq ([]:List Value).toArray }).get? (h2.push { cls:=.type "tuple",data:=.seq its.toArray.toList.toArray }).objs.size=some (seqObj "list" ([]:List Value).toArray 0):=O5 _ rfl;have hoD:=keep3 D _ ho1;show wpAny (IP X) X.A.in1.in1 (ksk_rest D (.ref f) false its.toArray e1 (.ref (h2.push { cls:=.type "tuple",data:=.seq its.toArray.toList.toArray }).objs.size)) _ _ { s with heap:=(h2.push { cls:=.type "tuple",data:=.seq its.toArray.toList.toArray }).push { cls:=.type "list",data:=.seq ([]:List Value).toArray },toks:=tk };have w2:rG X (pins++[(D,seqObj "list" #[] e1)]) (h2.push { cls:=.type "tuple",data:=.seq its.toArray.toList.toArray }).objs.size:=by have J:Inv X (pins++[(D,seqObj "list" #[] e1)]) σ H { s with heap:=h2,toks:=tk }:=Inv.EL (s:={ s with heap:=h2,toks:=tk }) I2 w1 n1 ho1 (λv h=>by cases h);exact J.Gv (H':=H) (by show h2.objs.size<=_;rw[hk3,hs2];omega)
  have n2:H (h2.push { cls:=.type "tuple",data:=.seq its.toArray.toList.toArray }).objs.size=none:=I0.hok.fresh (by rw[hk3];show h0.objs.size<=_;omega);generalize(h2.push { cls:=.type "tuple",data:=.seq its.toArray.toList.toArray }).push { cls:=.type "list",data:=.seq ([]:List Value).toArray }=h3 at I3 hoK hoD;generalize(h2.push { cls:=.type "tuple",data:=.seq its.toArray.toList.toArray }).objs.size=kS at hoK w2 n2;have I4:Inv X (pins++[(D,seqObj "list" #[] e1)]++[(kS,seqObj "list" ([]:List Value).toArray 0)]) σ H { s with heap:=h3,toks:=tk }:=
   Inv.EL (s:={ s with heap:=h3,toks:=tk }) (Inv.EL (s:={ s with heap:=h3,toks:=tk }) I3 w1 n1 hoD (λv h=>by cases h)) w2 n2 hoK (λv h=>by cases h)
  unfold ksk_rest;refine f8 (a17 ?_)
  first
   |rw[List.forIn_toArray]
   | (rw[<- a23];simp only[List.toList_toArray])
   |rw[<- a23]
  refine f8 (R8 (bw (pins:=pins++[(D,seqObj "list" #[] e1)]) (σ:=σ) (A:=X.A.in1.in1) (E:=E) F (λp hp=>a0e _ (hlp p hp)) hr.in1.in1 rfl w2 (λx s' C hx=>?_) (ys:=ys) (its:=its) (acc:=[]) (us:=[]) (e:=0) (H:=H) (by rw[a1B];omega) ry .nil I4 h) (λ_ s' hd=>?_) λ_ _ x=>x)
  .refine f8 (a02 (R8 hx (λz s'' hz=>?_) λ_ _ hF=>hF.elim))
   try dsimp only
   exact f8 (R8 hz (λ_ s3 h3=>M8 ⟨rfl,h3⟩) λ_ _ hF=>hF.elim)
  .obtain⟨zs,us,e2,H',hzl,rz,I5,kz,hkl,hk3,hq⟩:=hd;have aK:=I5.at1;have aD:=I5.jN.at1
   try dsimp only
   refine f8 (listItems_at aK.1 rfl ?_);exact nq w1 w2 hy ry rz hk3 hkl I5 (hq D aD.2) λs3 he=>⟨_,rfl,M8 ⟨_,rfl,he⟩⟩
end
structure nr(x y:Str)(scope:Scope):Prop where
 kind:scope.kind=.function
 co:scope.isCoroutine=false
 gen:scope.isGenerator=false
 lx:scope.names.lookup x=some .local
 ly:scope.names.lookup y=some .free
 uX:∀z∈scope.names,z.2≠.cell
 free:∀z,scope.names.lookup z=some .free->z=y
def cxL(CX:CXT)(P:HQ)(w:H_)(K:Ih)(mg:Hv)(base:Heap)(N:Hx)(qual:Str)(scope:Scope)(f:Addr)(cd:Value)(cl:Ig)(A:Ia)(outer:List Env)(s:Hy)(H:Hp)(E:XK):Cx where
 prog:=P
 w:=w
 K:=K
 mg:=mg
 base:=base
 A:=A.deeper (envX qual scope s.heap.objs.size f cd cl)
 N:=N
 s₀:=s
 H₀:=H
 env:=envX qual scope s.heap.objs.size f cd cl
 outer:=outer
 stack:=envX qual scope s.heap.objs.size f cd cl::outer
 ex:=[]
 calm:=true
 fn:=λ_=>false
 pn:=[]
 xe:=λe s'=>wpAny (model P w) (A.deeper (envX qual scope s.heap.objs.size f cd cl)) (leaving (envX qual scope s.heap.objs.size f cd cl) e) (λ_ s''=>CX outer H s E e s'') (λe' s''=>CX outer H s E e' s'') s'
section
variable {CX:CXT}{P:HQ}{w:H_}{K:HN}{mg:Hv}{base:Heap}{k:Nat}{f:Addr}{name qual x y:Str}{params:Arguments}{body:HJ}{scope:Scope}{pm ctv:Value}{c c':Addr}{oc:Obj}{ws:Im}{tq:Tok}{sp:Sp}
def rR(S:nr x y scope)(hd:oc.data=.fields ws)(hq:ws[1]?=some (.str qual tq))(hbind:∀(s:Hy)(u:Value),BindsTo s (kla_fn name qual params body scope [(y,c)] pm (.ref c') ctv) ⟨[u],[]⟩ [(x,u)])
  (Zn:∀(A:Ia)(outer:List Env)(s:Hy)(H:Hp)(vs:HF)(Q:VK)(E:XK),jO k (A.deeper (envX qual scope s.heap.objs.size f (.ref c') [(y,c)]))->sp vs H Q E->∃te,PE (cxL CX P w K mg base [x,y] qual scope f (.ref c') [(y,c)] A outer s H E) body te/\te (start [x,y] vs) H Q) (hr:jO (k+1) A) (e0:ib P w K mg base A outer s H) (hof:s.heap.get? f=some (kla_obj name qual params body scope [(y,c)] pm c' ctv)) (hoc:s.heap.get? c'=some oc) (r:RelV v u)
  (hc:s.heap.IsCell c (some uw)) (rw':RelV vw uw) (hH:H c=none) (hsp:sp [v,vw] H Q E):
  codeAny (model P w) A (.call (.ref f) ⟨[u],[]⟩) (CR CX outer P w H s Q E) s:=by
 have lim:s.heap.NoLimit:=e0.mod.nolimit.keeps λb o e=>(e0.bs b o e).1;refine kla_callFunE hr.depth hof rfl S.co S.gen rfl ⟨c',oc,ws,tq,rfl,hoc,hd,hq⟩ (hbind s u _ _ _ _ ?_);refine wpAny_newFunctionEnv S.uX (λz hz=>by rw[T0.mp hz];exact S.lx) (λh₁ hns hsb=>⟨lim.fresh _ hsb,?_⟩) S.kind;show codeAny _ _ (.expr body (envX qual scope s.heap.objs.size f (.ref c') [(y,c)])) _ _;have hk₁:∀b o,s.heap.get? b=some o->h₁.get? b=some o:=λb o e=>hsb.extBut b o (N8 (M9 e)) (L6 _ e);refine kla_codeExpr ?_;obtain⟨te,ht,q⟩:=Zn A outer s H [v,vw] Q E (hr.deeper _) hsp;have noA:∀b:Addr,b∉(cxL CX P w K mg base [x,y] qual scope f (.ref c') [(y,c)] A outer s H E).ex:=λb z=>absurd (show b∈([]:List Addr)from z) (by simp);have cy:∀z a,List.lookup z [(y,c)]=some a->z=y/\a=c:=λz a h=>by
  rw[S8]at h;split at h
  .rename_i e;cases h;exact⟨eq_of_beq e,rfl⟩
  .cases h
 have hcell:h₁.IsCell c (some uw):=by obtain⟨o,ho,hd⟩:=hc;exact⟨o,hk₁ _ _ ho,hd⟩
 have ly:List.lookup y [(y,c)]=some c:=by simp
 have I:Inv (cxL CX P w K mg base [x,y] qual scope f (.ref c') [(y,c)] A outer s H E) [] (start [x,y] [v,vw]) H { s with heap:=h₁,toks:=s.toks+[(x,u)].length }:=by
  refine⟨⟨e0.mod,S.kind,rfl,rfl,M7 _,λa b d h1 h2=>?_,λa ha=>?_,λa d h _=>absurd (show false=true from h) M6,λ_=>hr.hd,a2K e0.frames,.inr ⟨rfl,rfl⟩,λb z=>absurd z (noA b),e0.bs,e0.bsz,λb _ _=>noA b,λb z=>absurd z (noA b),e0.aa,e0.frf⟩,
   rfl,e0.bare,Un.kept hk₁,⟨_,hns,λi a b h1 h2 h3=>?_⟩,λa d h=>?_,e0.hok.fresh (M7 _),λa d h=>?_,λp hp=>absurd (show p∈([]:List (Addr×Obj))from hp) (by simp),e0.hok.kept hk₁,rfl⟩
  .rw[(cy a d h1).1,(cy b d h2).1]
  .have ha:scope.names.lookup a=some .cell\/scope.names.lookup a=some .free:=ha;rcases ha with ha|ha
   .exact absurd rfl (S.uX _ (a0o ha))
   .rw[S.free a ha];exact⟨c,ly⟩
  .match i,h1,h2 with
   |0,h1,h2=>cases h1;cases h2;exact⟨u,r,.inl ⟨S.lx,by simp⟩⟩
   |1,h1,h2=>cases h1;cases h2;exact⟨uw,rw',.inr ⟨.inr S.ly,c,ly,hcell⟩⟩
   |i+2,h1,_=>cases(show([]:List Str)[i]?=some a from h1)
  .rw[(cy a d h).2];exact⟨_,hcell⟩
  .rw[(cy a d h).2];exact hH
 refine R8 (ht [] _ (start [x,y] [v,vw]) H _ I q) (λz s' hs=>?_) λe s' hs=>hs;obtain⟨z',H',J,rz,q'⟩:=hs;exact⟨z',H',J.os,J.bare,J.base,J.hok,rz,q'⟩
end
def nu:∀{ys:HF}{its:HB},its.length=ys.length->(∀(i:Nat) v y,its[i]?=some v->ys[i]?=some y->RelV y v)->Vals ys its
 |[],[],_,_=>.nil
 |y::ys,v::its,hl,h=>.cons (h 0 v y rfl rfl) (nu (by simpa using hl) λi v y h1 h2=>h (i+1) v y h1 h2)
 |[],_::_,hl,_=>by cases hl
 |_::_,[],hl,_=>by cases hl
def rS(I:Inv X pins σ H s)(hl:SqL X.K H l ys):EO X s l ys:=λh=>by
 obtain⟨its,ry,pl,hz⟩:=I.list hl;refine collect_list pl.isList (h _ s.toks its ry (λb o q=>?_) ?_) (by rw[<- ry.length];exact hz)
 .have hlt:b<s.heap.objs.size:=M9 q;rw[a1J _ _ _ _ (N8 hlt),Heap.get?_push_ne _ _ _ (N8 hlt)];exact q
 .rw[Heap.size_update,a2O];exact a0I _
def rT(hc:X.calm=true)(I:Inv X pins σ H s)(hS:Rd H l (.dK es)):EO X s l (es.map λkv=>kV kv.1):=λh=>by
 obtain⟨z,hd,vs,rel,o,ds,ep,e1,e2,e3,e4,e5,e6⟩:=ZS I.hok hS;have hl:vs.length=es.length:=rel.length.symm;refine Kr (A:=X.A.in1) (knd:=yw X.prog X.w) (kvs:=vs) (ep:=ep) (I.ok.hd hc) hd ⟨o,ds,e1,e2,e3,e4,e5,e6⟩ (by omega) λh' tk acc hk hsz hi=>h h' tk acc.toList (nu ?_ λi v y hv hy=>?_) hk hsz
 .have:=hi.1;rw[v0];simpa[hl]using this
 .obtain⟨k,x,f3,f4⟩:=hi.2 i v (by simpa using hv);rw[O2]at hy;obtain⟨kv,hkv,rfl⟩:=u8.mp hy;obtain⟨w',hw⟩:=eZ rel (k:=kv.1) (v:=kv.2) hkv;rw[hw]at f3;cases f3;rw[JJ]at f4;rcases ye f4 with⟨i,t,e,e'⟩|⟨x,t,e,e'⟩
  .rw[e,e'];exact⟨t,rfl⟩
  .rw[e,e'];exact⟨t,rfl⟩
def Am(h:Rd H l u)(hu:∀qs,u≠.tbl qs)(hP:H P=some (.tbl ps)):Rd (upd H P o) l u:=by
 rcases h with h|⟨o',h⟩
 .exact .inl (by rw[zg (λq=>by rw[q,hP]at h;cases h;exact hu _ rfl)];exact h)
 .exact .inr ⟨o',by rw[zg (λq=>by rw[q,hP]at h;cases h)];exact h⟩
def An(K:Ih)(H:Hp)(l:Addr)(ys:HF):Prop:=SqL K H l ys\/∃es,Rd H l (.dK es)/\ys=es.map λkv=>kV kv.1
section
variable {X:Cx}{k i:Nat}{c P:Addr}{params:Arguments}{body e:HJ}{scope:Scope}{lpos p pos kpos:Pos}{x y:Str}{sp:Sp}{t:TA}
end
def UI(g:PV->Out PV):List PV->Option (List Int)
 |[]=>some []
 |x::xs=>match g x with
  |.ok (.i n)=>(UI g xs).map (n::·)
  |_=>none
def V5{g:PV->Out PV}:∀{xs:HW}{kz:HY},UI g xs=some kz->kz.length=xs.length
 |[],_,h=>by cases h;rfl
 |x::xs,_,h=>by
  unfold UI at h;split at h
  .obtain⟨ks,e,rfl⟩:=u8.mp h;rw[v4,v4,V5 e]
  .cases h
def uj:PV->Option (List PV)
 |.l xs=>some xs
 |.d kvs=>some (kvs.map λkx=>kP kx.1)
 |_=>none
def nv(h:Rep W M H x v)(e:uj x=some ys):∃l vs,v=.ref l/\An W.K H l vs/\zX W M H ys vs:=by
 cases x with
 |l xs=>cases e;obtain⟨l,us,rfl,_,hl,rr⟩:=h;exact⟨l,us,rfl,.inl (SqL.of hl),rr⟩
 |d kvs=>cases e;obtain⟨l,es,rfl,_,hl,rr⟩:=h;exact⟨l,_,rfl,.inr ⟨es,hl,rfl⟩,Us rr⟩
 |_=>cases e
section
variable {X:Cx}{W:RC}{E:XK}{k i:Nat}{c P:Addr}{params:Arguments}{body e:HJ}{scope:Scope}{lpos p pos kpos:Pos}{x y:Str}{ms:HMA}{g:HP}
end
section
variable {X:Cx}{W:RC}{E:XK}{k i:Nat}{c P:Addr}{params:Arguments}{body e:HJ}{scope:Scope}{lpos p pos kpos:Pos}{x y:Str}{ms:HMA}{g:HP}
end
def Gx(x y:Str)(sc:Scope):Bool:=(match sc.kind with | .function=>true|_=>false)&&(!sc.isCoroutine&&(!sc.isGenerator&&((match sc.names.lookup x with|some .local=>true|_=>false)&&((match sc.names.lookup y with|some .free=>true|_=>false)&&sc.names.all λz=>match z.2 with | .cell=>false | .free=>z.1==y|_=>true))))
def FX(h:Gx x y sc=true):nr x y sc:=by
 unfold Gx at h;simp only[Bool.and_eq_true,List.all_eq_true]at h;obtain⟨h1,h2,h3,h4,h5,h6⟩:=h;refine⟨?_,by simpa using h2,by simpa using h3,?_,?_,λz hz e=>?_,λz hz=>?_⟩
 .revert h1;cases sc.kind<;>simp
 .split at h4<;>simp_all
 .split at h5<;>simp_all
 .have:=h6 z hz;rw[e]at this;cases this
 .have:=h6 _ (a0o hz);exact eq_of_beq this
def Dy(hn:sc.names=[(x,.local),(y,.free)])(h:env.cells.lookup y=some a):closureFor sc env=pure [(y,a)]:=by unfold closureFor cellOf;rw[hn];simp[h]
section
variable {X:Cx}{C:LC}{S:Ht}{mg:MG}{mc:MT}{me:ME}{i:Nat}
end
section
variable {X:Cx}{W:RC}{E:XK}{S:Ht}{y9 tg elt:HJ}{ifs:HD}{me:ME}{mc:MT}{mg:MG}{pos:Pos}{i:Nat}{scope:Scope}
end
section
variable {X:Cx}{W:RC}{E:XK}{fr':Bool}{S:Ht}{y9 tg elt:HJ}{ifs:HD}{me:ME}{mc:MT}{mg:MG}{mi:MI}{pos b_ py:Pos}{j:Nat}{scope:Scope}{y:Str}
end
section
variable {X:Cx}{W:RC}{E:XK}{tg a:HJ}{body:Ij}{m:HME}{mg:HMG}{mb:HMS}{pos p pos':Pos}
end
def Inv.FY(I:Inv X pins σ H s)(hP:H P=some (.tbl ps))(hge:s.heap.objs.size<=c')(k:∀b u,b≠P->s.heap.get? b=some u->h'.get? b=some u)(hT:h'.get? P=some { cls:=.none,data:=.fields (ps++more) })(hoc:h'.get? c'=some oc):Inv X pins σ (upd (upd H P (.tbl (ps++more))) c' (.frz oc (.own c'))) { s with heap:=h',toks:=t' }:=by
 have ne:∀b,H b=none->b≠P:=λb n q=>by rw[q,hP]at n;cases n
 have ne2:∀b u,H b=some u->(∀qs,u≠.tbl qs)->b≠P:=λb u e n q=>by rw[q,hP]at e;cases e;exact n _ rfl
 have nc:∀b o,s.heap.get? b=some o->b≠c':=λb o e q=>absurd (M9 e) (by rw[q];exact Nat.not_lt.mpr hge);have nh:∀b u,H b=some u->b≠c':=λb u e q=>by rw[q,I.hok.fresh hge]at e;cases e
 have at_:∀b u,H b=some u->(∀qs,u≠.tbl qs)->upd (upd H P (.tbl (ps++more))) c' (.frz oc (.own c')) b=some u:=λb u e n=>by rw[zg (nh b u e),zg (ne2 b u e n)];exact e
 refine I.un ⟨λb o e n _ _=>k b o (ne b n) e,λb o e n _ _=>⟨o.slots,k b o (ne b n) e⟩,λb o e n _=>by rw[zg (nc b o e),zg (ne b n)];exact n,λb o e _=>?_,λb xs e=>at_ b _ e (λqs z=>by cases z),λb o u e=>at_ b _ e (λqs z=>by cases z),λb qs e=>?_⟩ λb u e=>?_
 .by_cases c:b=P
  .rw[c];exact⟨_,hT⟩
  .exact⟨o,k b o c e⟩
 .have n:=nh b _ e;by_cases c:b=P
  .rw[c,hP]at e;cases e;exact⟨more,by rw[zg n,c];exact zd⟩
  .exact⟨#[],by rw[zg n,zg c,e];simp⟩
 .by_cases c2:b=c'
  .rw[c2,zd]at e;cases e;rw[c2];exact⟨hoc,_,hoc⟩
  .rw[zg c2]at e;by_cases c:b=P
   .rw[c,zd]at e;cases e;rw[c];exact hT
   .rw[zg c]at e;refine(I.hok b u e).h_ (λd v hd q=>k d v ?_ q) (λd q=>at_ d _ q (λqs z=>by cases z)) λd xs q=>at_ d _ q (λqs z=>by cases z);rcases hd with z|z
    .rw[z];exact c
    .exact ne2 d _ z λqs y=>by cases y
def spM(sp:Sp)(vw:V)(c':Addr)(oc:Obj):Sp:=λus H Q E=>H c'=some (.frz oc (.own c'))/\sp (us++[vw]) H Q E
def ny{X:Cx}{σ:St}{i:Nat}{vw:V}(S:nr x y scope)(hd:oc.data=.fields ws)(hq:ws[1]?=some (.str qual tq))(hbind:∀(s:Hy)(u:Value),BindsTo s (kla_fn name qual params body scope [(y,c)] pm (.ref c') ctv) ⟨[u],[]⟩ [(x,u)])
  (Zn:∀(A:Ia)(outer:List Env)(s:Hy)(H:Hp)(vs:HF)(Q:VK)(E:XK),jO k (A.deeper (envX qual scope s.heap.objs.size f (.ref c') [(y,c)]))->sp vs H Q E->∃te,PE (cxL (CXe X.prog X.w) X.prog X.w X.K X.mg X.base [x,y] qual scope f (.ref c') [(y,c)] A outer s H E) body te/\te (start [x,y] vs) H Q)
  (hN:X.N[i]?=some y) (hσ:σ[i]?=some (some vw)) (hy:X.env.scope.names.lookup y=some .cell) (hcy:X.env.cells.lookup y=some c):
  KCs X σ (k+1) [(f,kla_obj name qual params body scope [(y,c)] pm c' ctv)] f (spM sp vw c' oc):=λhlp hr hA I r h=>by
 have p1:=I.pin _ (N9 _ (hlp _ M3));obtain⟨m,hm,hl⟩:=I.loc;obtain⟨uw,ru,lk⟩:=hl i y vw hN hσ (.inr (.inl hy));have hc:=(show _ from lk.elim (λ⟨z,_⟩=>by have z:X.env.scope.names.lookup y=some .local:=z;rw[hy]at z;cases z) λ⟨_,c2,e2,h2⟩=>by rw[hcy]at e2;cases e2;exact h2:(_:Heap).IsCell c (some uw));refine a0G (a0K (rR (outer:=X.stack) S hd hq hbind Zn hr hA p1.1 (I.hok c' _ h.1).1 r hc ru (I.Yv y c hcy) h.2) λr s' hq=>?_);cases r with
 |error e=>exact(bc hq).elim
 |ok fl=>
  cases fl with
  |ret u=>exact I.after hq
  |next=>exact False.elim hq
  |brk=>exact False.elim hq
  |cont=>exact False.elim hq
def Ao{K:Ih}{H:Hp}{c' l:Addr}{o:HO}{ys:HF}(h:An K H l ys)(hc:H c'=none):An K (upd H c' o) l ys:=by
 have ne:∀u,H l=some u->l≠c':=λu e q=>by rw[q,hc]at e;cases e
 rcases h with h|⟨es,h,e⟩
 .rcases h with h|h
  .rcases h with h|⟨o',h⟩
   .exact .inl (.inl (.inl (by rw[zg (ne _ h)];exact h)))
   .exact .inl (.inl (.inr ⟨o',by rw[zg (ne _ h)];exact h⟩))
  .exact .inl (.inr h)
 .rcases h with h|⟨o',h⟩
  .exact .inr ⟨es,.inl (by rw[zg (ne _ h)];exact h),e⟩
  .exact .inr ⟨es,.inr ⟨o',by rw[zg (ne _ h)];exact h⟩,e⟩
section
variable {X:Cx}{k i:Nat}{c P:Addr}{params:Arguments}{body e:HJ}{scope:Scope}{lpos p pos kpos:Pos}{x y:Str}{sp:Sp}{t:TA}
def nA:codeAmong lpos [rawInt lpos.line,rawInt lpos.col,v]=some v:=by unfold codeAmong rawInt;simp
def rV(hca:X.calm=true)(hcd:X.env.code=.ref c)(hC:CodeHd X.base c P)(hB:X.base.BuiltinsAt X.mg P)(hgP:mainGlobals≠P)(hcl:∀a,X.env.cells.lookup y=some a->closureFor scope X.env=pure [(y,a)])(hdf:defaultsOf params X.env=([],[]))(S:nr x y scope)
    (hN:X.N[i]?=some y) (hy:X.env.scope.names.lookup y=some .cell)
    (hbind:∀(pm:Value)(a c':Addr)(ctv:Value)(s:Hy)(u:Value),BindsTo s (kla_fn "<lambda>" (X.env.qual++"<lambda>") params body scope [(y,a)] pm (.ref c') ctv) ⟨[u],[]⟩ [(x,u)])
    (Zn:∀(f a c':Addr)(A:Ia)(outer:List Env)(s:Hy)(H:Hp)(vs:HF)(Q:VK) (E:XK),jO k (A.deeper (envX (X.env.qual++"<lambda>") scope s.heap.objs.size f (.ref c') [(y,a)]))->sp vs H Q E->∃te,PE (cxL (CXe X.prog X.w) X.prog X.w X.K X.mg X.base [x,y] (X.env.qual++"<lambda>") scope f (.ref c') [(y,a)] A outer s H E) body te/\te (start [x,y] vs) H Q)
    (hr:jO (k+1+2) X.A) (hg:Gl X "sorted") (hm:X.mg "sorted"=none) (ha:PA X [e] t)
    (he1:backTo pos (starEach [e] X.env)=(false,eval e X.env)::backTo pos (starEach [] X.env):=by rfl) (hpl:(backTo pos (starEach [e] X.env)).any (·.1)=false:=by rfl):
    PE X (.Call (.Name "sorted" p) [e] [⟨some "key",.Lambda params body scope lpos,kpos⟩] pos) (λσ H Q=>t σ H λvs H1=>∃vw l ys ps,σ[i]?=some (some vw)/\vs=[.ref l]/\An X.K H1 l ys/\H1 P=some (.tbl ps)/\
      ((ps = #[]/\∀c' oc ws t,oc.data=.fields ws->ws[1]?=some (.str (X.env.qual++"<lambda>") t)->H1 c'=none->c'≠P->nk (spM sp vw c' oc) ys (upd (upd H1 P (.tbl #[rawInt lpos.line,rawInt lpos.col,.ref c'])) c' (.frz oc (.own c'))) Q)\/
       (∃c' oc ws t,ps = #[rawInt lpos.line,rawInt lpos.col,.ref c']/\H1 c'=some (.frz oc (.own c'))/\oc.data=.fields ws/\ws[1]?=some (.str (X.env.qual++"<lambda>") t)/\nk (spM sp vw c' oc) ys H1 Q))):=by
  intro pins s σ H Q I h;refine a0r (Xg I hg hm a3a ?_ (by decide) (by decide));refine callWith_kw (thn (ha pos pins s σ H _ I h) λus s1 ⟨vs,H1,I1,r1,vw,l,ys,ps,hσ,hv,hl,hP,hq⟩=>?_) he1 hpl;subst hv;obtain⟨u,rfl,ru⟩:=vals1 r1;cases ru;obtain⟨a,hay⟩:=I1.ok.has y (.inl hy);show wpAny _ _ (evalAll ((do let v<-eval (.Lambda params body scope lpos) X.env;standAt pos;pure v)::(backToKw pos (keywordEach [] X.env)).map (·.2))) _ _ s1;have kp:=I1.bk;have hBk:s1.heap.BuiltinsAt X.mg P:=by obtain⟨bm,o,b1,b2,b3,b4,b5,b6⟩:=hB;exact⟨bm,o,b1,b2,b3,b4,kp _ _ b5,b6⟩
  have hPlt:P<s1.heap.objs.size:=M9 (show s1.heap.get? P=some _ from I1.hok P _ hP);have col:∀{pins':Hu}{H':Hp}{s':Hy},An X.K H' l ys->Inv X pins' σ H' s'->EO X s' l ys:=λhl I=>by
    rcases hl with hl|⟨es,hd',rfl⟩
    . exact rS I hl
    . exact rT hca I hd'
  rcases hq with⟨rfl,hq⟩|⟨c',oc,ws,tq,rfl,hc',hd,hqn,hq⟩
  . refine a24 (f8 (kla_eval hdf (kla_makeFunction (mg:=X.mg) (hcl a hay) I1.ok.glob (I1.mod.glob.keeps kp) hcd (hC.keeps kp) (I1.hok P _ hP) trivial rfl hgP hBk λc' ctv h' tk hx hge hlt hrec hT=>?_)))
    refine f8 (a0P (M8 (M8 ?_)));obtain⟨c2,oc,ws,tq,e2,hoc,hd,hqn⟩:=hrec;cases e2;have hTn:∀b u,b≠P->s1.heap.get? b=some u->(h'.push (kla_obj "<lambda>" (X.env.qual++"<lambda>") params body scope [(y,a)] ((X.mg "__name__").getD .none) c' ctv)).get? b=some u:=λb u n q=>L6 _ (hx b u n q);have cP:c'≠P:=a0a (N7 hPlt hge);have hc0:H1 c'=none:=I1.hok.fresh hge;have I2:=I1.FY (h':=h'.push (kla_obj "<lambda>" (X.env.qual++"<lambda>") params body scope [(y,a)] ((X.mg "__name__").getD .none) c' ctv)) (t':=tk) hP hge hTn (L6 _ hT) (L6 _ hoc);rw[Array.empty_append]at I2;have I3:Inv X (pins++[(h'.objs.size,kla_obj "<lambda>" (X.env.qual++"<lambda>") params body scope [(y,a)] ((X.mg "__name__").getD .none) c' ctv)]) σ _ _:=I2.JK λq hq=>by
      rcases a0b.mp hq with hq|hq
      . exact I2.pin q (N9 _ hq)
      . rw[T0.mp hq]
        have hge':s1.heap.objs.size<=h'.objs.size:=a0z (a0i hge hlt);exact⟨O5 _ rfl,by rw[zg (a0a hlt),zg (a0a (N7 hPlt hge'))];exact I1.hok.fresh hge',a0a (N7 I1.lt hge'),I1.EW hge',λv z=>by cases z⟩
    have hl3:An X.K (upd (upd H1 P (.tbl #[rawInt lpos.line,rawInt lpos.col,.ref c'])) c' (.frz oc (.own c'))) l ys:=Ao (by
      rcases hl with hl|⟨es,hd',e⟩
      . exact .inl (Ah hl hP)
      . exact .inr ⟨es,Am hd' (λqs z=>by cases z) hP,e⟩) (by rw[zg cP];exact hc0)
    refine R8 (Xy (ny S hd hqn (hbind _ a c' ctv) (λA outer s H vs Q E=>Zn h'.objs.size a c' A outer s H vs Q E) hN hσ hy hay) (λq hq=>N9 _ hq) hr I3 (col hl3 I3) (hq c' oc ws tq hd hqn hc0 cP)) (λz s3 ⟨y,H3,I4,ry,q4⟩=>⟨y,H3,I4.jN,ry,q4⟩) λ_ _ z=>z
  . refine a24 (f8 (kla_eval hdf (kla_makeFunctionHit (mg:=X.mg) (cv:=.ref c') (hcl a hay) I1.ok.glob (I1.mod.glob.keeps kp) hcd (hC.keeps kp) (I1.hok P _ hP) trivial nA hBk λctv h' tk hk hsz=>?_)))
    refine f8 (a0P (M8 (M8 ?_)));have hk2:∀b u,s1.heap.get? b=some u->(h'.push (kla_obj "<lambda>" (X.env.qual++"<lambda>") params body scope [(y,a)] ((X.mg "__name__").getD .none) c' ctv)).get? b=some u:=λb u q=>L6 _ (hk b u q);have I2:=I1.un (h':=h'.push (kla_obj "<lambda>" (X.env.qual++"<lambda>") params body scope [(y,a)] ((X.mg "__name__").getD .none) c' ctv)) (t':=tk) (Un.kept hk2) (I1.hok.kept hk2);have I3:Inv X (pins++[(h'.objs.size,kla_obj "<lambda>" (X.env.qual++"<lambda>") params body scope [(y,a)] ((X.mg "__name__").getD .none) c' ctv)]) σ _ _:=I2.JK λq hq=>by
      rcases a0b.mp hq with hq|hq
      . exact I2.pin q (N9 _ hq)
      . rw[T0.mp hq]
        exact⟨O5 _ rfl,I1.hok.fresh hsz,a0a (N7 I1.lt hsz),I1.EW hsz,λv z=>by cases z⟩
    refine R8 (Xy (ny S hd hqn (hbind _ a c' ctv) (λA outer s H vs Q E=>Zn h'.objs.size a c' A outer s H vs Q E) hN hσ hy hay) (λq hq=>N9 _ hq) hr I3 (col hl I3) hq) (λz s3 ⟨y,H3,I4,ry,q4⟩=>⟨y,H3,I4.jN,ry,q4⟩) λ_ _ z=>z
end
def Xz(G:AH):HV->Option (List PV)
 |.v x=>uj x
 |.g k=>(match G[k]? with
  |some (.l xs)=>fg xs
  |_=>none)
 |_=>none
def XA(h:HH Z A H G)(r:j5 Z.W (HM Z A G.length) A G.length H x v)(e:Xz G x=some ys):∃l vs,v=.ref l/\An Z.W.K H l vs/\zX Z.W (HM Z A G.length) H ys vs:=by
 cases x with
 |v x=>exact nv (show Rep Z.W _ H x v from r) e
 |t xs=>cases e
 |g k=>
  obtain⟨_,rfl⟩:=r;have e:(match G[k]? with|some (.l xs)=>fg xs|_=>none)=some ys:=e;split at e
  .rename_i xs hc;obtain⟨vs,h1,q⟩:=h.cell k _ hc;exact⟨_,vs,rfl,.inl (SqL.of h1),Q6 e q⟩
  .cases e
def Ap(g:HP)(w:PV)(ys:HW):Option PV:=if ys.length<64 then(UI (λa=>g [a,w]) ys).map λkz=>.l ((cg kz).map λi=>ys.getD i .n)else none
def bx(lp cp:Nat)(qn:Str)(g:HP)(i:Nat)(ms:HMA):HME:=λρ G=>(ms ρ G).bind λxs G1=>match xs,ρ[i]? with
 |[x],some (some (.v w))=>(match(Xz G1 x).bind (Ap g w),G1[(0:Nat)]? with
  |some z,some (.y true)=>.ok (.v z) (G1.set 0 (.m lp cp qn))
  |some z,some (.m l c q)=>if l=lp/\c=cp/\q=qn then .ok (.v z) G1 else .wall
  |_,_=>.wall)
 |_,_=>.wall
def UJ{W:RC}{M:Hz}{g:HP}{w:PV}{vw:V}{c':Addr}{oc:Obj}{Q:List V->Hp->Prop}:∀{xs:HW}{vs acc:HF}{H:Hp}{kz:HY},zX W M H xs vs->Rep W M H w vw->H c'=some (.frz oc (.own c'))->UI (λx=>g [x,w]) xs=some kz->(∀H',zy H H'->Q (acc++kz.map V.int) H')->mY (spM (lsp W false [true,true] g) vw c' oc) vs acc H Q
 |[],_,acc,H,kz,hr,hw,hc,hk,q=>by cases(show _=_ from hr);cases hk;have:=q H (zy.refl _);rw[a2d,P7]at this;exact this
 |x::xs,_,acc,H,kz,hr,hw,hc,hk,q=>by
  obtain⟨v,r,rfl,h1,h2⟩:=hr;unfold UI at hk;split at hk
  .rename_i n hg;obtain⟨ks,e,rfl⟩:=u8.mp hk;refine⟨hc,M,[x,w],⟨x,v,[w],[vw],rfl,rfl,(by rw[if_pos rfl];exact h1.weak),w,vw,[],[],rfl,rfl,(by rw[if_pos rfl];exact hw.weak),rfl,rfl⟩,?_⟩;rw[hg];intro z H2 s hz;unfold RtV at hz;rw[if_neg M6]at hz;cases(show z=V.int n from hz);refine UJ (acc:=acc++[V.int n]) (h2.same s) (hw.same s) (s _ _ hc) e λH' s'=>?_;have:=q H' (s.trans s');rw[T7];exact this
  .cases hk
def rX(hca:X.calm=true)(hcd:X.env.code=.ref c)(T:m9 X.base X.mg c P)(hP:W.cls 1000=P)(hcl:∀a,X.env.cells.lookup y=some a->closureFor scope X.env=pure [(y,a)])(hdf:defaultsOf params X.env=([],[]))(S:nr x y scope)
  (hN:X.N[i]?=some y) (hy:X.env.scope.names.lookup y=some .cell)
  (hbind:∀(pm:Value)(a c':Addr)(ctv:Value)(s:Hy)(u:Value),BindsTo s (kla_fn "<lambda>" (X.env.qual++"<lambda>") params body scope [(y,a)] pm (.ref c') ctv) ⟨[u],[]⟩ [(x,u)])
  (Zn:∀(f a c':Addr)(A:Ia)(outer:List Env)(s:Hy)(H:Hp)(vs:HF)(Q:VK) (E:XK),jO k (A.deeper (envX (X.env.qual++"<lambda>") scope s.heap.objs.size f (.ref c') [(y,a)]))->lsp W false [true,true] g vs H Q E->∃te,PE (cxL (CXe X.prog X.w) X.prog X.w X.K X.mg X.base [x,y] (X.env.qual++"<lambda>") scope f (.ref c') [(y,a)] A outer s H E) body te/\te (start [x,y] vs) H Q)
  (hr:jO (k+1+2) X.A) (hg:Gl X "sorted") (hm:X.mg "sorted"=none) (ha:HA X W E [e] ms)
  (he1:backTo pos (starEach [e] X.env)=(false,eval e X.env)::backTo pos (starEach [] X.env):=by rfl) (hpl:(backTo pos (starEach [e] X.env)).any (·.1)=false:=by rfl):
  HE X W E (.Call (.Name "sorted" p) [e] [⟨some "key",.Lambda params body scope lpos,kpos⟩] pos) (bx lpos.line lpos.col (X.env.qual++"<lambda>") g i ms):=λhK=>by
 obtain⟨ta,a1,a2⟩:=ha hK;refine⟨_,rV (k:=k) (sp:=lsp W false [true,true] g) hca hcd T.hd T.bl T.ne hcl hdf S hN hy hbind Zn hr hg hm a1 he1 hpl,λZ hZ A H σ ρ G R Q q=>a2 Z hZ A H σ ρ G R _ (HPx.bind q λxs A1 H1 G1 h1 g1 q1 vs rs=>?_)⟩;subst hZ;split at q1
 rotate_left
 .exact q1.elim
 rename_i x0 w hw;obtain⟨v,r,rfl,hv,hr'⟩:=rs;cases(show _=_ from hr');obtain⟨vw,hσ,rw0⟩:=R.var i _ hw;have rw1:Rep Z.W (HM Z A1 G1.length) H1 w vw:=(show j5 Z.W (HM Z A1 G1.length) A1 G1.length H1 (.v w) vw from rw0.gro g1);have sc:∀{z:PV},(Xz G1 x0).bind (Ap g w)=some z->∃ys kz,Xz G1 x0=some ys/\ys.length<64/\UI (λa=>g [a,w]) ys=some kz/\z=.l ((cg kz).map λi=>ys.getD i .n):=λhsz=>by
  obtain⟨ys,hys,hs⟩:=O4.mp hsz;unfold Ap at hs;by_cases h64:ys.length<64
  rotate_left
  .rw[if_neg h64]at hs;cases hs
  rw[if_pos h64]at hs;obtain⟨kz,hkz,rfl⟩:=u8.mp hs;exact⟨ys,kz,hys,h64,hkz,rfl⟩
 split at q1
 .rename_i z hsz hy0;obtain⟨ys,kz,hys,h64,hkz,rfl⟩:=sc hsz;obtain⟨l,us,rfl,hits,rr⟩:=XA h1 hv hys;obtain⟨e1,ps,e2,e3⟩:=h1.cell 0 _ hy0;have e3:=e3 rfl;subst e3;have hk0:0<G1.length:=(N5.mp hy0).1;rw[hP]at e1;have hlen:us.length=ys.length:=(zX.len rr).symm▸rfl;refine⟨vw,l,us,#[],hσ,rfl,by rw[hK];exact hits,by rw[<- e1];exact e2,.inl ⟨rfl,λc' oc ws t hd hqn hc0 hcP=>?_⟩⟩;rw[<- e1]at hcP ⊢;have sc0:zy H1 (upd H1 c' (.frz oc (.own c'))):=zy.upd hc0;have hcomm:upd (upd H1 (A1 0) (.tbl #[rawInt lpos.line,rawInt lpos.col,.ref c'])) c' (.frz oc (.own c'))=upd (upd H1 c' (.frz oc (.own c'))) (A1 0) (.tbl #[rawInt lpos.line,rawInt lpos.col,.ref c']):=pE (Ne.symm hcP);rw[hcomm];have h1':=h1.keep sc0;have e2':upd H1 c' (.frz oc (.own c')) (A1 0)=some (.tbl #[]):=sc0 _ _ e2;have g2:=h1'.frw (o:=.tbl #[rawInt lpos.line,rawInt lpos.col,.ref c']) hk0 e2' id;have h2:=h1'.write (c:=.m lpos.line lpos.col (X.env.qual++"<lambda>")) (o:=.tbl #[rawInt lpos.line,rawInt lpos.col,.ref c']) hk0 e2' id ⟨e1.trans hP.symm,_,zd,c',oc,ws,t,rfl,by rw[zg hcP];exact zd,hd,hqn⟩;have hgl:(G1.set 0 (.m lpos.line lpos.col (X.env.qual++"<lambda>"))).length=G1.length:=S4 ..;have g3:=(Gro.same (Z:=Z) (A:=A1) (n:=G1.length) sc0).trans g2;have rr2:=zX.gen g3.fr g3.sM rr;have rw2:=Rep.gen g3.fr g3.sM rw1;refine⟨by omega,UJ rr2 rw2 (by rw[zg hcP];exact zd) hkz λH' s=>⟨kz,by rw[V5 hkz,hlen],by rw[a1A],λa ha=>?_⟩⟩;have sa:=zy.upd (o:=.lst ((cg kz).map λi=>us.getD i .non)) ha;have h3:=(h2.keep s).keep sa;refine q1 A1 _ h3 (by rw[hgl];exact g3.trans (Gro.same (s.trans sa))) (.ref a) ?_;rw[hgl];have nw:=(h2.keep s).new a ha;rw[hgl]at nw;exact⟨a,_,rfl,nw,zd,zX.same ((rr2.same s).mZ _) sa⟩
 .rename_i z l0 c0 q0 hsz hy0;split at q1
  rotate_left
  .exact q1.elim
  rename_i hlc;obtain⟨rfl,rfl,rfl⟩:=hlc;obtain⟨ys,kz,hys,h64,hkz,rfl⟩:=sc hsz;obtain⟨l,us,rfl,hits,rr⟩:=XA h1 hv hys;obtain⟨e1,ps,e2,c',oc,ws,t,rfl,hc',hd,hqn⟩:=h1.cell 0 _ hy0;rw[hP]at e1;have hlen:us.length=ys.length:=(zX.len rr).symm▸rfl;refine⟨vw,l,us,_,hσ,rfl,by rw[hK];exact hits,by rw[<- e1];exact e2,.inr ⟨c',oc,ws,t,rfl,hc',hd,hqn,by omega,UJ rr rw1 hc' hkz λH' s=>⟨kz,by rw[V5 hkz,hlen],by rw[a1A],λa ha=>?_⟩⟩⟩;have sa:=zy.upd (o:=.lst ((cg kz).map λi=>us.getD i .non)) ha;have h3:=(h1.keep s).keep sa;exact q1 A1 _ h3 (Gro.same (s.trans sa)) (.ref a) ⟨a,_,rfl,(h1.keep s).new a ha,zd,zX.same ((rr.same s).mZ _) sa⟩
 .exact q1.elim
def ER(m mh:HME):HME:=λρ G=>(m ρ G).bind λx G1=>(mh ρ G1).bind λy G2=>match x,y with
 |.v (.l xs),.v (.i n)=>.ok (.g G2.length) (G2++[.l ((cf xs none (some n)).map .v)])
 |_,_=>.wall
def Dz(h:HE X W E e m)(hh:HE X W E hi mh):HE X W E (.Subscript e (.Slice none (some hi) none p2) pos) (ER m mh):=λhK=>by
 obtain⟨te,a1,a2⟩:=h hK;obtain⟨th,b1,b2⟩:=hh hK;refine⟨_,ej iO a1 iK (iL b1),λZ hZ A H σ ρ G R Q q=>a2 Z hZ A H σ ρ G R _ (HPx.bind q λx A1 H1 G1 h1 g1 q1 v rx=>b2 Z hZ A1 H1 σ ρ G1 (R.gro h1 g1) _ (HPx.bind q1 λy A2 H2 G2 h2 g2 q2 u ru=>?_))⟩;split at q2
 rotate_left
 .exact q2.elim
 rename_i xs n;cases(show u=V.int n from ru);obtain⟨l,vs,rfl,_,hl,rr⟩:=(show Rep Z.W _ H2 (.l xs) v from rx.gro g2);refine⟨n,rfl,l,vs,rfl,SqL.of hl,λa ha=>?_⟩;refine df (c:=.l ((cf xs none (some n)).map .v)) h2 (zy.upd ha) ha ⟨_,zd,?_⟩ q2;have g3:Gro Z A2 G2.length H2 (exA A2 G2.length a) (G2.length+1) (upd H2 a (.lst (o_ vs none (some n)))):=Gro.ext (zy.upd ha) ha;exact ng (zX.gen g3.fr g3.sM rr.cut)
section
variable {X:Cx}{W:RC}{E:XK}{e:HJ}{es:HD}{pos p:Pos}{ms:MA}{x:Str}{k:Nat}{f:Addr}{fd:Ib}{ps:Hx}{g:HP}{ws:HI}{S:Ht}{fr fr':Bool}
def Hj(bs:HI)(F:jr X.prog X.w X.K X.mg X.base (CXe X.prog X.w) k f fd ps (lsp W fr' ws g))(hr:jO k X.A)(hg:Gl X x)(hm:X.mg x=some (.ref f))(hk:keepIn X.K (.ref f)=true)(hb:Binds X.K fd ps [])(ha:AM X.nox ⟨W,E0,fr⟩ S ws (e::es) ms)(hS:S.all (·==0)=true:=by rfl)
  (hdb:(x==("__debug__":Str))=false:=by decide) (he:starEach (e::es) X.env=(false,eval e X.env)::starEach es X.env:=by rfl) (hpl:(backTo pos (starEach es X.env)).any (·.1)=false:=by rfl):HEX X W (.Call (.Name x p) (e::es) [] pos) (hP bs (eX g ms)):=λhK=>by
 obtain⟨ta,a1,a2⟩:=ha hK;refine⟨_,eE F hr hg hm hk hb a1 hdb he hpl,λZ hZ A H σ ρ G R Q Zx q=>Gw (E:=Zx) (fr:=fr) (te:=λσ H Q=>ta σ H λvs H1=>lsp W fr' ws g vs H1 Q Zx) bs ?_ hS Z hZ A H σ ρ G R Q q⟩;intro B P H σ ρ R Q q;refine a2 B P H σ ρ R _ ?_;unfold eX at q;revert q;cases ms ρ with
 |exc c fs=>exact λq=>q.elim
 |wall=>exact id
 |ok xs=>intro q vs H1 s1 r1;refine⟨_,xs,r1.args,?_⟩;exact tR (C:=⟨W,Zx,fr⟩) (R.keep s1) (YG (C:=⟨W,Zx,fr⟩) (o:=g xs) q s1)
def Bt(t:HMT)(a b:HMS):HMS:=λρ G=>match t ρ G with
 |.ok c G1=>if c=true then a ρ G1 else b ρ G1
 |_=>.wall
def FZ(hc:HT X.nox W E0 c t)(ha:HXS X W a m1)(hb:HXS X W b m2):HXS X W [.If c a b pos] (Bt t m1 m2):=λhK=>by
 obtain⟨tc,c1,c2⟩:=hc hK;obtain⟨ta,a1,a2⟩:=ha hK;obtain⟨tb,b1,b2⟩:=hb hK;refine⟨_,eF (Ce c1 a1 b1),λZ hZ A H σ ρ G R D Zx q=>c2 Z hZ A H σ ρ G R _ ?_⟩;unfold Bt at q;revert q;cases t ρ G with
 |wall=>exact id
 |exc c fs G'=>exact λq=>q.elim
 |ok c G1=>
  intro q A1 H1 h1 g1;have q:HPs Z Zx A G.length H D (if c=true then m1 ρ G1 else m2 ρ G1):=q;have R1:=R.gro h1 g1;cases c with
  |true=>have q:HPs Z Zx A G.length H D (m1 ρ G1):=q;exact a2 Z hZ A1 H1 σ ρ G1 R1 D Zx (HPs.gro (o:=m1 ρ G1) q g1)
  |false=>have q:HPs Z Zx A G.length H D (m2 ρ G1):=q;exact b2 Z hZ A1 H1 σ ρ G1 R1 D Zx (HPs.gro (o:=m2 ρ G1) q g1)
end
end L2
namespace L2
section
variable {κ α:Type}[DecidableEq κ]
def qY{k j:κ}{v:α}{r:List (κ×α)}:qV ((j,v)::r) k=if j=k then some v else qV r k:=by
 unfold qV;rw[a1C];by_cases h:j=k
 .simp[h]
 .simp[h]
def UK:∀{kvs:List (κ×α)}{k:κ},kvs.any (λkv=>decide (kv.1=k))=(qV kvs k).isSome
 |[],_=>rfl
 | (j,v)::r,k=>by
  rw[a0m,qY,UK];by_cases h:j=k
  .simp[h]
  .simp[h]
def Q_:∀{a:List (κ×α)}{k:κ}{v:α},qV a k=some v->(k,v)∈a
 |[],_,_,e=>by cases e
 | (j,u)::a,k,v,e=>by
  rw[qY]at e;split at e
  .rename_i h;subst h;cases e;exact M3
  .exact L9 _ (Q_ e)
def rY{a:List (κ×α)}{k:κ}:(qV a k).isSome=true↔k∈a.map (·.1):=by
 rw[<- UK,List.any_eq_true];constructor
 .rintro ⟨kv,h,e⟩;exact N6.mpr ⟨kv,h,a0F e⟩
 .intro h;obtain⟨kv,h,e⟩:=N6.mp h;exact⟨kv,h,L8 e⟩
def ju:∀{a:List (κ×α)}{k:κ}{v:α},(a.map (·.1)).Nodup->(k,v)∈a->qV a k=some v
 | (j,u)::a,k,v,nd,h=>by
  obtain⟨n1,n2⟩:=a0d.mp nd;rw[qY];rcases O0.mp h with e|h
  .cases e;rw[if_pos rfl]
  .rw[if_neg (λz=>n1 (N6.mpr ⟨_,h,z.symm⟩))];exact ju n2 h
end
end L2
namespace K48
open PySem L2
noncomputable section NCS
def top(i:Nat):Stmt:=PySem.Challenge.pw_fleetpath_k48_care.main.body.getD i (.Pass ⟨0,0,0,0⟩)
abbrev JX:Stmt:=top 30
abbrev ZZ:Stmt:=top 33
abbrev V6:Stmt:=top 34
abbrev vJ:Stmt:=inClass (top 5) 0
abbrev Z0:Stmt:=top 13
abbrev vL:Stmt:=inClass (top 3) 0
abbrev vM:Stmt:=top 10
abbrev Z1:Stmt:=inClass (top 6) 0
abbrev qZ:Stmt:=top 12
abbrev j7:Stmt:=inClass (top 4) 0
abbrev j8:Stmt:=top 11
abbrev wL:Stmt:=top 19
abbrev Z2:Stmt:=top 22
abbrev q_:Stmt:=top 20
abbrev UL:Stmt:=top 21
abbrev jv:Stmt:=top 23
abbrev vN:Stmt:=inClass (top 17) 0
abbrev vO:Stmt:=top 24
abbrev wM:Stmt:=top 25
abbrev vP:Stmt:=inClass (top 18) 0
abbrev vQ:Stmt:=top 26
abbrev UM:Stmt:=top 27
abbrev nB:Stmt:=top 28
abbrev wN:Stmt:=top 36
abbrev QB:Stmt:=top 37
abbrev QC:Stmt:=top 35
abbrev Z3:Stmt:=top 38
abbrev QD:Stmt:=top 39
abbrev QE:Stmt:=top 40
abbrev QF:Stmt:=top 41
abbrev JY:Stmt:=top 31
abbrev JZ:Stmt:=top 32
abbrev Aq:Stmt:=top 42
def scB(N P:Hx)(sc:Scope):Bool:=(match sc.kind with | .function=>true|_=>false)&&(!sc.isCoroutine&&(!sc.isGenerator&&(decide N.Nodup&&(decide (N.take P.length=P)&&(P.all (λx=>match sc.names.lookup x with|some .local=>true|some .cell=>true|_=>false)&&sc.names.all λy=>match y.2 with | .free=>false|_=>true)))))
def YV(h:scB N P sc=true):zv N P sc:=by
 unfold scB at h;simp only[Bool.and_eq_true,decide_eq_true_eq,List.all_eq_true]at h;obtain⟨h1,h2,h3,h4,h5,h6,h7⟩:=h;refine⟨?_,by simpa using h2,by simpa using h3,h4,h5,λx hx=>?_,λy hy e=>?_⟩
 .revert h1;cases sc.kind<;>simp
 .have:=h6 x hx;split at this<;>simp_all
 .have:=h7 y hy;rw[e]at this;cases this
def QG:zv ["_law_script","_law_k","_law_many","_law_cell"] ["_law_script","_law_k","_law_many"] (zj JX):=YV (by decide +kernel)
def zw:zv ["_law_script","_law_weeks","_law_k","_law_at","_law_name_here","_law_metre","_law_due_here","_law_loads","_law_way","_law_bad","_law_names"] ["_law_script","_law_weeks"] (zj ZZ):=YV (by decide +kernel)
def qr:zv ["_law_weeks","_law_seen","_law_name_here","_law_metre","_law_due_here","_law_loads","_law_sign","_law_value","_law_least"] ["_law_weeks"] (zj V6):=YV (by decide +kernel)
def V7:zv ["self","most"] ["self","most"] (zj vJ):=YV (by decide +kernel)
def UN:zv ["things","most"] ["things","most"] (zj Z0):=YV (by decide +kernel)
def V8:zv ["self","name"] ["self","name"] (zj vL):=YV (by decide +kernel)
def Z4:zv ["name","sign"] ["name"] (zj vM):=YV (by decide +kernel)
def UO:zv ["self","name"] ["self","name"] (zj Z1):=YV (by decide +kernel)
def QH:zv ["name","had"] ["name","had"] (zj qZ):=YV (by decide +kernel)
def J3:zv ["self","value"] ["self","value"] (zj j7):=YV (by decide +kernel)
def J6:zv ["value","least"] ["value","least"] (zj j8):=YV (by decide +kernel)
def yF:zv ["weeks","had","name","metre","due","loads","load"] ["weeks"] (zj wL):=YV (by decide +kernel)
def UP:zv ["metre","due","loads"] ["metre","due","loads"] (zj Z2):=YV (by decide +kernel)
def qJ:zv ["metre","due","loads","night","ahead","behind"] ["metre","due","loads","night"] (zj q_):=YV (by decide +kernel)
def nC:zv ["metre","due","loads"] ["metre","due","loads"] (zj UL):=YV (by decide +kernel)
def yb:zv ["weeks","chosen","name","metre","due","loads"] ["weeks"] (zj jv):=YV (by decide +kernel)
def V9:zv ["self","name"] ["self","name"] (zj vN):=YV (by decide +kernel)
def Z5:zv ["chosen","name"] ["chosen"] (zj vO):=YV (by decide +kernel)
def WV:zv ["chosen","first","last"] ["chosen","first","last"] (zj wM):=YV (by decide +kernel)
def V_:zv ["self","first","last","cars"] ["self","first","last","cars"] (zj vP):=YV (by decide +kernel)
def ja:zv ["chosen","bays","first","last","cars"] ["chosen","bays"] (zj vQ):=YV (by decide +kernel)
def Z6:zv ["chosen","bays","told","night","waiting","name"] ["chosen","bays"] (zj UM):=YV (by decide +kernel)
def dq:zv ["weeks","bays","chosen","told"] ["weeks","bays"] (zj nB):=YV (by decide +kernel)
def vR:zv ["_law_e","_law_kinds"] ["_law_e"] (zj wN):=YV (by decide +kernel)
def jY:zv ["_law_weeks","_law_bays","_law_told","_law_e"] ["_law_weeks","_law_bays"] (zj QB):=YV (by decide +kernel)
def qh:zv ["_law_weeks","_law_needs_here","_law_name_here","_law_metre","_law_due_here","_law_loads","_law_night"] ["_law_weeks"] (zj QC):=YV (by decide +kernel)
def UQ:zv ["_law_one"] ["_law_one"] (zj Z3):=YV (by decide +kernel)
def Ks:zv ["_law_first","_law_last","_law_cars","_law_needs_here","_law_bays","_law_k"] ["_law_first","_law_last","_law_cars","_law_needs_here","_law_bays"] (zj QD):=YV (by decide +kernel)
def Z7:zv ["_law_told","_law_weeks","_law_needs_here","_law_bays","_law_taken","_law_name_here"] ["_law_told","_law_weeks","_law_needs_here","_law_bays"] (zj QE):=YV (by decide +kernel)
def jZ:zv ["_law_weeks","_law_bays","_law_needs_here","_law_word","_law_told","_law_name_here"] ["_law_weeks","_law_bays"] (zj QF):=YV (by decide +kernel)
def QI:zv ["_law_script","_law_k","_law_number_here","_law_ahead","_law_behind"] ["_law_script","_law_k","_law_number_here"] (zj JY):=YV (by decide +kernel)
def z0:zv ["_law_script","_law_k","_law_scale","_law_loads","_law_j","_law_load","_law_metre","_law_spot","_law_way","_law_due_here"] ["_law_script","_law_k"] (zj JZ):=YV (by decide +kernel)
def Zr:zv ["_law_script","_law_good","_law_bays","_law_weeks","_law_kept","_law_due_here","_law_word","_law_told"] ["_law_script"] (zj Aq):=YV (by decide +kernel)
abbrev NsN(K:Io)(x:Str):Prop:=W.nsIn K mainGlobals x=some none
abbrev NsR(K:Io)(x:Str)(c:Addr):Prop:=W.nsIn K mainGlobals x=some (some (.ref c))
abbrev ik(K:Io)(x y:Addr):Prop:=W.kitOne K (.ref x) (.ref y)=some true
abbrev qR(K:Io)(x y:Addr):Prop:=W.kitOne K (.ref x) (.ref y)=some false
def ev(i:Nat)(hN:X.N[i]?=some x:=by rfl)(hv:Vis X.env.scope x:=by first|exact Or.inl rfl|exact Or.inr (Or.inl rfl)|exact Or.inr (Or.inr rfl))(hd:(x==("__debug__":Str))=false:=by decide)(hcd:(x==("__classdict__":Str))=false:=by decide):EM X C S true (.Name x pos) (zc i):=Cr (pv i hN hv hd hcd)
def ei{j}:EM X C S false (.Constant (.int i) j pos) (mC (.i i)):=Kj BB
def rm(hr:jO k A)(h:j<=k:=by decide):jO j A:=hr.mono h
def DA(h1:W.findIn K (.ref C) "__init__"=some (some (.ref f)))(h2:K.lookup C=some (excClassObj nm q C N bs bm true sn sub ab col dd k0 k1 k2 k3 k5 "ValueError.__new__"))(h3:aL K bm=true)(h4:W.typeIn K (.ref f)=some (.type "function"))(h5:W.keepIn K (.ref C)=true):XMk K C f:=⟨⟨_,_,_,_,_,_,_,_,_,_,_,_,_,_,_,h2,h3⟩,h1,h4,h5⟩
abbrev fnT(st:Ir)(sh q:Str)(kV dc pm:Value)(an:Iq)(cd ct:Value):FuncData:=W.fnOf sh q (VI st) (kB st) (zj st) .none kV dc pm an cd ct
abbrev DfN(K:Io)(x:Str)(st:Ir)(f:Addr)(fd:Ib):Prop:=W.nsIn K mainGlobals x=some (some (.ref f))/\Fun K x x st f fd
structure Def(K:Io)(mg:Hv)(x:Str)(st:Ir)(ps:Hx)(f:Addr)(fd:Ib):Prop where
 g:mg x=some (.ref f)
 F:Fun K x x st f fd
 b:Binds K fd ps []
def Def.k(D:Def K mg x st ps f fd):W.keepIn K (.ref f)=true:=D.F.kp
abbrev BN(x q:Str)(st:Ir)(ps:Hx):Prop:=∀(kV dc pm:Value)(an:Iq)(cd ct:Value)(us:HB),us.length=ps.length->bindArgs (fnT st x q kV dc pm an cd ct) ⟨us,[]⟩=pure (ps.zip us)
def yP(X:K.In h)(G:h.Ns mainGlobals mg)(D:DfN K x st f fd)(b:BN x x st ps):Def K mg x st ps f fd:=⟨a0J X G D.1,D.2,D.2.binds b⟩
def fz{P:ID}:∀c∈([]:List Nat),P c:=λ_ h=>nomatch h
def fa{P:ID}{a:Nat}{l:Ht}(h:P a)(t:∀c∈l,P c):∀c∈a::l,P c:=λc hc=>(O0.mp hc).elim (λe=>e▸h) (t c)
def ec{X:Cx}{C:LC}{S:Ht}{k j:Nat}{f:Addr}{fd:Ib}{ps:Hx}{fr:Bool}{ws:HI}{g:HP}{x:Str}{st:Ir}{e:HJ}{es:HD}{ms:MA}{p pos:Pos}(F:jr X.prog X.w X.K X.mg X.base (CXe X.prog X.w) k f fd ps (lsp C.W fr ws g))(hr:jO j X.A)(D:Def X.K X.mg x st ps f fd)(hx:Passes (CXe X.prog X.w) X C.E)(ha:AM X C S ws (e::es) ms)(hj:k<=j:=by decide)(hg:Gl X x:=by rfl)
  (hdb:(x==("__debug__":Str))=false:=by decide) (he:starEach (e::es) X.env=(false,eval e X.env)::starEach es X.env:=by rfl) (hpl:(backTo pos (starEach es X.env)).any (·.1)=false:=by rfl):EM X C S false (.Call (.Name x p) (e::es) [] pos) (zh g ms):=xI F (hr.mono hj) hg D.g D.k D.b hx ha hdb he hpl
def gn(i:Nat)(hN:X.N.Nodup)(hi:X.N[i]?=some x:=by rfl)(hx:Loc X.env.scope x:=by exact .inl rfl)(hf:X.fn x=true\/X.env.scope.names.lookup x=some .local:=by first|exact .inl rfl|exact .inr rfl|assumption):GM X C S (S.set i 0) (.Name x pos) (gNm i):=qW hN hi hx hf
def se(i:Nat)(hN:X.N.Nodup)(h:EM X C S false e m)(hi:X.N[i]?=some x:=by rfl)(hx:Loc X.env.scope x:=by exact .inl rfl)(hs:swapsWith e (some (.Name x pos')) pos.line X.env=pure false:=by rfl)(hf:X.fn x=true\/X.env.scope.names.lookup x=some .local:=by first|exact .inl rfl|exact .inr rfl|assumption):SM X C S (S.set i 0) Sb Sc (.Assign [.Name x pos'] e pos) (js i m):=CV hN hi hx h hs hf
def ix(hr:jO k X.A)(h1:EM X C S w1 a m1)(h2:EM X C S w2 b m2)(hs:X7 b:=by intro _ _;rfl):EM X C S false (.Subscript a b pos) (mOp pIx m1 m2):=aV (ZT hr) h1 h2 hs
def hse(i:Nat)(hN:X.N.Nodup)(h:HE X W E e m)(hi:X.N[i]?=some x:=by rfl)(hx:Loc X.env.scope x:=by exact .inl rfl)(hs:swapsWith e (some (.Name x pos')) pos.line X.env=pure false:=by rfl)(hf:X.fn x=true\/X.env.scope.names.lookup x=some .local:=by first|exact .inl rfl|exact .inr rfl|assumption):HS X W E (.Assign [.Name x pos'] e pos) (wo i m):=mQ hN hi hx h hs hf
def hp(h:EM X ⟨W,E,false⟩ (List.replicate 30 0) false e m):HE X W E e (hP bs m):=Hg bs h (a0j.mpr λ_ h=>by rw[a2n h];rfl)
def hf(h:FM X ⟨W,E,false⟩ (List.replicate 30 0) e m):HE X W E e (hF bs m):=Hh bs h (a0j.mpr λ_ h=>by rw[a2n h];rfl)
def bn1(h:∀kV dc pm an cd ct u0,bindArgs (fnT st x q kV dc pm an cd ct) ⟨[u0],[]⟩=pure (ps.zip [u0]):=by intros;rfl)(hp:ps.length=1:=by rfl):BN x q st ps:=λkV dc pm an cd ct us hl=>FH (P:=λus=>bindArgs (fnT st x q kV dc pm an cd ct) ⟨us,[]⟩=pure (ps.zip us)) (hl.trans hp) λu0=>h kV dc pm an cd ct u0
def bn2(h:∀kV dc pm an cd ct u0 u1,bindArgs (fnT st x q kV dc pm an cd ct) ⟨[u0,u1],[]⟩=pure (ps.zip [u0,u1]):=by intros;rfl)(hp:ps.length=2:=by rfl):BN x q st ps:=λkV dc pm an cd ct us hl=>FI (P:=λus=>bindArgs (fnT st x q kV dc pm an cd ct) ⟨us,[]⟩=pure (ps.zip us)) (hl.trans hp) λu0 u1=>h kV dc pm an cd ct u0 u1
def bn3(h:∀kV dc pm an cd ct u0 u1 u2,bindArgs (fnT st x q kV dc pm an cd ct) ⟨[u0,u1,u2],[]⟩=pure (ps.zip [u0,u1,u2]):=by intros;rfl)(hp:ps.length=3:=by rfl):BN x q st ps:=λkV dc pm an cd ct us hl=>FJ (P:=λus=>bindArgs (fnT st x q kV dc pm an cd ct) ⟨us,[]⟩=pure (ps.zip us)) (hl.trans hp) λu0 u1 u2=>h kV dc pm an cd ct u0 u1 u2
def bn4(h:∀kV dc pm an cd ct u0 u1 u2 u3,bindArgs (fnT st x q kV dc pm an cd ct) ⟨[u0,u1,u2,u3],[]⟩=pure (ps.zip [u0,u1,u2,u3]):=by intros;rfl)(hp:ps.length=4:=by rfl):BN x q st ps:=λkV dc pm an cd ct us hl=>FK (P:=λus=>bindArgs (fnT st x q kV dc pm an cd ct) ⟨us,[]⟩=pure (ps.zip us)) (hl.trans hp) λu0 u1 u2 u3=>h kV dc pm an cd ct u0 u1 u2 u3
def bn5(h:∀kV dc pm an cd ct u0 u1 u2 u3 u4,bindArgs (fnT st x q kV dc pm an cd ct) ⟨[u0,u1,u2,u3,u4],[]⟩=pure (ps.zip [u0,u1,u2,u3,u4]):=by intros;rfl)(hp:ps.length=5:=by rfl):BN x q st ps:=λkV dc pm an cd ct us hl=>FL (P:=λus=>bindArgs (fnT st x q kV dc pm an cd ct) ⟨us,[]⟩=pure (ps.zip us)) (hl.trans hp) λu0 u1 u2 u3 u4=>h kV dc pm an cd ct u0 u1 u2 u3 u4
structure Adr where
 (yT zM zu zN yr zO zx zi ql vh v3 qo v5 y6 Yw yd ke zt zL qO yc Zb z6 v7 yH qv v8 ym f7 uY zP WB WC yE jK jL WD jM qQ Eu g_ hU:Addr)
 (XR KG bY v9 KH v_ Y6 Yx vC kf Zw Jw KI vD f9 wz wa Y7 Jx wb Y8 U6 uZ Jy WE WG KJ WH WI WJ XS XT Ew:Ib)
 (Bf bZ Xb b7 Ex:Tok)
abbrev Gy(K:Io)(mg:Hv)(a:Adr):Prop:=
 (mg "LIMIT"=some (.int 1000000000 a.Bf))/\
 (mg "NAME_SIGNS"=some (.str "abcdefghijklmnopqrstuvwxyz0123456789" a.bZ))/\
 (mg "LONGEST_NAME"=some (.int 12 a.Xb))/\
 (mg "MOST_WEEKS"=some (.int 40 a.b7))/\
 (mg "DAYS"=some (.int 7 a.Ex))/\
 (mg "FleetError"=some (.ref a.yT))/\
 (mg "BadName"=some (.ref a.zM))/\
 (mg "BadNumber"=some (.ref a.zu))
abbrev Gz(K:Io)(mg:Hv)(a:Adr):Prop:=
 (mg "TooMany"=some (.ref a.zN))/\
 (mg "Twice"=some (.ref a.yr))/\
 (mg "NoNight"=some (.ref a.zO))/\
 (mg "Crowded"=some (.ref a.zx))/\
 (mg "ValueError"=none)/\
 (mg "bool"=none)/\
 (mg "dict"=none)/\
 (mg "int"=none)
abbrev Txt2(K:Io)(mg:Hv)(a:Adr):Prop:=
 (mg "isinstance"=none)/\
 (mg "len"=none)/\
 (mg "list"=none)/\
 (mg "max"=none)/\
 (mg "min"=none)/\
 (mg "range"=none)/\
 (mg "sorted"=none)/\
 (mg "str"=none)
abbrev GA(K:Io)(mg:Hv)(a:Adr):Prop:=
 (mg "sum"=none)/\
 (Def K mg "_law_draw" JX ["_law_script","_law_k","_law_many"] a.zi a.XR)/\
 (Def K mg "_law_spoilt" ZZ ["_law_script","_law_weeks"] a.ql a.KG)/\
 (Def K mg "_law_due" V6 ["_law_weeks"] a.vh a.bY)/\
 (Fun K "__init__" "TooMany.__init__" vJ a.v3 a.v9)/\
 (Binds K a.v9 ["self","most"] [])/\
 (Def K mg "check_most" Z0 ["things","most"] a.qo a.KH)/\
 (Fun K "__init__" "BadName.__init__" vL a.v5 a.v_)
abbrev GB(K:Io)(mg:Hv)(a:Adr):Prop:=
 (Binds K a.v_ ["self","name"] [])/\
 (Def K mg "checked_name" vM ["name"] a.y6 a.Y6)/\
 (Fun K "__init__" "Twice.__init__" Z1 a.Yw a.Yx)/\
 (Binds K a.Yx ["self","name"] [])/\
 (Def K mg "checked_new_name" qZ ["name","had"] a.yd a.vC)/\
 (Fun K "__init__" "BadNumber.__init__" j7 a.ke a.kf)/\
 (Binds K a.kf ["self","value"] [])/\
 (Def K mg "checked_number" j8 ["value","least"] a.zt a.Zw)
abbrev GC(K:Io)(mg:Hv)(a:Adr):Prop:=
 (Def K mg "check_weeks" wL ["weeks"] a.zL a.Jw)/\
 (Def K mg "needs_care" Z2 ["metre","due","loads"] a.qO a.KI)/\
 (Def K mg "can_be_cared_for" q_ ["metre","due","loads","night"] a.yc a.vD)/\
 (Def K mg "nights" UL ["metre","due","loads"] a.Zb a.f9)/\
 (Def K mg "nights_of_needy" jv ["weeks"] a.z6 a.wz)/\
 (Fun K "__init__" "NoNight.__init__" vN a.v7 a.wa)/\
 (Binds K a.wa ["self","name"] [])/\
 (Def K mg "check_served" vO ["chosen"] a.yH a.Y7)
abbrev GD(K:Io)(mg:Hv)(a:Adr):Prop:=
 (Def K mg "cars_within" wM ["chosen","first","last"] a.qv a.Jx)/\
 (Fun K "__init__" "Crowded.__init__" vP a.v8 a.wb)/\
 (Binds K a.wb ["self","first","last","cars"] [])/\
 (Def K mg "check_crowds" vQ ["chosen","bays"] a.ym a.Y8)/\
 (Def K mg "served" UM ["chosen","bays"] a.f7 a.U6)/\
 (Def K mg "care" nB ["weeks","bays"] a.uY a.uZ)/\
 (Def K mg "_law_refusal" wN ["_law_e"] a.zP a.Jy)/\
 (Def K mg "_law_asked" QB ["_law_weeks","_law_bays"] a.WB a.WE)
abbrev GF(K:Io)(mg:Hv)(a:Adr):Prop:=
 (Def K mg "_law_needs" QC ["_law_weeks"] a.WC a.WG)/\
 (Def K mg "_law_number" Z3 ["_law_one"] a.yE a.KJ)/\
 (Def K mg "_law_crowd" QD ["_law_first","_law_last","_law_cars","_law_needs_here","_law_bays"] a.jK a.WH)/\
 (Def K mg "_law_cared" QE ["_law_told","_law_weeks","_law_needs_here","_law_bays"] a.jL a.WI)/\
 (Def K mg "_law_right" QF ["_law_weeks","_law_bays"] a.WD a.WJ)/\
 (Def K mg "_law_name" JY ["_law_script","_law_k","_law_number_here"] a.jM a.XS)/\
 (Def K mg "_law_week" JZ ["_law_script","_law_k"] a.qQ a.XT)/\
 (Def K mg "law" Aq ["_law_script"] a.Eu a.Ew)
abbrev GG(K:Io)(mg:Hv)(a:Adr):Prop:=
 (QV K a.zM)/\
 (XIs K a.zM)/\
 (XMk K a.zM a.v5)/\
 (Catch K a.zM a.yT true)/\
 (W.takerIn K a.zM "name"=some none)/\
 (W.findIn K (.ref a.zM) "name"=some none)/\
 (QV K a.zu)/\
 (XIs K a.zu)
abbrev GH(K:Io)(mg:Hv)(a:Adr):Prop:=
 (XMk K a.zu a.ke)/\
 (Catch K a.zu a.yT true)/\
 (W.takerIn K a.zu "value"=some none)/\
 (W.findIn K (.ref a.zu) "value"=some none)/\
 (QV K a.zN)/\
 (XIs K a.zN)/\
 (XMk K a.zN a.v3)/\
 (Catch K a.zN a.yT true)
abbrev DB(K:Io)(mg:Hv)(a:Adr):Prop:=
 (W.takerIn K a.zN "most"=some none)/\
 (W.findIn K (.ref a.zN) "most"=some none)/\
 (QV K a.yr)/\
 (XIs K a.yr)/\
 (XMk K a.yr a.Yw)/\
 (Catch K a.yr a.yT true)/\
 (W.takerIn K a.yr "name"=some none)/\
 (W.findIn K (.ref a.yr) "name"=some none)
abbrev DC(K:Io)(mg:Hv)(a:Adr):Prop:=
 (QV K a.zO)/\
 (XIs K a.zO)/\
 (XMk K a.zO a.v7)/\
 (Catch K a.zO a.yT true)/\
 (W.takerIn K a.zO "name"=some none)/\
 (W.findIn K (.ref a.zO) "name"=some none)/\
 (QV K a.zx)/\
 (XIs K a.zx)
abbrev DD(K:Io)(mg:Hv)(a:Adr):Prop:=
 (XMk K a.zx a.v8)/\
 (Catch K a.zx a.yT true)/\
 (W.takerIn K a.zx "first"=some none)/\
 (W.findIn K (.ref a.zx) "first"=some none)/\
 (W.takerIn K a.zx "last"=some none)/\
 (W.findIn K (.ref a.zx) "last"=some none)/\
 (W.takerIn K a.zx "cars"=some none)/\
 (W.findIn K (.ref a.zx) "cars"=some none)
abbrev DE(K:Io)(mg:Hv)(a:Adr):Prop:=
 (ik K a.zM a.zM)/\
 (qR K a.zu a.zM)/\
 (qR K a.zN a.zM)/\
 (qR K a.yr a.zM)/\
 (qR K a.zO a.zM)/\
 (qR K a.zx a.zM)/\
 (qR K a.zM a.yr)/\
 (qR K a.zu a.yr)
abbrev DF(K:Io)(mg:Hv)(a:Adr):Prop:=
 (qR K a.zN a.yr)/\
 (ik K a.yr a.yr)/\
 (qR K a.zO a.yr)/\
 (qR K a.zx a.yr)/\
 (qR K a.zM a.zu)/\
 (ik K a.zu a.zu)/\
 (qR K a.zN a.zu)/\
 (qR K a.yr a.zu)
abbrev DG(K:Io)(mg:Hv)(a:Adr):Prop:=
 (qR K a.zO a.zu)/\
 (qR K a.zx a.zu)/\
 (qR K a.zM a.zN)/\
 (qR K a.zu a.zN)/\
 (ik K a.zN a.zN)/\
 (qR K a.yr a.zN)/\
 (qR K a.zO a.zN)/\
 (qR K a.zx a.zN)
abbrev DH(K:Io)(mg:Hv)(a:Adr):Prop:=
 (qR K a.zM a.zO)/\
 (qR K a.zu a.zO)/\
 (qR K a.zN a.zO)/\
 (qR K a.yr a.zO)/\
 (ik K a.zO a.zO)/\
 (qR K a.zx a.zO)/\
 (qR K a.zM a.zx)/\
 (qR K a.zu a.zx)
abbrev DI(K:Io)(mg:Hv)(a:Adr):Prop:=
 (qR K a.zN a.zx)/\
 (qR K a.yr a.zx)/\
 (qR K a.zO a.zx)/\
 (ik K a.zx a.zx)/\
 (W.kitOne K (.ref a.zM) (.type "ValueError")=some true)/\
 (W.kitOne K (.ref a.zu) (.type "ValueError")=some true)/\
 (W.kitOne K (.ref a.zN) (.type "ValueError")=some true)/\
 (W.kitOne K (.ref a.yr) (.type "ValueError")=some true)
abbrev DJ(K:Io)(mg:Hv)(a:Adr):Prop:=
 (W.kitOne K (.ref a.zO) (.type "ValueError")=some true)/\
 (W.kitOne K (.ref a.zx) (.type "ValueError")=some true)/\
 (W.kitOne K (.type "bool") (.type "bool")=some true)/\
 (W.kitOne K (.type "int") (.type "bool")=some false)/\
 (W.kitOne K (.type "int") (.type "int")=some true)/\
 (W.kitOne K (.type "bool") (.type "int")=some true)/\
 (W.kitOne K (.type "list") (.type "list")=some true)/\
 (W.kitOne K (.type "dict") (.type "dict")=some true)
abbrev DK(K:Io)(mg:Hv)(a:Adr):Prop:=
 (a.U6.code=.ref a.g_)
abbrev Txt(K:Io)(mg:Hv)(a:Adr):Prop:=Gy K mg a/\Gz K mg a/\Txt2 K mg a/\GA K mg a/\GB K mg a/\GC K mg a/\GD K mg a/\GF K mg a/\GG K mg a/\GH K mg a/\DB K mg a/\DC K mg a/\DD K mg a/\DE K mg a/\DF K mg a/\DG K mg a/\DH K mg a/\DI K mg a/\DJ K mg a/\DK K mg a
section
variable {K:Io}{mg:Hv}{a:Adr}(T:Txt K mg a)
include T
def Txt.cc0:Gy K mg a:=T.1
def Txt.dr:=T.cc0.1
def Txt.Z8:=T.cc0.2.1
def Txt.vS:=T.cc0.2.2.1
def Txt.Z9:=T.cc0.2.2.2.1
def Txt.XB:=T.cc0.2.2.2.2.1
def Txt.Z_:=T.cc0.2.2.2.2.2.1
def Txt.Ya:=T.cc0.2.2.2.2.2.2.1
def Txt.wO:=T.cc0.2.2.2.2.2.2.2
def Txt.cc1:Gz K mg a:=T.2.1
def Txt.Ja:=T.cc1.1
def Txt.UR:=T.cc1.2.1
def Txt.Jb:=T.cc1.2.2.1
def Txt.Jc:=T.cc1.2.2.2.1
def Txt.Yb:=T.cc1.2.2.2.2.1
def Txt.nD:=T.cc1.2.2.2.2.2.1
def Txt.fE:=T.cc1.2.2.2.2.2.2.1
def Txt.nE:=T.cc1.2.2.2.2.2.2.2
def Txt.cc2:Txt2 K mg a:=T.2.2.1
def Txt.zV:=T.cc2.1
def Txt.ZP:=T.cc2.2.1
def Txt.XE:=T.cc2.2.2.1
def Txt.gR:=T.cc2.2.2.2.1
def Txt.Ar:=T.cc2.2.2.2.2.1
def Txt.j9:=T.cc2.2.2.2.2.2.1
def Txt.Jd:=T.cc2.2.2.2.2.2.2.1
def Txt.As:=T.cc2.2.2.2.2.2.2.2
def Txt.cc3:GA K mg a:=T.2.2.2.1
def Txt.Wa:=T.cc3.1
def Txt.zr:=T.cc3.2.1
def Txt.vv:=T.cc3.2.2.1
def Txt.Je:=T.cc3.2.2.2.1
def Txt.WX:=T.cc3.2.2.2.2.1
def Txt.WY:=T.cc3.2.2.2.2.2.1
def Txt.vx:=T.cc3.2.2.2.2.2.2.1
def Txt.WZ:=T.cc3.2.2.2.2.2.2.2
def Txt.cc4:GB K mg a:=T.2.2.2.2.1
def Txt.YY:=T.cc4.1
def Txt.jR:=T.cc4.2.1
def Txt.bz:=T.cc4.2.2.1
def Txt.bA:=T.cc4.2.2.2.1
def Txt.qb:=T.cc4.2.2.2.2.1
def Txt.K0:=T.cc4.2.2.2.2.2.1
def Txt.K1:=T.cc4.2.2.2.2.2.2.1
def Txt.yf:=T.cc4.2.2.2.2.2.2.2
def Txt.cc5:GC K mg a:=T.2.2.2.2.2.1
def Txt.yW:=T.cc5.1
def Txt.vy:=T.cc5.2.1
def Txt.qc:=T.cc5.2.2.1
def Txt.YM:=T.cc5.2.2.2.1
def Txt.yp:=T.cc5.2.2.2.2.1
def Txt.W0:=T.cc5.2.2.2.2.2.1
def Txt.W2:=T.cc5.2.2.2.2.2.2.1
def Txt.jS:=T.cc5.2.2.2.2.2.2.2
def Txt.cc6:GD K mg a:=T.2.2.2.2.2.2.1
def Txt.qt:=T.cc6.1
def Txt.W3:=T.cc6.2.1
def Txt.W4:=T.cc6.2.2.1
def Txt.jT:=T.cc6.2.2.2.1
def Txt.vz:=T.cc6.2.2.2.2.1
def Txt.XF:=T.cc6.2.2.2.2.2.1
def Txt.qu:=T.cc6.2.2.2.2.2.2.1
def Txt.yg:=T.cc6.2.2.2.2.2.2.2
def Txt.cc7:GF K mg a:=T.2.2.2.2.2.2.2.1
def Txt.jx:=T.cc7.1
def Txt.qN:=T.cc7.2.1
def Txt.wQ:=T.cc7.2.2.1
def Txt.wR:=T.cc7.2.2.2.1
def Txt.yh:=T.cc7.2.2.2.2.1
def Txt.YN:=T.cc7.2.2.2.2.2.1
def Txt.YO:=T.cc7.2.2.2.2.2.2.1
def Txt.nF:=T.cc7.2.2.2.2.2.2.2
def Txt.cc8:GG K mg a:=T.2.2.2.2.2.2.2.2.1
def Txt.y4:=T.cc8.1
def Txt.jA:=T.cc8.2.1
def Txt.bB:=T.cc8.2.2.1
def Txt.gS:=T.cc8.2.2.2.1
def Txt.Wb:=T.cc8.2.2.2.2.1
def Txt.Yc:=T.cc8.2.2.2.2.2.1
def Txt.yG:=T.cc8.2.2.2.2.2.2.1
def Txt.qi:=T.cc8.2.2.2.2.2.2.2
def Txt.cc9:GH K mg a:=T.2.2.2.2.2.2.2.2.2.1
def Txt.dy:=T.cc9.1
def Txt.bC:=T.cc9.2.1
def Txt.Jf:=T.cc9.2.2.1
def Txt.Jg:=T.cc9.2.2.2.1
def Txt.qA:=T.cc9.2.2.2.2.1
def Txt.jB:=T.cc9.2.2.2.2.2.1
def Txt.nG:=T.cc9.2.2.2.2.2.2.1
def Txt.gT:=T.cc9.2.2.2.2.2.2.2
def Txt.uk:DB K mg a:=T.2.2.2.2.2.2.2.2.2.2.1
def Txt.Wc:=T.uk.1
def Txt.Wd:=T.uk.2.1
def Txt.kF:=T.uk.2.2.1
def Txt.wU:=T.uk.2.2.2.1
def Txt.Au:=T.uk.2.2.2.2.1
def Txt.rZ:=T.uk.2.2.2.2.2.1
def Txt.US:=T.uk.2.2.2.2.2.2.1
def Txt.Jh:=T.uk.2.2.2.2.2.2.2
def Txt.um:DC K mg a:=T.2.2.2.2.2.2.2.2.2.2.2.1
def Txt.qj:=T.um.1
def Txt.jC:=T.um.2.1
def Txt.nH:=T.um.2.2.1
def Txt.gU:=T.um.2.2.2.1
def Txt.We:=T.um.2.2.2.2.1
def Txt.Yd:=T.um.2.2.2.2.2.1
def Txt.yD:=T.um.2.2.2.2.2.2.1
def Txt.jD:=T.um.2.2.2.2.2.2.2
def Txt.uo:DD K mg a:=T.2.2.2.2.2.2.2.2.2.2.2.2.1
def Txt.nJ:=T.uo.1
def Txt.gW:=T.uo.2.1
def Txt.K2:=T.uo.2.2.1
def Txt.K3:=T.uo.2.2.2.1
def Txt.Wf:=T.uo.2.2.2.2.1
def Txt.Wg:=T.uo.2.2.2.2.2.1
def Txt.Wh:=T.uo.2.2.2.2.2.2.1
def Txt.Wi:=T.uo.2.2.2.2.2.2.2
def Txt.uq:DE K mg a:=T.2.2.2.2.2.2.2.2.2.2.2.2.2.1
def Txt.kG:=T.uq.1
def Txt.kH:=T.uq.2.1
def Txt.kI:=T.uq.2.2.1
def Txt.kJ:=T.uq.2.2.2.1
def Txt.kK:=T.uq.2.2.2.2.1
def Txt.kL:=T.uq.2.2.2.2.2.1
def Txt.wV:=T.uq.2.2.2.2.2.2.1
def Txt.wW:=T.uq.2.2.2.2.2.2.2
def Txt.ur:DF K mg a:=T.2.2.2.2.2.2.2.2.2.2.2.2.2.2.1
def Txt.wX:=T.ur.1
def Txt.wY:=T.ur.2.1
def Txt.wZ:=T.ur.2.2.1
def Txt.w4:=T.ur.2.2.2.1
def Txt.jE:=T.ur.2.2.2.2.1
def Txt.jF:=T.ur.2.2.2.2.2.1
def Txt.jG:=T.ur.2.2.2.2.2.2.1
def Txt.jH:=T.ur.2.2.2.2.2.2.2
def Txt.uu:DG K mg a:=T.2.2.2.2.2.2.2.2.2.2.2.2.2.2.2.1
def Txt.jI:=T.uu.1
def Txt.jJ:=T.uu.2.1
def Txt.kM:=T.uu.2.2.1
def Txt.kN:=T.uu.2.2.2.1
def Txt.kO:=T.uu.2.2.2.2.1
def Txt.kQ:=T.uu.2.2.2.2.2.1
def Txt.kR:=T.uu.2.2.2.2.2.2.1
def Txt.kT:=T.uu.2.2.2.2.2.2.2
def Txt.uv:DH K mg a:=T.2.2.2.2.2.2.2.2.2.2.2.2.2.2.2.2.1
def Txt.kU:=T.uv.1
def Txt.kW:=T.uv.2.1
def Txt.kX:=T.uv.2.2.1
def Txt.kY:=T.uv.2.2.2.1
def Txt.kZ:=T.uv.2.2.2.2.1
def Txt.k7:=T.uv.2.2.2.2.2.1
def Txt.k8:=T.uv.2.2.2.2.2.2.1
def Txt.k9:=T.uv.2.2.2.2.2.2.2
def Txt.ux:DI K mg a:=T.2.2.2.2.2.2.2.2.2.2.2.2.2.2.2.2.2.1
def Txt.k_:=T.ux.1
def Txt.vc:=T.ux.2.1
def Txt.vd:=T.ux.2.2.1
def Txt.ve:=T.ux.2.2.2.1
def Txt.jb:=T.ux.2.2.2.2.1
def Txt.jc:=T.ux.2.2.2.2.2.1
def Txt.jd:=T.ux.2.2.2.2.2.2.1
def Txt.je:=T.ux.2.2.2.2.2.2.2
def Txt.uy:DJ K mg a:=T.2.2.2.2.2.2.2.2.2.2.2.2.2.2.2.2.2.2.1
def Txt.jf:=T.uy.1
def Txt.jg:=T.uy.2.1
def Txt.Ye:=T.uy.2.2.1
def Txt.QJ:=T.uy.2.2.2.1
def Txt.J7:=T.uy.2.2.2.2.1
def Txt.QK:=T.uy.2.2.2.2.2.1
def Txt.Yf:=T.uy.2.2.2.2.2.2.1
def Txt.Yg:=T.uy.2.2.2.2.2.2.2
def Txt.Hk:DK K mg a:=T.2.2.2.2.2.2.2.2.2.2.2.2.2.2.2.2.2.2.2
def Txt.fF:=T.Hk
end
def cls(a:Adr):Nat->Addr
 |0=>a.yT
 |1=>a.zM
 |2=>a.zu
 |3=>a.zN
 |4=>a.yr
 |5=>a.zO
 |6=>a.zx
 |1000=>a.hU
 |_=>0
abbrev WW(K:Io)(a:Adr):RC:=⟨K,cls a⟩
abbrev XG:MS:=
  (yY (js 3 (mC (.i 5)))
  (yY (sIf (zT (mOp pGt (zh wg (zb (zc 0) zm)) (mC (.i 0)))) (js 3 (mOp JM (mOp pIx (zc 0) (mOp JM (zc 1) (zh wg (zb (zc 0) zm)))) (mC (.i 1000000007)))) zY)
  (kA (mOp JM (mOp aS (mOp JM (mOp qe (mOp zG (mOp zG (zc 3) (mOp qe (mC (.i 37)) (zc 1))) (mC (.i 1))) (mOp zG (mC (.i 48271)) (mOp qe (zc 1) (zc 1)))) (mC (.i 2147483647))) (mC (.i 7))) (zc 2)))))
def zi:List PV->Out PV:=Qv false 4 XG
abbrev w6:MG:=
  (gNm 6)
abbrev vf:MS:=
  (sIf (zT (mOp (pIn true) (zc 6) (mC (.s "abcdefghijklmnopqrstuvwxyz0123456789")))) (kA (wD (zb (mC (.s "name")) (zb (zc 2) zm)))) zY)
abbrev Yh:MG:=
  (gNm 0)
abbrev Kt:MT:=
  oS
abbrev Yi:ME:=
  (wD (zb (zc 0) (zb (mC (.i 0)) zm)))
abbrev w8:MG:=
  (gTp 2 (yN (gNm 7) (yN (gNm 8) aY)))
abbrev vg:MS:=
  (sIf (mOr (zT (mOp pLt (zc 7) (zc 8))) (zT (mOp pGt (zc 7) (mOp qU (mC (.i 10)) (mC (.i 9)))))) (kA (wD (zb (mC (.s "number")) (zb (zc 7) zm)))) zY)
abbrev w_:MG:=
  (gTp 4 (yN (gNm 2) (yN (gNm 3) (yN (gNm 4) (yN (gNm 5) aY)))))
abbrev Za:MS:=
  (yY (sIf (mOr (zT (mOp (qK false) (zh wg (zb (zc 2) zm)) (mC (.i 0)))) (zT (mOp pGt (zh wg (zb (zc 2) zm)) (mC (.i 12))))) (kA (wD (zb (mC (.s "name")) (zb (zc 2) zm)))) zY)
  (yY (ZN (Xs (zc 2)) w6 vf)
  (yY (sIf (zT (mOp (pIn false) (zc 2) (zc 1))) (kA (wD (zb (mC (.s "twice")) (zb (zc 2) zm)))) zY)
  (yY (tU 1 (zc 2))
  (ZN (qy (mOp zG (Kl (zb (wD (zb (zc 3) (zb (mC (.i 0)) zm))) (zb (wD (zb (zc 4) (zb (mC (.i 1)) zm))) zm))) (mLC (qy (zc 5)) [none] Yh Kt Yi))) w8 vg)))))
abbrev bD:MS:=
  (yY (sIf (zT (mOp pGt (zh wg (zb (zc 0) zm)) (mC (.i 40)))) (kA (wD (zb (mC (.s "many")) (zb (mC (.i 40)) zm)))) zY)
  (yY (js 1 (Kl zm))
  (yY (ZN (qy (zc 0)) w_ Za)
  (kA (wD (zb (mC (.s "right")) zm))))))
def vh:List PV->Out PV:=Qv false 9 bD
abbrev Ku:MS:=
  (kA (mOp pGt (mOp zG (zc 0) (zh WS (zb (zc 2) zm))) (zc 1)))
def qO:List PV->Out PV:=Qv false 3 Ku
abbrev vA:MS:=
  (yY (js 4 (mOp zG (zc 0) (zh WS (zb (mSl pSl (zc 2) cY (wF (mOp zG (zc 3) (mC (.i 1))))) zm))))
  (yY (js 5 (zh WS (zb (mSl pSl (zc 2) (wF (mOp zG (zc 3) (mC (.i 1)))) cY) zm)))
  (kA (Uc (mOp pLe (zc 4) (zc 1)) (mOp pLe (zc 5) (zc 1))))))
def yc:List PV->Out PV:=Qv false 6 vA
abbrev Zs:MG:=
  (gNm 0)
abbrev Zt:MT:=
  (lA (zT (mOp pLe (zc 1) (mOp pIx (mOp pIx (zc 2) (zc 0)) (mC (.i 0))))) (zT (mOp pLe (mOp pIx (mOp pIx (zc 2) (zc 0)) (mUn pL (mC (.i 1)))) (zc 3))))
abbrev Zu:ME:=
  (zc 0)
abbrev Ji:MS:=
  (kA (mLC (qf 0) [none,some 1,some 0,some 2] Zs Zt Zu))
def qv:List PV->Out PV:=Qv true 3 Ji
abbrev Jj:MS:=
  (yY (js 1 (Kl (zb (mUn (eU [(.exc 1,true),(.exc 2,false),(.exc 3,false),(.exc 4,false),(.exc 5,false),(.exc 6,false)]) (zc 0)) (zb (mUn (eU [(.exc 1,false),(.exc 2,false),(.exc 3,false),(.exc 4,true),(.exc 5,false),(.exc 6,false)]) (zc 0)) (zb (mUn (eU [(.exc 1,false),(.exc 2,true),(.exc 3,false),(.exc 4,false),(.exc 5,false),(.exc 6,false)]) (zc 0)) (zb (mUn (eU [(.exc 1,false),(.exc 2,false),(.exc 3,true),(.exc 4,false),(.exc 5,false),(.exc 6,false)]) (zc 0)) zm))))))
  (yY (js 1 (mOp zG (zc 1) (Kl (zb (mUn (eU [(.exc 1,false),(.exc 2,false),(.exc 3,false),(.exc 4,false),(.exc 5,true),(.exc 6,false)]) (zc 0)) (zb (mUn (eU [(.exc 1,false),(.exc 2,false),(.exc 3,false),(.exc 4,false),(.exc 5,false),(.exc 6,true)]) (zc 0)) zm)))))
  (yY (sIf (mOr (zT (mOp (qK true) (mD (zc 1) (mC (.b true))) (mC (.i 1)))) (gG (zT (mUn (eU [(.exc 1,true),(.exc 2,true),(.exc 3,true),(.exc 4,true),(.exc 5,true),(.exc 6,true)]) (zc 0))))) (kA (wD (zb (mC (.s "other")) zm))) zY)
  (yY (sIf (mOr (zT (mOp pIx (zc 1) (mC (.i 0)))) (zT (mOp pIx (zc 1) (mC (.i 1))))) (kA (wD (zb (mOp pIx (Kl (zb (mC (.s "name")) (zb (mC (.s "twice")) zm))) (zh c9 (zb (mOp pIx (zc 1) (mC (.i 1))) zm))) (zb (aW [1,4,5] "name" (zc 0)) zm)))) zY)
  (yY (sIf (zT (mOp pIx (zc 1) (mC (.i 2)))) (kA (wD (zb (mC (.s "number")) (zb (aW [2] "value" (zc 0)) zm)))) zY)
  (yY (sIf (zT (mOp pIx (zc 1) (mC (.i 3)))) (kA (wD (zb (mC (.s "many")) (zb (aW [3] "most" (zc 0)) zm)))) zY)
  (yY (sIf (zT (mOp pIx (zc 1) (mC (.i 4)))) (kA (wD (zb (mC (.s "night")) (zb (aW [1,4,5] "name" (zc 0)) zm)))) zY)
  (kA (wD (zb (mC (.s "crowded")) (zb (aW [6] "first" (zc 0)) (zb (aW [6] "last" (zc 0)) (zb (aW [6] "cars" (zc 0)) zm)))))))))))))
def zP:List PV->Out PV:=Qv false 2 Jj
abbrev YZ:HMG:=
  (hgN 6)
abbrev Y0:HMS:=
  (hIf (hPT [false,false,false,true,true,true,true] (lA (zT (mOp pLe (mOp zG (zc 3) (zh WS (zb (mSl pSl (zc 5) cY (wF (mOp zG (zc 6) (mC (.i 1))))) zm))) (zc 4))) (zT (mOp pLe (zh WS (zb (mSl pSl (zc 5) (wF (mOp zG (zc 6) (mC (.i 1)))) cY) zm)) (zc 4))))) (EI (hIx (jt 1) (jt 2)) (jt 6)) YU)
abbrev vT:HMG:=
  (hgT 4 (jX (hgN 2) (jX (hgN 3) (jX (hgN 4) (jX (hgN 5) bj)))))
abbrev vU:HMS:=
  (hIf (hPT [false,false,false,true,true,true] (zT (mOp pGt (mOp zG (zc 3) (zh WS (zb (zc 5) zm))) (zc 4)))) (vp (EJ (jt 1) (jt 2) (hF [] (Kl zm)))
  (Uz [] (wj (zb (mC (.i 7)) zm)) YZ Y0)) YU)
abbrev Yj:HMS:=
  (vp (wo 1 (hF [] c6))
  (vp (Uz [true] (qy (zc 0)) vT vU)
  (V0 (jt 1))))
def qP:List HV->AH->HX HV:=dh 7 Yj
abbrev Kv:MS:=
  (kA (Uc (mUn (eU [(.int,true),(.bool,true)]) (zc 0)) (Cz (mUn (eU [(.bool,true),(.int,false)]) (zc 0)))))
def yE:List PV->Out PV:=Qv false 1 Kv
abbrev vV:MG:=
  (gNm 2)
abbrev jU:MS:=
  (yY (js 3 (zh zi (zb (zc 0) (zb (mOp zG (mC (.i 4)) (zc 2)) (zb (zh wg (zb (zc 1) zm)) zm)))))
  (yY (Bo (gTp 4 (yN (gNm 4) (yN (gNm 5) (yN (gNm 6) (yN (gNm 7) aY))))) (mOp pIx (zc 1) (zc 3)))
  (yY (js 7 (zh VY (zb (zc 7) zm)))
  (yY (js 8 (zh zi (zb (zc 0) (zb (mOp zG (mC (.i 6)) (zc 2)) (zb (mC (.i 6)) zm)))))
  (yY (js 9 (mOp pIx (Kl (zb (mUn pL (mC (.i 1))) (zb (mOp zG (mOp qU (mC (.i 10)) (mC (.i 9))) (mC (.i 1))) (zb (mOp cN (mC (.i 0)) (mOp qU (mC (.i 10)) (mC (.i 20)))) zm)))) (zh zi (zb (zc 0) (zb (mC (.i 8)) (zb (mC (.i 3)) zm))))))
  (yY (sIf (zT (mOp (qK false) (zc 8) (mC (.i 0)))) (js 4 (mOp pIx (Kl (zb (mC (.s "")) (zb (mC (.s "B")) (zb (mOp zG (zc 4) (mC (.s "-"))) (zb (mOp qe (mC (.s "x")) (mC (.i 13))) zm))))) (zh zi (zb (zc 0) (zb (mC (.i 9)) (zb (mC (.i 4)) zm)))))) zY)
  (yY (sIf (zT (mOp (qK false) (zc 8) (mC (.i 1)))) (js 4 (mOp pIx (mOp pIx (zc 1) (zh zi (zb (zc 0) (zb (mC (.i 10)) (zb (zh wg (zb (zc 1) zm)) zm))))) (mC (.i 0)))) zY)
  (yY (sIf (zT (mOp (qK false) (zc 8) (mC (.i 2)))) (js 5 (zc 9)) zY)
  (yY (sIf (zT (mOp (qK false) (zc 8) (mC (.i 3)))) (js 6 (mOp pIx (Kl (zb (mC (.i 0)) (zb (zc 9) zm))) (zh zi (zb (zc 0) (zb (mC (.i 10)) (zb (mC (.i 2)) zm)))))) zY)
  (yY (sIf (zT (mOp (qK false) (zc 8) (mC (.i 4)))) (Ui 7 (zh zi (zb (zc 0) (zb (mC (.i 11)) (zb (mC (.i 7)) zm)))) (zc 9)) zY)
  (Ui 1 (zc 3) (wD (zb (zc 4) (zb (zc 5) (zb (zc 6) (zb (zc 7) zm))))))))))))))))
abbrev vi:MG:=
  (gNm 0)
abbrev Yk:MT:=
  oS
abbrev qk:ME:=
  (mOp zG (mOp pIx (mC (.s "abcdefghijklmnopqrst")) (mOp JM (zc 0) (mC (.i 20)))) (zh EK (zb (mOp JM (zc 0) (mC (.i 40))) zm)))
abbrev Yl:MG:=
  (gNm 0)
abbrev Wj:MT:=
  oS
abbrev Ym:ME:=
  (wD (zb (zc 0) (zb (mC (.i 1)) (zb (mC (.i 9)) (zb (Kl (zb (mC (.i 0)) (zb (mC (.i 1)) (zb (mC (.i 0)) (zb (mC (.i 2)) (zb (mC (.i 0)) (zb (mC (.i 5)) (zb (mOp cN (zh wg (zb (zc 0) zm)) (mC (.i 2))) zm)))))))) zm)))))
abbrev Kw:MS:=
  (yY (js 1 (zh VY (zb (zc 1) zm)))
  (yY (ZN (wj (zb (mOp qe (mC (.i 2)) (zh c9 (zb (Uc (mOp (qK false) (zh zi (zb (zc 0) (zb (mC (.i 3)) (zb (mC (.i 3)) zm)))) (mC (.i 1))) (mOp pGt (zh wg (zb (zc 1) zm)) (mC (.i 0)))) zm))) zm)) vV jU)
  (yY (sIf (zT (mOp (qK false) (zh zi (zb (zc 0) (zb (mC (.i 12)) (zb (mC (.i 12)) zm)))) (mC (.i 1)))) (yY (js 10 (mLC (wj (zb (mOp zG (mC (.i 40)) (zh zi (zb (zc 0) (zb (mC (.i 17)) (zb (mC (.i 2)) zm))))) zm)) [none] vi Yk qk))
  (js 1 (mLC (qy (zc 10)) [none] Yl Wj Ym))) zY)
  (kA (zc 1)))))
def ql:List PV->Out PV:=Qv false 11 Kw
abbrev Wl:MG:=
  (gNm 0)
abbrev Wm:MT:=
  (zT (zh yc (zb (zc 1) (zb (zc 2) (zb (zc 3) (zb (zc 0) zm))))))
abbrev Wn:ME:=
  (zc 0)
abbrev fG:MS:=
  (kA (mLC (wj (zb (mC (.i 7)) zm)) [none,some 0,some 1,some 2] Wl Wm Wn))
def Zb:List PV->Out PV:=Qv true 3 fG
abbrev Jk:MG:=
  (gNm 5)
abbrev Zc:MS:=
  (yY (sIf (mOr (zT (mOp (pIn true) (mOp pIx (zc 2) (zc 5)) (zc 3))) (zT (mOp (pIn false) (mOp pIx (zc 2) (zc 5)) (mSl pSl (zc 2) cY (wF (zc 5)))))) (kA (mC (.b false))) zY)
  (sIf (mOr (zT (mOp pLt (mOp pIx (mOp pIx (zc 3) (mOp pIx (zc 2) (zc 5))) (mC (.i 0))) (zc 0))) (zT (mOp pGt (mOp pIx (mOp pIx (zc 3) (mOp pIx (zc 2) (zc 5))) (mUn pL (mC (.i 1)))) (zc 1)))) (kA (mC (.b false))) zY))
abbrev Wo:MS:=
  (yY (sIf (mOr (gG (zT (zh yE (zb (zc 0) zm)))) (mOr (gG (zT (zh yE (zb (zc 1) zm)))) (gG (zT (mUn (eU [(.list,true)]) (zc 2)))))) (kA (mC (.b false))) zY)
  (yY (sIf (mOr (zT (mOp pLt (zc 0) (mC (.i 0)))) (mOr (zT (mOp pLt (zc 1) (zc 0))) (mOr (zT (mOp pGt (zc 1) (mC (.i 6)))) (zT (mOp pLe (zh wg (zb (zc 2) zm)) (mOp qe (zc 4) (mOp zG (mOp cN (zc 1) (zc 0)) (mC (.i 1))))))))) (kA (mC (.b false))) zY)
  (yY (ZN (wj (zb (zh wg (zb (zc 2) zm)) zm)) Jk Zc)
  (kA (mC (.b true))))))
def jK:List PV->Out PV:=Qv false 6 Wo
abbrev vW:MG:=
  (gNm 0)
abbrev Y1:MT:=
  oS
abbrev vX:ME:=
  (mOp pIx (zc 0) (mC (.i 0)))
abbrev Jl:MG:=
  (gNm 5)
abbrev Zd:MS:=
  (sIf (zT (mOp (pIn true) (zc 5) (zc 2))) (sIf (zT (mOp (oQ true) (mOp pIx (zc 0) (zc 5)) (mC .n))) (kA (mC (.b false))) zY) (sIf (mOr (gG (zT (zh yE (zb (mOp pIx (zc 0) (zc 5)) zm)))) (zT (mOp (pIn true) (mOp pIx (zc 0) (zc 5)) (mOp pIx (zc 2) (zc 5))))) (kA (mC (.b false))) (Ui 4 (mOp pIx (zc 0) (zc 5)) (mOp zG (mOp pIx (zc 4) (mOp pIx (zc 0) (zc 5))) (mC (.i 1))))))
abbrev Wq:MS:=
  (yY (sIf (mOr (gG (zT (mUn (eU [(.dict,true)]) (zc 0)))) (zT (mOp (qK true) (zh Xx (zb (zc 0) zm)) (zh V3 (zb (mLC (qy (zc 1)) [none] vW Y1 vX) zm))))) (kA (mC (.b false))) zY)
  (yY (js 4 (Kl (zb (mC (.i 0)) (zb (mC (.i 0)) (zb (mC (.i 0)) (zb (mC (.i 0)) (zb (mC (.i 0)) (zb (mC (.i 0)) (zb (mC (.i 0)) zm)))))))))
  (yY (ZN (qf 0) Jl Zd)
  (kA (mOp pLe (zh lK (zb (zc 4) zm)) (zc 3))))))
def jL:List PV->Out PV:=Qv false 6 Wq
abbrev XH:MS:=
  (yY (js 3 (zh zi (zb (zc 0) (zb (zc 1) (zb (mC (.i 11)) zm)))))
  (yY (js 4 (mOp zG (zh zi (zb (zc 0) (zb (mOp zG (zc 1) (mC (.i 1))) (zb (mOp cN (mC (.i 11)) (zc 3)) zm)))) (mOp JM (zc 2) (mC (.i 2)))))
  (kA (mOp zG (mOp zG (mOp qe (mC (.s "x")) (zc 3)) (mOp pIx (mC (.s "abcdefghijklmnopqrstuvwyz0123456789")) (zc 2))) (mOp qe (mC (.s "x")) (zc 4))))))
def jM:List PV->Out PV:=Qv false 5 XH
abbrev Kx:MS:=
  (sIf (zT (mOp pGt (zh wg (zb (zc 0) zm)) (zc 1))) (Zp 3 ["most"] (zb (zc 1) zm)) zY)
def qo:List PV->Out PV:=Qv false 2 Kx
abbrev K4:MG:=
  (gNm 1)
abbrev K5:MS:=
  (sIf (zT (mOp (pIn true) (zc 1) (mC (.s "abcdefghijklmnopqrstuvwxyz0123456789")))) (Zp 1 ["name"] (zb (zc 0) zm)) zY)
abbrev Y2:MS:=
  (yY (sIf (mOr (zT (mOp pLt (zh wg (zb (zc 0) zm)) (mC (.i 1)))) (zT (mOp pGt (zh wg (zb (zc 0) zm)) (mC (.i 12))))) (Zp 1 ["name"] (zb (zc 0) zm)) zY)
  (yY (ZN (Xs (zc 0)) K4 K5)
  (kA (zc 0))))
def y6:List PV->Out PV:=Qv false 2 Y2
abbrev Zv:MS:=
  (yY (sIf (mOr (zT (mOp pLt (zc 0) (zc 1))) (zT (mOp pGt (zc 0) (mC (.i 1000000000))))) (Zp 2 ["value"] (zb (zc 0) zm)) zY)
  (kA (zc 0)))
def zt:List PV->Out PV:=Qv false 2 Zv
abbrev vj:MG:=
  (gTp 4 (yN (gNm 2) (yN (gNm 3) (yN (gNm 4) (yN (gNm 5) aY)))))
abbrev vk:MS:=
  (sIf (zT (zh qO (zb (zc 3) (zb (zc 4) (zb (zc 5) zm))))) (xK 1 (zc 2) (zh Zb (zb (zc 3) (zb (zc 4) (zb (zc 5) zm))))) zY)
abbrev wx:MS:=
  (yY (js 1 c6)
  (yY (ZN (qy (zc 0)) vj vk)
  (kA (zc 1))))
def z6:List PV->Out PV:=Qv true 6 wx
abbrev qC:MG:=
  (gNm 1)
abbrev yA:MS:=
  (sIf (zT (mOp (qK false) (zh wg (zb (mOp pIx (zc 0) (zc 1)) zm)) (mC (.i 0)))) (Zp 5 ["name"] (zb (zc 1) zm)) zY)
abbrev Y3:MS:=
  (ZN (qf 0) qC yA)
def yH:List PV->Out PV:=Qv false 2 Y3
abbrev qD:MG:=
  (gNm 3)
abbrev yB:MS:=
  (yY (js 4 (zh qv (zb (zc 0) (zb (zc 2) (zb (zc 3) zm)))))
  (sIf (zT (mOp pGt (zh wg (zb (zc 4) zm)) (mOp qe (zc 1) (mOp zG (mOp cN (zc 3) (zc 2)) (mC (.i 1)))))) (Zp 6 ["first","last","cars"] (zb (zc 2) (zb (zc 3) (zb (zc 4) zm)))) zY))
abbrev qE:MG:=
  (gNm 2)
abbrev qF:MS:=
  (ZN (l7 (zb (zc 2) (zb (mC (.i 7)) zm))) qD yB)
abbrev Y4:MS:=
  (ZN (wj (zb (mC (.i 7)) zm)) qE qF)
def ym:List PV->Out PV:=Qv false 5 Y4
abbrev Ky:MG:=
  (gNm 4)
abbrev Yn:MS:=
  (yY (js 5 (zh zi (zb (zc 0) (zb (mOp zG (mOp zG (mC (.i 20)) (mOp qe (mC (.i 17)) (zc 1))) (zc 4)) (zb (mC (.i 4)) zm)))))
  (yY (sIf (zT (mOp pGt (zc 5) (mC (.i 0)))) (js 5 (zh zi (zb (zc 0) (zb (mOp zG (mOp zG (mC (.i 28)) (mOp qe (mC (.i 17)) (zc 1))) (zc 4)) (zb (zc 2) zm))))) zY)
  (tU 3 (zc 5))))
abbrev XI:MS:=
  (yY (js 2 (mOp pIx (Kl (zb (mC (.i 10)) (zb (mC (.i 60000)) (zb (mOp qU (mC (.i 10)) (mC (.i 8))) zm)))) (zh zi (zb (zc 0) (zb (mC (.i 0)) (zb (mC (.i 3)) zm))))))
  (yY (js 3 (Kl zm))
  (yY (ZN (wj (zb (mC (.i 8)) zm)) Ky Yn)
  (yY (rC 3 6)
  (yY (js 7 (zh zi (zb (zc 0) (zb (mOp zG (mC (.i 36)) (mOp qe (mC (.i 17)) (zc 1))) (zb (mC (.i 7)) zm)))))
  (yY (js 8 (zh zi (zb (zc 0) (zb (mOp zG (mC (.i 37)) (mOp qe (mC (.i 17)) (zc 1))) (zb (mC (.i 9)) zm)))))
  (yY (js 9 (zh lK (zb (mOp zG (zc 6) (zh WS (zb (mSl pSl (zc 3) cY (wF (mOp zG (zc 7) (mC (.i 1))))) zm))) (zb (zh WS (zb (mSl pSl (zc 3) (wF (mOp zG (zc 7) (mC (.i 1)))) cY) zm)) zm))))
  (yY (sIf (zT (mOp (qK false) (zc 8) (mC (.i 1)))) (js 9 (mOp cN (zc 9) (mC (.i 1)))) zY)
  (yY (sIf (zT (mOp (qK false) (zc 8) (mC (.i 2)))) (js 9 (mOp cN (mOp zG (zc 6) (zh WS (zb (zc 3) zm))) (zh zi (zb (zc 0) (zb (mOp zG (mC (.i 38)) (mOp qe (mC (.i 17)) (zc 1))) (zb (mC (.i 2)) zm)))))) zY)
  (yY (sIf (zT (mOp pGt (zc 8) (mC (.i 5)))) (js 9 (mOp zG (zc 9) (zh zi (zb (zc 0) (zb (mOp zG (mC (.i 38)) (mOp qe (mC (.i 17)) (zc 1))) (zb (mOp zG (mC (.i 1)) (mOp aS (zc 9) (mC (.i 4)))) zm)))))) zY)
  (kA (wD (zb (zh jM (zb (zc 0) (zb (mC (.i 1)) (zb (zc 1) zm)))) (zb (zc 6) (zb (zh lK (zb (mC (.i 1)) (zb (zc 9) zm))) (zb (zc 3) zm))))))))))))))))
def qQ:List PV->Out PV:=Qv false 10 XI
abbrev vB:MS:=
  (yY (KY (zh y6 (zb (zc 0) zm)))
  (yY (sIf (zT (mOp (pIn false) (zc 0) (zc 1))) (Zp 4 ["name"] (zb (zc 0) zm)) zY)
  (kA (zc 0))))
def yd:List PV->Out PV:=Qv false 2 vB
abbrev Ze:MG:=
  (gNm 0)
abbrev Zg:MT:=
  (lA (zT (mOp (pIn true) (zc 0) (zc 1))) (zT (mOp (pIn false) (zc 2) (mOp pIx (zc 3) (zc 0)))))
abbrev Zh:ME:=
  (zc 0)
abbrev yi:ME:=
  (mOp pIx (mOp pIx (zc 1) (zc 0)) (mUn pL (mC (.i 1))))
abbrev Wr:HMG:=
  (hgN 5)
abbrev QL:HMS:=
  (EJ (jt 2) (jt 5) (jt 3))
abbrev QM:HMG:=
  (hgN 3)
abbrev Zi:HMS:=
  (vp (wo 4 (hF [true,false,true,true] (mLC (qf 0) [none,some 2,some 3,some 0] Ze Zg Zh)))
  (rD (ER (bx 96 40 ("served"++".<locals>."++"<lambda>") (ij 2 yi) 0 (yo (jt 4) Ko)) (jt 1)) Wr QL))
abbrev Jm:HMS:=
  (vp (wo 2 (hF [] c6))
  (vp (Uz [] (wj (zb (mC (.i 7)) zm)) QM Zi)
  (V0 (jt 2))))
def Jn:List HV->AH->HX HV:=dh 6 Jm
abbrev jh:MG:=
  (gNm 6)
abbrev jj:MS:=
  (KY (zh zt (zb (zc 6) (zb (mC (.i 0)) zm))))
abbrev jm:MG:=
  (gTp 4 (yN (gNm 2) (yN (gNm 3) (yN (gNm 4) (yN (gNm 5) aY)))))
abbrev jn:MS:=
  (yY (KY (zh yd (zb (zc 2) (zb (zc 1) zm))))
  (yY (KY (zh zt (zb (zc 3) (zb (mC (.i 0)) zm))))
  (yY (KY (zh zt (zb (zc 4) (zb (mC (.i 1)) zm))))
  (yY (ZN (qy (zc 5)) jh jj)
  (xK 1 (zc 2) (mC (.b true)))))))
abbrev Jo:MS:=
  (yY (KY (zh qo (zb (zc 0) (zb (mC (.i 40)) zm))))
  (yY (js 1 c6)
  (ZN (qy (zc 0)) jm jn)))
def zL:List PV->Out PV:=Qv false 7 Jo
abbrev bE:MG:=
  (gTp 4 (yN (gNm 0) (yN (gNm 1) (yN (gNm 2) (yN (gNm 3) aY)))))
abbrev nK:MT:=
  oS
abbrev bF:ME:=
  (wD (zb (zc 0) (zb (Gu (zc 4) (zc 0)) zm)))
abbrev nM:HMS:=
  (vp (Q8 (hP [true] (zh zL (zb (zc 0) zm))))
  (vp (Q8 (hP [false,true] (zh zt (zb (zc 1) (zb (mC (.i 0)) zm)))))
  (vp (wo 2 (hP [true] (zh z6 (zb (zc 0) zm))))
  (vp (Q8 (hP [false,false,true] (zh yH (zb (zc 2) zm))))
  (vp (Q8 (hP [false,true,true] (zh ym (zb (zc 2) (zb (zc 1) zm)))))
  (vp (wo 3 (ZO Jn (yo (jt 2) (yo (jt 1) Ko))))
  (V0 (hW [true,false,false,true] (zh bg (zb (mLC (qy (zc 0)) [none,none,none,none,some 3] bE nK bF) zm))))))))))
def vY:List HV->AH->HX HV:=dh 4 nM
abbrev Kz:HMS:=
  (vp (wo 2 (hP [] (mC .n)))
  (vp (Dv [1,2,3,4,5,6] (Bt (hPT [false,true] (zT (mOp (oQ false) (zc 1) (mC .n)))) (wo 2 (hP [true] (eX zL (zb (zc 0) zm)))) (wo 2 (ft vY (yo (jt 0) (yo (jt 1) Ko))))) 3 (V0 (hP [false,false,false,true] (wD (zb (ba zP (zb (zc 3) zm)) (zb (mC .n) zm))))))
  (V0 (EH (yo (hP [] (wD (zb (mC (.s "right")) zm))) (yo (jt 2) Ko))))))
def zR:List HV->AH->HX HV:=dh 4 Kz
abbrev yI:HMG:=
  (hgN 5)
abbrev yJ:HMS:=
  (hIf (hPT [false,false,true,false,false,true] (zT (mOp (qK false) (mOp pIx (zc 2) (zc 5)) (Kl zm)))) (V0 (hP [false,false,false,true,false,true] (mOp (qK false) (zc 3) (wD (zb (mC (.s "night")) (zb (zc 5) zm)))))) YU)
abbrev KA:HMS:=
  (vp (wo 2 (bp qP (yo (jt 0) Ko)))
  (vp (oX (hgT 2 (jX (hgN 3) (jX (hgN 4) bj))) (ZO zR (yo (jt 0) (yo (jt 1) Ko))))
  (vp (rl 2 yI yJ)
  (vp (hIf (hPT [false,false,false,true] (zT (mOp (qK false) (mOp pIx (zc 3) (mC (.i 0))) (mC (.s "crowded"))))) (V0 (hP [false,true,true,true] (zh jK (zb (mOp pIx (zc 3) (mC (.i 1))) (zb (mOp pIx (zc 3) (mC (.i 2))) (zb (mOp pIx (zc 3) (mC (.i 3))) (zb (zc 2) (zb (zc 1) zm)))))))) YU)
  (V0 (hP [true,true,true,true,true] (Uc (mOp (qK false) (zc 3) (wD (zb (mC (.s "right")) zm))) (zh jL (zb (zc 4) (zb (zc 0) (zb (zc 2) (zb (zc 1) zm))))))))))))
def yS:List HV->AH->HX HV:=dh 6 KA
abbrev Vt:MG:=
  (gNm 0)
abbrev UT:MT:=
  oS
abbrev Vu:ME:=
  (zh qQ (zb (zc 1) (zb (zc 0) zm)))
abbrev UU:MG:=
  (gNm 0)
abbrev fH:MT:=
  oS
abbrev UW:ME:=
  (wD (zb (mOp pIx (zc 0) (mC (.i 0))) (zb (mOp pIx (zc 0) (mC (.i 1))) (zb (mOp pIx (zc 0) (mC (.i 2))) (zb (zh VY (zb (mOp pIx (zc 0) (mC (.i 3))) zm)) zm)))))
abbrev uz:HMS:=
  (vp (wo 1 (hP [true] (mLC (wj (zb (zh zi (zb (zc 0) (zb (mC (.i 13)) (zb (mC (.i 9)) zm)))) zm)) [none,some 0] Vt UT Vu)))
  (vp (wo 2 (hP [true] (zh zi (zb (zc 0) (zb (mC (.i 14)) (zb (mC (.i 4)) zm))))))
  (vp (hIf (hPT [true] (zT (mOp (qK false) (zh zi (zb (zc 0) (zb (mC (.i 15)) (zb (mC (.i 9)) zm)))) (mC (.i 1))))) (wo 2 (hP [true] (mOp pIx (Kl (zb (mUn pL (mC (.i 1))) (zb (mOp zG (mOp qU (mC (.i 10)) (mC (.i 9))) (mC (.i 1))) (zb (mOp qU (mC (.i 10)) (mC (.i 9))) (zb (mOp cN (mC (.i 0)) (mOp qU (mC (.i 10)) (mC (.i 20)))) zm))))) (zh zi (zb (zc 0) (zb (mC (.i 16)) (zb (mC (.i 4)) zm))))))) YU)
  (vp (wo 3 (hP [true,true] (zh ql (zb (zc 0) (zb (zc 1) zm)))))
  (vp (wo 4 (hP [false,false,false,true] (mLC (qy (zc 3)) [none] UU fH UW)))
  (vp (wo 5 (hP [false,false,false,true] (zh vh (zb (zc 3) zm))))
  (vp (oX (hgT 2 (jX (hgN 6) (jX (hgN 7) bj))) (ZO zR (yo (jt 3) (yo (hP [] (mC .n)) Ko))))
  (vp (hIf (hPT [false,false,false,false,false,true,true,true] (mOr (zT (mOp (qK true) (zc 6) (zc 5))) (zT (mOp (oQ true) (zc 7) (mC .n))))) (V0 (hP [] (mC (.b false)))) YU)
  (vp (hIf (hPT [false,false,true,false,false,true] (lA (zT (mOp (qK false) (zc 5) (wD (zb (mC (.s "right")) zm)))) (mOr (zT (mOp pLt (zc 2) (mC (.i 0)))) (zT (mOp pGt (zc 2) (mOp qU (mC (.i 10)) (mC (.i 9)))))))) (wo 5 (EH (yo (hP [] (mC (.s "number"))) (yo (jt 2) Ko)))) YU)
  (vp (hIf (hPT [false,false,false,false,false,true] (zT (mOp (qK true) (zc 5) (wD (zb (mC (.s "right")) zm))))) (vp (oX (hgT 2 (jX (hgN 6) (jX (hgN 7) bj))) (ZO zR (yo (jt 3) (yo (jt 2) Ko))))
  (hIf (hPT [false,false,false,false,false,true,true,true] (mOr (zT (mOp (qK true) (zc 6) (zc 5))) (zT (mOp (oQ true) (zc 7) (mC .n))))) (V0 (hP [] (mC (.b false)))) YU)) (hIf (x6 (x8 (ZO yS (yo (jt 3) (yo (jt 2) Ko))))) (V0 (hP [] (mC (.b false)))) YU))
  (vp (hIf (hOr (hPT [false,false,false,true,true] (zT (mOp (qK true) (zc 3) (zc 4)))) (x6 (x8 (ZO yS (yo (jt 1) (yo (hP [true] (zh zi (zb (zc 0) (zb (mC (.i 19)) (zb (mC (.i 4)) zm))))) Ko)))))) (V0 (hP [] (mC (.b false)))) YU)
  (V0 (ZO yS (yo (jt 1) (yo (hP [false,false,true] (zh lK (zb (mC (.i 0)) (zb (zh gI (zb (zc 2) (zb (mOp qU (mC (.i 10)) (mC (.i 9))) zm))) zm)))) Ko)))))))))))))))
def uA:List HV->AH->HX HV:=dh 8 uz
def zE(T:Txt K mg a):jr P w K mg base (CXe P w) 1 a.zi a.XR ["_law_script","_law_k","_law_many"] (lsp (WW K a) false [true,true,true] zi):=
 ya (ms:=XG) (S':=[1,1,1,0]) (Sb:=[]) (Sc:=[]) T.zr.F QG rfl rfl rfl (by decide) λcdv A outer s H E hr=>
  (zk (se 3 QG.nd ei)
   (zk (y8 (z_ YR YS (kl rfl T.ZP (za (ev 0) ze)) ei (z8 _))
    (zo (se 3 QG.nd (zI Qp Qq (ix hr (ev 0) (zI Qp Qq (ev 1) (kl rfl T.ZP (za (ev 0) ze)))) ei)))
    z9)
   (zo (yq (zI Qp Qq (zI lq lz (zI Qp Qq (zI qH qI (zI zF zH (zI zF zH (ev 3) (zI qH qI ei (ev 1))) ei) (zI zF zH ei (zI qH qI (ev 1) (ev 1)))) ei) ei) (ev 2))))))
def nN(T:Txt K mg a):jr P w K mg base (CXe P w) 1 a.vh a.bY ["_law_weeks"] (lsp (WW K a) false [true] vh):=
 ya (ms:=bD) (S':=[1,0,0,0,0,0,0,0,0]) (Sb:=[]) (Sc:=[]) T.Je.F qr rfl rfl rfl (by decide) λcdv A outer s H E hr=>
  (zk (y8 (z_ YR YS (kl rfl T.ZP (za (ev 0) ze)) ei (z8 _))
    (zo (yq (yR (za (yt yC) (za ei ze)))))
    z9)
   (zk (Qu (i:=1) qr.nd rfl (.inl rfl) (kC ze))
   (zk (Zo (zS ⟨rfl,rfl⟩) rfl (Xp (lV (pv 0))) (Xo (n:=4) rfl (yx (gn 2 qr.nd) (yx (gn 3 qr.nd) (yx (gn 4 qr.nd) (yx (gn 5 qr.nd) Xn qz) qz) qz) qz))
    (zk (y8 (TWM.tm (ZL (QY hr.units (kl rfl T.ZP (za (ev 2) ze)) ei) (kD (z_ YR YS (kl rfl T.ZP (za (ev 2) ze)) ei (z8 _)))))
    (zo (yq (yR (za (yt yC) (za (zQ (pv 2)) ze)))))
    z9)
   (zk (Zo (zS ⟨rfl,rfl⟩) rfl (ue (ev 2)) (gn 6 qr.nd)
    (zo (y8 (YH (ZT hr) (ev 6) (yt yC))
    (zo (yq (yR (za (yt yC) (za (zQ (pv 2)) ze)))))
    z9)))
   (zk (y8 (pM (ZT hr) (ev 2) (ev 1))
    (zo (yq (yR (za (yt yC) (za (zQ (pv 2)) ze)))))
    z9)
   (zk (aX (pv 1) (zQ (pv 2)))
   (zo (Zo (zS ⟨rfl,rfl⟩) rfl (Xp (EM.en (zI zF zH (FM.em (kC (za (yR (za (zQ (pv 3)) (za ei ze))) (za (yR (za (zQ (pv 4)) (za ei ze))) ze)))) (FM.em (pR ["_law_load"] [none] [0] rfl (by kernel_rfl) (VQ (ev 5)) (λ_=>(qW (i:=0) (show List.Nodup (["_law_load"]:List Str)from by decide +kernel) rfl (.inl rfl))) (λ_=>VS) (λ_=>(yR (za (zQ (pv 0)) (za ei ze))))))))) (Xo (n:=2) rfl (yx (gn 7 qr.nd) (yx (gn 8 qr.nd) Xn qz) qz))
    (zo (y8 (TWM.tm (ZL (z_ cz cO (ev 7) (ev 8) (z8 _)) (kD (z_ YR YS (ev 7) (zI QS wB ei ei) (z8 _)))))
    (zo (yq (yR (za (yt yC) (za (zQ (pv 7)) ze)))))
    z9)))))))))
   (zo (yq (yR (za (yt yC) ze)))))))
def W5(T:Txt K mg a):jr P w K mg base (CXe P w) 1 a.v3 a.v9 ["self","most"] (xR a.zN ["most"]):=by
 refine T.WX.okX V7 (λvs H Q E h=>by obtain⟨e,us,rfl,hl,_⟩:=h;rw[v4,hl];rfl) λcdv A outer s H vs Q E hr h=>?_;obtain⟨e,us,rfl,hl,he,k⟩:=h
 match us,hl with
 |[v],_=>exact⟨_,ZQ (ZU (pv 0) (pv 1) rfl),_,rfl,_,rfl,e,a.zN,.none,rfl,T.qA,T.Wc,.inl ⟨he,k⟩⟩
def Y5(T:Txt K mg a):jr P w K mg base (CXe P w) 1 a.v5 a.v_ ["self","name"] (xR a.zM ["name"]):=by
 refine T.WZ.okX V8 (λvs H Q E h=>by obtain⟨e,us,rfl,hl,_⟩:=h;rw[v4,hl];rfl) λcdv A outer s H vs Q E hr h=>?_;obtain⟨e,us,rfl,hl,he,k⟩:=h
 match us,hl with
 |[v],_=>exact⟨_,ZQ (ZU (pv 0) (pv 1) rfl),_,rfl,_,rfl,e,a.zM,.none,rfl,T.y4,T.Wb,.inl ⟨he,k⟩⟩
def bG(T:Txt K mg a):jr P w K mg base (CXe P w) 1 a.Yw a.Yx ["self","name"] (xR a.yr ["name"]):=by
 refine T.bz.okX UO (λvs H Q E h=>by obtain⟨e,us,rfl,hl,_⟩:=h;rw[v4,hl];rfl) λcdv A outer s H vs Q E hr h=>?_;obtain⟨e,us,rfl,hl,he,k⟩:=h
 match us,hl with
 |[v],_=>exact⟨_,ZQ (ZU (pv 0) (pv 1) rfl),_,rfl,_,rfl,e,a.yr,.none,rfl,T.kF,T.US,.inl ⟨he,k⟩⟩
def K6(T:Txt K mg a):jr P w K mg base (CXe P w) 1 a.ke a.kf ["self","value"] (xR a.zu ["value"]):=by
 refine T.K0.okX J3 (λvs H Q E h=>by obtain⟨e,us,rfl,hl,_⟩:=h;rw[v4,hl];rfl) λcdv A outer s H vs Q E hr h=>?_;obtain⟨e,us,rfl,hl,he,k⟩:=h
 match us,hl with
 |[v],_=>exact⟨_,ZQ (ZU (pv 0) (pv 1) rfl),_,rfl,_,rfl,e,a.zu,.none,rfl,T.yG,T.Jf,.inl ⟨he,k⟩⟩
def bH(T:Txt K mg a):jr P w K mg base (CXe P w) 1 a.qO a.KI ["metre","due","loads"] (lsp (WW K a) false [true,true,true] qO):=
 ya (ms:=Ku) (S':=[1,1,1]) (Sb:=[]) (Sc:=[]) T.vy.F UP rfl rfl rfl (by decide) λcdv A outer s H E hr=>
  (zo (yq (Xl YR YS (zI zF zH (ev 0) (QZ rfl rfl T.Wa (za (ev 2) ze))) (ev 1) (z8 _))))
def Jp(T:Txt K mg a):jr P w K mg base (CXe P w) 1 a.yc a.vD ["metre","due","loads","night"] (lsp (WW K a) false [true,true,true,true] yc):=
 ya (ms:=vA) (S':=[1,1,1,1,0,0]) (Sb:=[]) (Sc:=[]) T.qc.F qJ rfl rfl rfl (by decide) λcdv A outer s H E hr=>
  (zk (se 4 qJ.nd (zI zF zH (ev 0) (QZ rfl rfl T.Wa (za (wG (ev 2) Qs (Qt (zI zF zH (ev 3) ei))) ze))))
   (zk (se 5 qJ.nd (QZ rfl rfl T.Wa (za (wG (ev 2) (Qt (zI zF zH (ev 3) ei)) Qs) ze)))
   (zo (yq (eP (Xl aq aT (ev 4) (ev 1) (z8 _)) (eO (Xl aq aT (ev 5) (ev 1) (z8 _))))))))
def W6(T:Txt K mg a):jr P w K mg base (CXe P w) 1 a.v7 a.wa ["self","name"] (xR a.zO ["name"]):=by
 refine T.W0.okX V9 (λvs H Q E h=>by obtain⟨e,us,rfl,hl,_⟩:=h;rw[v4,hl];rfl) λcdv A outer s H vs Q E hr h=>?_;obtain⟨e,us,rfl,hl,he,k⟩:=h
 match us,hl with
 |[v],_=>exact⟨_,ZQ (ZU (pv 0) (pv 1) rfl),_,rfl,_,rfl,e,a.zO,.none,rfl,T.qj,T.We,.inl ⟨he,k⟩⟩
def UX(T:Txt K mg a):jr P w K mg base (CXe P w) 1 a.qv a.Jx ["chosen","first","last"] (lsp (WW K a) true [true,true,true] qv):=
 ya (ms:=Ji) (S':=[1,1,1]) (Sb:=[]) (Sc:=[]) T.qt.F WV rfl rfl rfl (by decide) λcdv A outer s H E hr=>
  (zo (lS (C8 ["name","first","chosen","last"] [none,some 1,some 0,some 2] [0,1,1,1] rfl (by kernel_rfl) (pv 0) (λ_=>(qW (i:=0) (show List.Nodup (["name","first","chosen","last"]:List Str)from by decide +kernel) rfl (.inl rfl))) (λ_=>(l9 (TWM.tm (eN (z_ aq aT (ev 1) (ix hr (ix hr (ev 2) (ev 0)) ei) (z8 _)) (Ud (z_ aq aT (ix hr (ix hr (ev 2) (ev 0)) (lh ao aR ei)) (ev 3) (z8 _))))))) (λ_=>(zQ (pv 0))))))
def W7(T:Txt K mg a):jr P w K mg base (CXe P w) 1 a.v8 a.wb ["self","first","last","cars"] (xR a.zx ["first","last","cars"]):=by
 refine T.W3.okX V_ (λvs H Q E h=>by obtain⟨e,us,rfl,hl,_⟩:=h;rw[v4,hl];rfl) λcdv A outer s H vs Q E hr h=>?_;obtain⟨e,us,rfl,hl,he,k⟩:=h
 match us,hl with
 |[v,u,z],_=>
  have ne:∀{dx},H dx=none->dx≠e:=λh z=>by rw[z,he]at h;cases h
  exact⟨_,Vi (ZU (pv 0) (pv 1) rfl) (Vi (ZU (pv 0) (pv 2) rfl) (ZQ (ZU (pv 0) (pv 3) rfl))),_,rfl,_,rfl,e,a.zx,.none,rfl,T.yD,T.K2,.inl ⟨he,λdx hd=>⟨_,rfl,_,rfl,e,a.zx,.none,rfl,T.yD,T.Wf,.inr ⟨dx,[(("first":Str),v)],by rw[zd],by rw[zg (ne hd),zd],ne hd,(show 1<1000 by decide),⟨_,rfl,_,rfl,e,a.zx,.none,rfl,T.yD,T.Wh,.inr ⟨dx,[(("first":Str),v),(("last":Str),u)],by rw[zg (Ne.symm (ne hd)),zd],by rw[zd];rfl,ne hd,(show 2<1000 by decide),by
   have q:=k dx hd;have e1:cb ("cars":Str) z [(("first":Str),v),(("last":Str),u)]=[(("first":Str),v),(("last":Str),u),(("cars":Str),z)]:=rfl;rw[e1];have e2:∀{A B C D:HO},upd (upd (upd (upd H dx A) e B) dx C) dx D=upd (upd H dx D) e B:=λ{A B C D}=>funext λb=>by
    by_cases hb:b=dx
    .subst hb;rw[zd,zg (ne hd),zd]
    .rw[zg hb,zg hb];by_cases hb2:b=e
     .subst hb2;rw[zd,zd]
     .rw[zg hb2,zg hb2,zg hb,zg hb]
   rw[e2];exact q⟩⟩⟩⟩⟩⟩
def W8(T:Txt K mg a):gB P w K mg base 1 a.zP a.Jy ["_law_e"] (lsp (WW K a) false [true] zP):=
 mq (ms:=Jj) (S':=[1,0]) (Sb:=[]) (Sc:=[]) T.qu.F vR rfl rfl rfl (by decide) λcdv A outer s H E hr=>
  (zk (se 1 vR.nd (FM.em (kC (za (ZX rfl T.zV (ev 0) (qS rfl T.Ya (v:=.ref _) rfl) rfl ⟨⟨⟨T.y4,T.jA⟩,T.kG⟩,⟨⟨⟨T.yG,T.qi⟩,T.kH⟩,⟨⟨⟨T.qA,T.jB⟩,T.kI⟩,⟨⟨⟨T.kF,T.wU⟩,T.kJ⟩,⟨⟨⟨T.qj,T.jC⟩,T.kK⟩,⟨⟨⟨T.yD,T.jD⟩,T.kL⟩,trivial⟩⟩⟩⟩⟩⟩) (za (ZX rfl T.zV (ev 0) (qS rfl T.UR (v:=.ref _) rfl) rfl ⟨⟨⟨T.y4,T.jA⟩,T.wV⟩,⟨⟨⟨T.yG,T.qi⟩,T.wW⟩,⟨⟨⟨T.qA,T.jB⟩,T.wX⟩,⟨⟨⟨T.kF,T.wU⟩,T.wY⟩,⟨⟨⟨T.qj,T.jC⟩,T.wZ⟩,⟨⟨⟨T.yD,T.jD⟩,T.w4⟩,trivial⟩⟩⟩⟩⟩⟩) (za (ZX rfl T.zV (ev 0) (qS rfl T.wO (v:=.ref _) rfl) rfl ⟨⟨⟨T.y4,T.jA⟩,T.jE⟩,⟨⟨⟨T.yG,T.qi⟩,T.jF⟩,⟨⟨⟨T.qA,T.jB⟩,T.jG⟩,⟨⟨⟨T.kF,T.wU⟩,T.jH⟩,⟨⟨⟨T.qj,T.jC⟩,T.jI⟩,⟨⟨⟨T.yD,T.jD⟩,T.jJ⟩,trivial⟩⟩⟩⟩⟩⟩) (za (ZX rfl T.zV (ev 0) (qS rfl T.Ja (v:=.ref _) rfl) rfl ⟨⟨⟨T.y4,T.jA⟩,T.kM⟩,⟨⟨⟨T.yG,T.qi⟩,T.kN⟩,⟨⟨⟨T.qA,T.jB⟩,T.kO⟩,⟨⟨⟨T.kF,T.wU⟩,T.kQ⟩,⟨⟨⟨T.qj,T.jC⟩,T.kR⟩,⟨⟨⟨T.yD,T.jD⟩,T.kT⟩,trivial⟩⟩⟩⟩⟩⟩) ze)))))))
   (zk (se 1 vR.nd (zI zF zH (ev 1) (FM.em (kC (za (ZX rfl T.zV (ev 0) (qS rfl T.Jb (v:=.ref _) rfl) rfl ⟨⟨⟨T.y4,T.jA⟩,T.kU⟩,⟨⟨⟨T.yG,T.qi⟩,T.kW⟩,⟨⟨⟨T.qA,T.jB⟩,T.kX⟩,⟨⟨⟨T.kF,T.wU⟩,T.kY⟩,⟨⟨⟨T.qj,T.jC⟩,T.kZ⟩,⟨⟨⟨T.yD,T.jD⟩,T.k7⟩,trivial⟩⟩⟩⟩⟩⟩) (za (ZX rfl T.zV (ev 0) (qS rfl T.Jc (v:=.ref _) rfl) rfl ⟨⟨⟨T.y4,T.jA⟩,T.k8⟩,⟨⟨⟨T.yG,T.qi⟩,T.k9⟩,⟨⟨⟨T.qA,T.jB⟩,T.k_⟩,⟨⟨⟨T.kF,T.wU⟩,T.vc⟩,⟨⟨⟨T.qj,T.jC⟩,T.vd⟩,⟨⟨⟨T.yD,T.jD⟩,T.ve⟩,trivial⟩⟩⟩⟩⟩⟩) ze))))))
   (zk (y8 (TWM.tm (ZL (gH hr.units (mE (ev 1) (QW QR)) ei) (kD (Xm (we (ZX rfl T.zV (ev 0) (VA rfl T.Yb PyProof.Rows.Boot.«ValueError» (v:=.ty "ValueError") rfl) rfl ⟨⟨⟨T.y4,T.jA⟩,T.jb⟩,⟨⟨⟨T.yG,T.qi⟩,T.jc⟩,⟨⟨⟨T.qA,T.jB⟩,T.jd⟩,⟨⟨⟨T.kF,T.wU⟩,T.je⟩,⟨⟨⟨T.qj,T.jC⟩,T.jf⟩,⟨⟨⟨T.yD,T.jD⟩,T.jg⟩,trivial⟩⟩⟩⟩⟩⟩))))))
    (zo (yq (yR (za (yt yC) ze))))
    z9)
   (zk (y8 (TWM.tm (ZL (we (aV (V4 hr) (ev 1) ei)) (kD (we (aV (V4 hr) (ev 1) ei)))))
    (zo (yq (yR (za (aV (V4 hr) (FM.em (kC (za (yt yC) (za (yt yC) ze)))) (mM rfl T.nE (za (aV (V4 hr) (ev 1) ei) ze))) (za (Qr (ev 0) (fa ⟨T.y4,T.Yc⟩ (fa ⟨T.kF,T.Jh⟩ (fa ⟨T.qj,T.Yd⟩ fz)))) ze)))))
    z9)
   (zk (y8 (we (aV (V4 hr) (ev 1) ei))
    (zo (yq (yR (za (yt yC) (za (Qr (ev 0) (fa ⟨T.yG,T.Jg⟩ fz)) ze)))))
    z9)
   (zk (y8 (we (aV (V4 hr) (ev 1) ei))
    (zo (yq (yR (za (yt yC) (za (Qr (ev 0) (fa ⟨T.qA,T.Wd⟩ fz)) ze)))))
    z9)
   (zk (y8 (we (aV (V4 hr) (ev 1) ei))
    (zo (yq (yR (za (yt yC) (za (Qr (ev 0) (fa ⟨T.y4,T.Yc⟩ (fa ⟨T.kF,T.Jh⟩ (fa ⟨T.qj,T.Yd⟩ fz)))) ze)))))
    z9)
   (zo (yq (yR (za (yt yC) (za (Qr (ev 0) (fa ⟨T.yD,T.K3⟩ fz)) (za (Qr (ev 0) (fa ⟨T.yD,T.Wg⟩ fz)) (za (Qr (ev 0) (fa ⟨T.yD,T.Wi⟩ fz)) ze))))))))))))))
def bI(T:Txt K mg a):jr P w K mg base (CXe P w) 1 a.WC a.WG ["_law_weeks"] (hsp (WW K a) 1 qP):=
 bo (ms:=Yj) T.jx.F qh rfl rfl rfl λcdv A outer s H E hr=>
  (zK (hse 1 qh.nd (hf Uk))
   (zK (dg (S:=II) (fr:=false) [true] (zS ⟨rfl,rfl⟩) rfl (Xp (EM.en (zQ (pv 0)))) (fh (n:=4) rfl (jQ (qX (i:=2) qh.nd rfl (.inl rfl)) (jQ (qX (i:=3) qh.nd rfl (.inl rfl)) (jQ (qX (i:=4) qh.nd rfl (.inl rfl)) (jQ (qX (i:=5) qh.nd rfl (.inl rfl)) Ux)))))
    (yk (V1 (mN (S:=II) (fr:=false) [false,false,false,true,true,true] (z_ YR YS (zI zF zH (ev 3) (QZ rfl rfl T.Wa (za (ev 5) ze))) (ev 4) (z8 _)))
    (zK (uc (ZT hr) (yL (pv 1)) (yL (pv 2)) (hf (kC ze)))
   (yk (dg (S:=II) (fr:=false) [] (zS ⟨rfl,rfl⟩) rfl (wH rfl T.j9 (za ei ze)) (qX (i:=6) qh.nd rfl (.inl rfl))
    (yk (V1 (mN (S:=II) (fr:=false) [false,false,false,true,true,true,true] (TWM.tm (eN (z_ aq aT (zI zF zH (ev 3) (QZ rfl rfl T.Wa (za (wG (ev 5) Qs (Qt (zI zF zH (ev 6) ei))) ze))) (ev 4) (z8 _)) (Ud (z_ aq aT (QZ rfl rfl T.Wa (za (wG (ev 5) (Qt (zI zF zH (ev 6) ei)) Qs) ze)) (ev 4) (z8 _))))))
    (yk (mR (FQ (ZT hr) (yL (pv 1)) (yL (pv 2))) (yL (pv 6))))
    vI)))))
    vI)))
   (yk (wq (yL (pv 1))))))
def Yo(T:Txt K mg a):jr P w K mg base (CXe P w) 1 a.yE a.KJ ["_law_one"] (lsp (WW K a) false [true] yE):=
 ya (ms:=Kv) (S':=[1]) (Sb:=[]) (Sc:=[]) T.qN.F UQ rfl rfl rfl (by decide) λcdv A outer s H E hr=>
  (zo (yq (eP (ZX rfl T.zV (ev 0) (VA rfl T.nE PyProof.Rows.Boot.«int» (v:=.ty "int") rfl) rfl ⟨⟨trivial,T.J7⟩,⟨⟨trivial,T.QK⟩,trivial⟩⟩) (eO (CA (ZX rfl T.zV (ev 0) (VA rfl T.nD PyProof.Rows.Boot.«bool» (v:=.ty "bool") rfl) rfl ⟨⟨trivial,T.Ye⟩,⟨⟨trivial,T.QJ⟩,trivial⟩⟩))))))
def bJ(T:Txt K mg a):jr P w K mg base (CXe P w) 2 a.ql a.KG ["_law_script","_law_weeks"] (lsp (WW K a) false [true,true] ql):=
 ya (ms:=Kw) (S':=[1,1,0,0,0,0,0,0,0,0,0]) (Sb:=[]) (Sc:=[]) T.vv.F zw rfl rfl rfl (by decide) λcdv A outer s H E hr=>
  (zk (Qu (i:=1) zw.nd rfl (.inl rfl) (Ut rfl rfl T.XE (za (ev 1) ze)))
   (zk (Zo (zS ⟨rfl,rfl⟩) rfl (wH rfl T.j9 (za (zI qH qI ei (mM rfl T.nE (za (eP (xD hr.units (ec (zE T) hr T.zr zZ (za (ev 0) (za (EM.weak ei) (za (EM.weak ei) ze)))) ei) (eO (Xl YR YS (kl rfl T.ZP (za (ev 1) ze)) ei (z8 _)))) ze))) ze)) (gn 2 zw.nd)
    (zk (se 3 zw.nd (ec (zE T) hr T.zr zZ (za (ev 0) (za (EM.weak (zI zF zH ei (ev 2))) (za (EM.weak (kl rfl T.ZP (za (ev 1) ze))) ze)))))
   (zk (CW (ix hr (ev 1) (ev 3)) (Xo (n:=4) rfl (yx (gn 4 zw.nd) (yx (gn 5 zw.nd) (yx (gn 6 zw.nd) (yx (gn 7 zw.nd) Xn qz) qz) qz) qz)))
   (zk (Qu (i:=7) zw.nd rfl (.inl rfl) (Ut rfl rfl T.XE (za (ev 7) ze)))
   (zk (se 8 zw.nd (ec (zE T) hr T.zr zZ (za (ev 0) (za (EM.weak (zI zF zH ei (ev 2))) (za (EM.weak ei) ze)))))
   (zk (se 9 zw.nd (ix hr (FM.em (kC (za (lh ao aR ei) (za (zI zF zH (zI QS wB ei ei) ei) (za (zI Kg Kk ei (zI QS wB ei ei)) ze))))) (ec (zE T) hr T.zr zZ (za (ev 0) (za (EM.weak ei) (za (EM.weak ei) ze))))))
   (zk (y8 (QY hr.units (ev 8) ei)
    (zo (se 4 zw.nd (ix hr (FM.em (kC (za (yt yC) (za (yt yC) (za (zI zF zH (ev 4) (yt yC)) (za (zI qH qI (yt yC) ei) ze)))))) (ec (zE T) hr T.zr zZ (za (ev 0) (za (EM.weak ei) (za (EM.weak ei) ze)))))))
    z9)
   (zk (y8 (QY hr.units (ev 8) ei)
    (zo (se 4 zw.nd (ix hr (ix hr (ev 1) (ec (zE T) hr T.zr zZ (za (ev 0) (za (EM.weak ei) (za (EM.weak (kl rfl T.ZP (za (ev 1) ze))) ze))))) ei)))
    z9)
   (zk (y8 (QY hr.units (ev 8) ei)
    (zo (se 5 zw.nd (zQ (pv 9))))
    z9)
   (zk (y8 (QY hr.units (ev 8) ei)
    (zo (se 6 zw.nd (ix hr (FM.em (kC (za ei (za (zQ (pv 9)) ze)))) (ec (zE T) hr T.zr zZ (za (ev 0) (za (EM.weak ei) (za (EM.weak ei) ze)))))))
    z9)
   (zk (y8 (QY hr.units (ev 8) ei)
    (zo (cZ (pv 7) (ec (zE T) hr T.zr zZ (za (ev 0) (za (EM.weak ei) (za (EM.weak ei) ze)))) (zQ (pv 9))))
    z9)
   (lQ 7 (zo (cZ (pv 1) (ev 3) (yR (za (zQ (pv 4)) (za (zQ (pv 5)) (za (zQ (pv 6)) (za (zQ (pv 7)) ze)))))))))))))))))))
   (zk (y8 (QY hr.units (ec (zE T) hr T.zr zZ (za (ev 0) (za (EM.weak ei) (za (EM.weak ei) ze)))) ei)
    (zk (Fz (i:=10) ["_law_k"] [none] [0] zw.nd rfl rfl rfl (by kernel_rfl) (wH rfl T.j9 (za (zI zF zH ei (ec (zE T) hr T.zr zZ (za (ev 0) (za (EM.weak ei) (za (EM.weak ei) ze))))) ze)) (λ_=>(qW (i:=0) (show List.Nodup (["_law_k"]:List Str)from by decide +kernel) rfl (.inl rfl))) (λ_=>VS) (λ_=>(zI zF zH (ix hr (yt yC) (zI Qp Qq (ev 0) ei)) (Ae rfl T.As (za (zI Qp Qq (ev 0) ei) ze)))))
   (zo (C0 (i:=1) ["_law_name_here"] [none] [0] zw.nd rfl rfl rfl (by kernel_rfl) (VQ (ev 10)) (λ_=>(qW (i:=0) (show List.Nodup (["_law_name_here"]:List Str)from by decide +kernel) rfl (.inl rfl))) (λ_=>VS) (λ_=>(yR (za (zQ (pv 0)) (za ei (za ei (za (FM.em (kC (za ei (za ei (za ei (za ei (za ei (za ei (za (zI Kg Kk (kl rfl T.ZP (za (ev 0) ze)) ei) ze))))))))) ze)))))))))
    z9)
   (lQ 1 (zo (yq (zQ (pv 1))))))))
def r0(T:Txt K mg a):jr P w K mg base (CXe P w) 2 a.Zb a.f9 ["metre","due","loads"] (lsp (WW K a) true [true,true,true] Zb):=
 ya (ms:=fG) (S':=[1,1,1]) (Sb:=[]) (Sc:=[]) T.YM.F nC rfl rfl rfl (by decide) λcdv A outer s H E hr=>
  (zo (lS (pR ["night","metre","due","loads"] [none,some 0,some 1,some 2] [0,1,1,1] rfl (by kernel_rfl) (wH rfl T.j9 (za (Kj (qS (v:=.int 7) rfl T.XB ⟨_,rfl⟩)) ze)) (λ_=>(qW (i:=0) (show List.Nodup (["night","metre","due","loads"]:List Str)from by decide +kernel) rfl (.inl rfl))) (λ_=>(l9 (we (ec (Jp T) hr T.qc tM (za (ev 1) (za (ev 2) (za (ev 3) (za (ev 0) ze)))))))) (λ_=>(zQ (pv 0))))))
def dz(T:Txt K mg a):jr P w K mg base (CXe P w) 2 a.jK a.WH ["_law_first","_law_last","_law_cars","_law_needs_here","_law_bays"] (lsp (WW K a) false [true,true,true,true,true] jK):=
 ya (ms:=Wo) (S':=[1,1,1,1,1,0]) (Sb:=[]) (Sc:=[]) T.wQ.F Ks rfl rfl rfl (by decide) λcdv A outer s H E hr=>
  (zk (y8 (TWM.tm (ZL (Xm (we (ec (Yo T) hr T.qN zZ (za (ev 0) ze)))) (ZL (Xm (we (ec (Yo T) hr T.qN zZ (za (ev 1) ze)))) (kD (Xm (we (ZX rfl T.zV (ev 2) (VA rfl T.XE PyProof.Rows.Boot.«list» (v:=.ty "list") rfl) rfl ⟨⟨trivial,T.Yf⟩,trivial⟩)))))))
    (zo (yq (QW QR)))
    z9)
   (zk (y8 (TWM.tm (ZL (z_ cz cO (ev 0) ei (z8 _)) (ZL (z_ cz cO (ev 1) (ev 0) (z8 _)) (ZL (z_ YR YS (ev 1) ei (z8 _)) (kD (z_ aq aT (kl rfl T.ZP (za (ev 2) ze)) (zI qH qI (ev 4) (zI zF zH (zI Kg Kk (ev 1) (ev 0)) ei)) (z8 _)))))))
    (zo (yq (QW QR)))
    z9)
   (zk (Zo (zS ⟨rfl,rfl⟩) rfl (wH rfl T.j9 (za (kl rfl T.ZP (za (ev 2) ze)) ze)) (gn 5 Ks.nd)
    (zk (y8 (TWM.tm (ZL (YH (ZT hr) (ix hr (ev 2) (ev 5)) (ev 3)) (kD (pM (ZT hr) (ix hr (ev 2) (ev 5)) (wG (ev 2) Qs (Qt (ev 5)))))))
    (zo (yq (QW QR)))
    z9)
   (zo (y8 (TWM.tm (ZL (z_ cz cO (ix hr (ix hr (ev 3) (ix hr (ev 2) (ev 5))) ei) (ev 0) (z8 _)) (kD (z_ YR YS (ix hr (ix hr (ev 3) (ix hr (ev 2) (ev 5))) (lh ao aR ei)) (ev 1) (z8 _)))))
    (zo (yq (QW QR)))
    z9))))
   (zo (yq (QW QR))))))
def dA(T:Txt K mg a):jr P w K mg base (CXe P w) 2 a.jL a.WI ["_law_told","_law_weeks","_law_needs_here","_law_bays"] (lsp (WW K a) false [true,true,true,true] jL):=
 ya (ms:=Wq) (S':=[1,1,1,1,0,0]) (Sb:=[]) (Sc:=[]) T.wR.F Z7 rfl rfl rfl (by decide) λcdv A outer s H E hr=>
  (zk (y8 (TWM.tm (ZL (Xm (we (ZX rfl T.zV (ev 0) (VA rfl T.fE PyProof.Rows.Boot.«dict» (v:=.ty "dict") rfl) rfl ⟨⟨trivial,T.Yg⟩,trivial⟩))) (kD (gH hr.units (FM.em (rN rfl rfl T.Jd (za (ev 0) ze))) (FM.em (rL rfl T.Jd (za (FM.em (pR ["_law_week_here"] [none] [0] rfl (by kernel_rfl) (VQ (ev 1)) (λ_=>(qW (i:=0) (show List.Nodup (["_law_week_here"]:List Str)from by decide +kernel) rfl (.inl rfl))) (λ_=>VS) (λ_=>(ix hr (ev 0) ei)))) ze)))))))
    (zo (yq (QW QR)))
    z9)
   (zk (Qu (i:=4) Z7.nd rfl (.inl rfl) (kC (za ei (za ei (za ei (za ei (za ei (za ei (za ei ze)))))))))
   (zk (mB rfl ⟨rfl,rfl⟩ (λE=>(pv 0)) (λE=>(gn 5 Z7.nd))
    (λE=>(zo (y8 (YH (ZT hr) (ev 5) (ev 2))
    (zo (y8 (z_ cA cQ (ix hr (ev 0) (ev 5)) (VM Vz) (z8 _))
    (zo (yq (QW QR)))
    z9))
    (zo (y8 (TWM.tm (ZL (Xm (we (ec (Yo T) hr T.qN zZ (za (EM.weak (ix hr (ev 0) (ev 5))) ze)))) (kD (YH (ZT hr) (ix hr (ev 0) (ev 5)) (ix hr (ev 2) (ev 5))))))
    (zo (yq (QW QR)))
    (zo (cZ (pv 4) (ix hr (ev 0) (ev 5)) (zI zF zH (ix hr (ev 4) (ix hr (ev 0) (ev 5))) ei)))))))))
   (zo (yq (Xl aq aT (eT rfl rfl T.gR (za (ev 4) ze)) (ev 3) (z8 _)))))))
def gX(T:Txt K mg a):jr P w K mg base (CXe P w) 2 a.jM a.XS ["_law_script","_law_k","_law_number_here"] (lsp (WW K a) false [true,true,true] jM):=
 ya (ms:=XH) (S':=[1,1,1,0,0]) (Sb:=[]) (Sc:=[]) T.YN.F QI rfl rfl rfl (by decide) λcdv A outer s H E hr=>
  (zk (se 3 QI.nd (ec (zE T) hr T.zr zZ (za (ev 0) (za (ev 1) (za (EM.weak ei) ze)))))
   (zk (se 4 QI.nd (zI zF zH (ec (zE T) hr T.zr zZ (za (ev 0) (za (EM.weak (zI zF zH (ev 1) ei)) (za (EM.weak (zI Kg Kk ei (ev 3))) ze)))) (zI Qp Qq (ev 2) ei)))
   (zo (yq (zI zF zH (zI zF zH (zI qH qI (yt yC) (ev 3)) (ix hr (yt yC) (ev 2))) (zI qH qI (yt yC) (ev 4)))))))
def bK(T:Txt K mg a):jr P w K mg base (CXe P w) 3 a.qo a.KH ["things","most"] (lsp (WW K a) false [true,false] qo):=
 ya (ms:=Kx) (S':=[1,0]) (Sb:=[]) (Sc:=[]) T.vx.F UN rfl rfl rfl (by decide) λcdv A outer s H E hr=>
  (zo (y8 (z_ YR YS (kl rfl T.ZP (za (ev 0) ze)) (ev 1) (z8 _))
    (zo (wI (c:=3) rfl T.nG T.qA (W5 T) (rm hr) rfl T.Ja T.WY (za (zQ (pv 1)) ze)))
    z9))
def W9(T:Txt K mg a):jr P w K mg base (CXe P w) 3 a.y6 a.Y6 ["name"] (lsp (WW K a) false [false] y6):=
 ya (ms:=Y2) (S':=[0,0]) (Sb:=[]) (Sc:=[]) T.jR.F Z4 rfl rfl rfl (by decide) λcdv A outer s H E hr=>
  (zk (y8 (TWM.tm (ZL (z_ cz cO (kl rfl T.ZP (za (ev 0) ze)) ei (z8 _)) (kD (z_ YR YS (kl rfl T.ZP (za (ev 0) ze)) (Kj (qS (v:=.int 12) rfl T.vS ⟨_,rfl⟩)) (z8 _)))))
    (zo (wI (c:=1) rfl T.bB T.y4 (Y5 T) (rm hr) rfl T.Ya T.YY (za (zQ (pv 0)) ze)))
    z9)
   (zk (Zo (zS ⟨rfl,rfl⟩) rfl (ue (ev 0)) (gn 1 Z4.nd)
    (zo (y8 (YH (ZT hr) (ev 1) (yt (qS (v:=.str "abcdefghijklmnopqrstuvwxyz0123456789") rfl T.Z8 ⟨_,rfl⟩)))
    (zo (wI (c:=1) rfl T.bB T.y4 (Y5 T) (rm hr) rfl T.Ya T.YY (za (zQ (pv 0)) ze)))
    z9)))
   (zo (yq (zQ (pv 0))))))
def qG(T:Txt K mg a):jr P w K mg base (CXe P w) 3 a.zt a.Zw ["value","least"] (lsp (WW K a) false [false,true] zt):=
 ya (ms:=Zv) (S':=[0,1]) (Sb:=[]) (Sc:=[]) T.yf.F J6 rfl rfl rfl (by decide) λcdv A outer s H E hr=>
  (zk (y8 (TWM.tm (ZL (z_ cz cO (ev 0) (ev 1) (z8 _)) (kD (z_ YR YS (ev 0) (Kj (qS (v:=.int 1000000000) rfl T.dr ⟨_,rfl⟩)) (z8 _)))))
    (zo (wI (c:=2) rfl T.dy T.yG (K6 T) (rm hr) rfl T.wO T.K1 (za (zQ (pv 0)) ze)))
    z9)
   (zo (yq (zQ (pv 0)))))
def J8(T:Txt K mg a):jr P w K mg base (CXe P w) 3 a.z6 a.wz ["weeks"] (lsp (WW K a) true [true] z6):=
 ya (ms:=wx) (S':=[1,0,0,0,0,0]) (Sb:=[]) (Sc:=[]) T.yp.F yb rfl rfl rfl (by decide) λcdv A outer s H E hr=>
  (zk (Qu (i:=1) yb.nd rfl (.inl rfl) Uk)
   (zk (Zo (zS ⟨rfl,rfl⟩) rfl (Xp (lV (pv 0))) (Xo (n:=4) rfl (yx (gn 2 yb.nd) (yx (gn 3 yb.nd) (yx (gn 4 yb.nd) (yx (gn 5 yb.nd) Xn qz) qz) qz) qz))
    (zo (y8 (we (ec (bH T) hr T.vy zZ (za (ev 3) (za (ev 4) (za (ev 5) ze)))))
    (zo (tV (ZT hr) (pv 1) (ev 2) (FM.em (cX (r0 T) (rm hr) rfl T.YM.g T.YM.k T.YM.b zZ (za (ev 3) (za (ev 4) (za (ev 5) ze)))))))
    z9)))
   (zo (xJ (pv 1)))))
def W_(T:Txt K mg a):jr P w K mg base (CXe P w) 3 a.yH a.Y7 ["chosen"] (lsp (WW K a) false [true] yH):=
 ya (ms:=Y3) (S':=[1,0]) (Sb:=[]) (Sc:=[]) T.jS.F Z5 rfl rfl rfl (by decide) λcdv A outer s H E hr=>
  (zo (mB rfl ⟨rfl,rfl⟩ (λE=>(pv 0)) (λE=>(gn 1 Z5.nd))
    (λE=>(zo (y8 (QY hr.units (kl rfl T.ZP (za (ix hr (ev 0) (ev 1)) ze)) ei)
    (zo (wI (c:=5) rfl T.nH T.qj (W6 T) (rm hr) rfl T.Jb T.W2 (za (zQ (pv 1)) ze)))
    z9)))))
def Xa(T:Txt K mg a):jr P w K mg base (CXe P w) 3 a.ym a.Y8 ["chosen","bays"] (lsp (WW K a) false [true,true] ym):=
 ya (ms:=Y4) (S':=[1,1,0,0,0]) (Sb:=[]) (Sc:=[]) T.jT.F ja rfl rfl rfl (by decide) λcdv A outer s H E hr=>
  (zo (Zo (zS ⟨rfl,rfl⟩) rfl (wH rfl T.j9 (za (Kj (qS (v:=.int 7) rfl T.XB ⟨_,rfl⟩)) ze)) (gn 2 ja.nd)
    (zo (Zo (zS ⟨rfl,rfl⟩) rfl (xQ rfl T.j9 (za (ev 2) (za (Kj (qS (v:=.int 7) rfl T.XB ⟨_,rfl⟩)) ze))) (gn 3 ja.nd)
    (zk (se 4 ja.nd (FM.em (cX (UX T) (rm hr) rfl T.qt.g T.qt.k T.qt.b zZ (za (ev 0) (za (ev 2) (za (ev 3) ze))))))
   (zo (y8 (z_ YR YS (kl rfl T.ZP (za (ev 4) ze)) (zI qH qI (ev 1) (zI zF zH (zI Kg Kk (ev 3) (ev 2)) ei)) (z8 _))
    (zo (wI (c:=6) rfl T.nJ T.yD (W7 T) (rm hr) rfl T.Jc T.W4 (za (zQ (pv 2)) (za (zQ (pv 3)) (za (zQ (pv 4)) ze)))))
    z9)))))))
def gY(T:Txt K mg a):jr P w K mg base (CXe P w) 3 a.qQ a.XT ["_law_script","_law_k"] (lsp (WW K a) false [true,true] qQ):=
 ya (ms:=XI) (S':=[1,1,0,0,0,0,0,0,0,0]) (Sb:=[]) (Sc:=[]) T.YO.F z0 rfl rfl rfl (by decide) λcdv A outer s H E hr=>
  (zk (se 2 z0.nd (ix hr (FM.em (kC (za ei (za ei (za (zI QS wB ei ei) ze))))) (ec (zE T) hr T.zr zZ (za (ev 0) (za (EM.weak ei) (za (EM.weak ei) ze))))))
   (zk (Qu (i:=3) z0.nd rfl (.inl rfl) (kC ze))
   (zk (Zo (zS ⟨rfl,rfl⟩) rfl (wH rfl T.j9 (za ei ze)) (gn 4 z0.nd)
    (zk (se 5 z0.nd (ec (zE T) hr T.zr zZ (za (ev 0) (za (EM.weak (zI zF zH (zI zF zH ei (zI qH qI ei (ev 1))) (ev 4))) (za (EM.weak ei) ze)))))
   (zk (y8 (z_ YR YS (ev 5) ei (z8 _))
    (zo (se 5 z0.nd (ec (zE T) hr T.zr zZ (za (ev 0) (za (EM.weak (zI zF zH (zI zF zH ei (zI qH qI ei (ev 1))) (ev 4))) (za (ev 2) ze))))))
    z9)
   (zo (aX (pv 3) (zQ (pv 5)))))))
   (zk (Aa (i:=3) (j:=6) z0.nd rfl (.inl rfl) (pv 3))
   (zk (se 7 z0.nd (ec (zE T) hr T.zr zZ (za (ev 0) (za (EM.weak (zI zF zH ei (zI qH qI ei (ev 1)))) (za (EM.weak ei) ze)))))
   (zk (se 8 z0.nd (ec (zE T) hr T.zr zZ (za (ev 0) (za (EM.weak (zI zF zH ei (zI qH qI ei (ev 1)))) (za (EM.weak ei) ze)))))
   (zk (se 9 z0.nd (eT rfl rfl T.gR (za (zI zF zH (ev 6) (QZ rfl rfl T.Wa (za (wG (ev 3) Qs (Qt (zI zF zH (ev 7) ei))) ze))) (za (QZ rfl rfl T.Wa (za (wG (ev 3) (Qt (zI zF zH (ev 7) ei)) Qs) ze)) ze))))
   (zk (y8 (QY hr.units (ev 8) ei)
    (zo (se 9 z0.nd (zI Kg Kk (ev 9) ei)))
    z9)
   (zk (y8 (QY hr.units (ev 8) ei)
    (zo (se 9 z0.nd (zI Kg Kk (zI zF zH (ev 6) (QZ rfl rfl T.Wa (za (ev 3) ze))) (ec (zE T) hr T.zr zZ (za (ev 0) (za (EM.weak (zI zF zH ei (zI qH qI ei (ev 1)))) (za (EM.weak ei) ze)))))))
    z9)
   (zk (y8 (z_ YR YS (ev 8) ei (z8 _))
    (zo (se 9 z0.nd (zI zF zH (ev 9) (ec (zE T) hr T.zr zZ (za (ev 0) (za (EM.weak (zI zF zH ei (zI qH qI ei (ev 1)))) (za (EM.weak (zI zF zH ei (zI lq lz (ev 9) ei))) ze)))))))
    z9)
   (lQ 3 (zo (yq (yR (za (ec (gX T) hr T.YN zZ (za (ev 0) (za (EM.weak ei) (za (ev 1) ze)))) (za (zQ (pv 6)) (za (eT rfl rfl T.gR (za ei (za (ev 9) ze))) (za (zQ (pv 3)) ze))))))))))))))))))
def Jq(T:Txt K mg a):jr P w K mg base (CXe P w) 4 a.yd a.vC ["name","had"] (lsp (WW K a) false [false,true] yd):=
 ya (ms:=vB) (S':=[0,1]) (Sb:=[]) (Sc:=[]) T.qb.F QH rfl rfl rfl (by decide) λcdv A outer s H E hr=>
  (zk (JN (ec (W9 T) hr T.jR zZ (za (zQ (pv 0)) ze)))
   (zk (y8 (pM (ZT hr) (ev 0) (ev 1))
    (zo (wI (c:=4) rfl T.Au T.kF (bG T) (rm hr) rfl T.UR T.bA (za (zQ (pv 0)) ze)))
    z9)
   (zo (yq (zQ (pv 0))))))
def nO(T:Txt K mg a)(TB:m9 base mg a.g_ a.hU):jr P w K mg base (CXe P w) 4 a.f7 a.U6 ["chosen","bays"] (hsp (WW K a) 2 Jn):=
 Aj (ms:=Jm) T.vz.F T.fF Z6 rfl rfl rfl λA outer s H E hr=>
  (zK (mQ (i:=2) Z6.nd rfl (by first|exact .inl rfl|exact .inr rfl) (hf Uk))
   (zK (dg (S:=IJ) (fr:=false) [] (zS ⟨rfl,rfl⟩) rfl (wH rfl T.j9 (za (Kj (qS (v:=.int 7) rfl T.XB ⟨_,rfl⟩)) ze)) (qX (i:=3) Z6.nd rfl (by first|exact .inl rfl|exact .inr rfl))
    (zK (Dq (S:=IJ) (j:=4) [true,false,true,true] ["name","told","night","chosen"] [none,some 2,some 3,some 0] [0,0,0,0] Z6.nd rfl rfl rfl (by kernel_rfl) (pv 0) (λ_=>(qW (i:=0) (show List.Nodup (["name","told","night","chosen"]:List Str)from by decide +kernel) rfl (.inl rfl))) (λ_=>(l9 (TWM.tm (eN (YH (ZT hr) (ev 0) (ev 1)) (Ud (pM (ZT hr) (ev 2) (ix hr (ev 3) (ev 0)))))))) (λ_=>(zQ (pv 0))))
   (yk (Af (zS ⟨rfl,rfl⟩) rfl (Dz (rX (k:=0) (i:=0) (x:="car") (y:="chosen") rfl rfl TB rfl (λa h=>by first|exact Dy rfl h|exact clos_b rfl h) rfl (FX (by decide +kernel)) rfl rfl (λpm a c' ctv s u=>.of_eq rfl) (λf a c' A outer s H vs Q E hr q=>rP rfl rfl (by decide) (ix hr (ix hr (ev 1) (ev 0)) (lh ao aR ei)) q) (rm hr) rfl T.Jd (yy (yL (pv 4)) Zq)) (yL (pv 1))) (qX (i:=5) Z6.nd rfl (.inl rfl))
    (yk (uc (ZT hr) (yL (pv 2)) (yL (pv 5)) (yL (pv 3))))))))
   (yk (wq (yL (pv 2))))))
def Jr(T:Txt K mg a):jr P w K mg base (CXe P w) 5 a.zL a.Jw ["weeks"] (lsp (WW K a) false [true] zL):=
 ya (ms:=Jo) (S':=[1,2,0,0,0,0,0]) (Sb:=[]) (Sc:=[]) T.yW.F yF rfl rfl rfl (by decide) λcdv A outer s H E hr=>
  (zk (JN (ec (bK T) hr T.vx zZ (za (ev 0) (za (Kj (qS (v:=.int 40) rfl T.Z9 ⟨_,rfl⟩)) ze))))
   (zk (Qu (i:=1) yF.nd rfl (.inl rfl) Uk)
   (zo (Zo (zS ⟨rfl,rfl⟩) rfl (Xp (lV (pv 0))) (Xo (n:=4) rfl (yx (gn 2 yF.nd) (yx (gn 3 yF.nd) (yx (gn 4 yF.nd) (yx (gn 5 yF.nd) Xn qz) qz) qz) qz))
    (zk (JN (ec (Jq T) hr T.qb zZ (za (zQ (pv 2)) (za (ev 1) ze))))
   (zk (JN (ec (qG T) hr T.yf zZ (za (zQ (pv 3)) (za (EM.weak ei) ze))))
   (zk (JN (ec (qG T) hr T.yf zZ (za (zQ (pv 4)) (za (EM.weak ei) ze))))
   (zk (Zo (zS ⟨rfl,rfl⟩) rfl (Xp (EM.en (zQ (pv 5)))) (gn 6 yF.nd)
    (zo (JN (ec (qG T) hr T.yf zZ (za (zQ (pv 6)) (za (EM.weak ei) ze))))))
   (zo (tV (ZT hr) (pv 1) (ev 2) (QW QR)))))))))))
def Av(T:Txt K mg a)(TB:m9 base mg a.g_ a.hU):jr P w K mg base (CXe P w) 6 a.uY a.uZ ["weeks","bays"] (hsp (WW K a) 2 vY):=
 bo (ms:=nM) T.XF.F dq rfl rfl rfl λcdv A outer s H E hr=>
  (zK (Uw (hp (ec (Jr T) hr T.yW zZ (za (ev 0) ze))))
   (zK (Uw (hp (ec (qG T) hr T.yf zZ (za (zQ (pv 1)) (za (EM.weak ei) ze)))))
   (zK (hse 2 dq.nd (hp (FM.em (cX (J8 T) (rm hr) rfl T.yp.g T.yp.k T.yp.b zZ (za (ev 0) ze)))))
   (zK (Uw (hp (ec (W_ T) hr T.jS zZ (za (ev 2) ze))))
   (zK (Uw (hp (ec (Xa T) hr T.jT zZ (za (ev 2) (za (ev 1) ze)))))
   (zK (mQ (i:=3) dq.nd rfl (by first|exact .inl rfl|exact .inr rfl) (Qz (nO T TB) (rm hr) rfl T.vz.g T.vz.k T.vz.b zZ (yy (yL (pv 2)) (yy (yL (pv 1)) Zq)) (qg (qg Q7))))
   (yk (wq (Hi (S:=[1,1,1,1]) (fr:=false) [true,false,false,true] (FM.em (p0 rfl rfl T.fE (za (FM.em (pR ["name","metre","due","loads","told"] [none,none,none,none,some 3] [0,0,0,0,1] rfl (by kernel_rfl) (VQ (ev 0)) (λ_=>(Xo (n:=4) rfl (yx (qW (i:=0) (show List.Nodup (["name","metre","due","loads","told"]:List Str)from by decide +kernel) rfl (.inl rfl)) (yx (qW (i:=1) (show List.Nodup (["name","metre","due","loads","told"]:List Str)from by decide +kernel) rfl (.inl rfl)) (yx (qW (i:=2) (show List.Nodup (["name","metre","due","loads","told"]:List Str)from by decide +kernel) rfl (.inl rfl)) (yx (qW (i:=3) (show List.Nodup (["name","metre","due","loads","told"]:List Str)from by decide +kernel) rfl (.inl rfl)) Xn qz) qz) qz) qz))) (λ_=>VS) (λ_=>(yR (za (zQ (pv 0)) (za (Du (ZT hr) (ev 4) (ev 0) ⟨rfl,rfl,rfl,rfl⟩) ze)))))) ze))))))))))))
def Yp(T:Txt K mg a)(TB:m9 base mg a.g_ a.hU):jr P w K mg base (CXe P w) 7 a.WB a.WE ["_law_weeks","_law_bays"] (hsp (WW K a) 2 zR):=
 bo (ms:=Kz) T.yg.F jY rfl rfl rfl λcdv A outer s H E hr=>
  (zK (hse 2 jY.nd (hp (VM Vz)))
   (zK (Dw (j:=3) ⟨rfl,rfl⟩ (FZ (mN (S:=[0,0,0,0]) (fr:=false) [false,true] (z_ BK Cy (ev 1) (VM Vz) (z8 _))) (uh (i:=2) jY.nd rfl (.inl rfl) (Hj (S:=[0,0,0,0]) (fr:=false) [true] (Jr T) (rm hr) rfl T.yW.g T.yW.k T.yW.b (za (ev 0) ze))) (uh (i:=2) jY.nd rfl (.inl rfl) (Ag (Av T TB) (rm hr) rfl T.XF.g T.XF.k T.XF.b (yy (yL (pv 0)) (yy (yL (pv 1)) Zq)) (qg (qg Q7))))) rfl T.Z_ jY.nd rfl (.inl rfl) (λe=>(yk (wq (hp (yR (za (pV (W8 T) (Fu hr (by decide)) rfl T.qu.g T.qu.k T.qu.b (za (ev 3) ze)) (za (VM Vz) ze))))))) (fa T.gS (fa T.bC (fa T.gT (fa T.rZ (fa T.gU (fa T.gW fz)))))))
   (yk (wq (t_ (yy (hp (yR (za (yt yC) ze))) (yy (yL (pv 2)) Zq)))))))
def Yq(T:Txt K mg a)(TB:m9 base mg a.g_ a.hU):jr P w K mg base (CXe P w) 8 a.WD a.WJ ["_law_weeks","_law_bays"] (hsp (WW K a) 2 yS):=
 bo (ms:=KA) T.yh.F jZ rfl rfl rfl λcdv A outer s H E hr=>
  (zK (hse 2 jZ.nd (rB (bI T) (rm hr) rfl T.jx.g T.jx.k T.jx.b zZ (yy (yL (pv 0)) Zq) (qg Q7)))
   (zK (mS (Qz (Yp T TB) (rm hr) rfl T.yg.g T.yg.k T.yg.b zZ (yy (yL (pv 0)) (yy (yL (pv 1)) Zq)) (qg (qg Q7))) (fh (n:=2) rfl (jQ (qX (i:=3) jZ.nd rfl (.inl rfl)) (jQ (qX (i:=4) jZ.nd rfl (.inl rfl)) Ux))))
   (zK (x9 rfl ⟨rfl,rfl⟩ (λE=>(pv 2)) (λE=>(qX (i:=5) jZ.nd rfl (.inl rfl)))
    (λE=>(yk (V1 (mN (S:=IJ) (fr:=false) [false,false,true,false,false,true] (QY hr.units (ix hr (ev 2) (ev 5)) (FM.em (kC ze))))
    (yk (wq (hp (xD hr.units (ev 3) (yR (za (yt yC) (za (zQ (pv 5)) ze)))))))
    vI))))
   (zK (V1 (mN (S:=IJ) (fr:=false) [false,false,false,true] (QY hr.units (ix hr (ev 3) ei) (yt yC)))
    (yk (wq (hp (ec (dz T) hr T.wQ zZ (za (EM.weak (ix hr (ev 3) ei)) (za (EM.weak (ix hr (ev 3) ei)) (za (EM.weak (ix hr (ev 3) ei)) (za (ev 2) (za (ev 1) ze)))))))))
    vI)
   (yk (wq (hp (eP (xD hr.units (ev 3) (yR (za (yt yC) ze))) (eO (ec (dA T) hr T.wR zZ (za (ev 4) (za (ev 0) (za (ev 2) (za (ev 1) ze))))))))))))))
def DL(T:Txt K mg a)(TB:m9 base mg a.g_ a.hU):jr P w K mg base (CXe P w) 9 a.Eu a.Ew ["_law_script"] (hsp (WW K a) 1 uA):=
 bo (ms:=uz) T.nF.F Zr rfl rfl rfl λcdv A outer s H E hr=>
  (zK (ug (S:=IL) (fr':=false) (j:=1) [true] ["_law_k","_law_script"] [none,some 0] [0,0] Zr.nd rfl rfl rfl (by kernel_rfl) (wH rfl T.j9 (za (ec (zE T) hr T.zr zZ (za (ev 0) (za (EM.weak ei) (za (EM.weak ei) ze)))) ze)) (λ_=>(qW (i:=0) (show List.Nodup (["_law_k","_law_script"]:List Str)from by decide +kernel) rfl (.inl rfl))) (λ_=>VS) (λ_=>(ec (gY T) hr T.YO tM (za (ev 1) (za (ev 0) ze)))))
   (zK (hse 2 Zr.nd (hp (ec (zE T) hr T.zr zZ (za (ev 0) (za (EM.weak ei) (za (EM.weak ei) ze))))))
   (zK (V1 (mN (S:=IL) (fr:=false) [true] (QY hr.units (ec (zE T) hr T.zr zZ (za (ev 0) (za (EM.weak ei) (za (EM.weak ei) ze)))) ei))
    (yk (hse 2 Zr.nd (hp (ix hr (FM.em (kC (za (lh ao aR ei) (za (zI zF zH (zI QS wB ei ei) ei) (za (zI QS wB ei ei) (za (zI Kg Kk ei (zI QS wB ei ei)) ze)))))) (ec (zE T) hr T.zr zZ (za (ev 0) (za (EM.weak ei) (za (EM.weak ei) ze))))))))
    vI)
   (zK (hse 3 Zr.nd (hp (ec (bJ T) hr T.vv zZ (za (ev 0) (za (ev 1) ze)))))
   (zK (ug (S:=IL) (fr':=false) (j:=4) [false,false,false,true] ["_law_week_here"] [none] [0] Zr.nd rfl rfl rfl (by kernel_rfl) (VQ (ev 3)) (λ_=>(qW (i:=0) (show List.Nodup (["_law_week_here"]:List Str)from by decide +kernel) rfl (.inl rfl))) (λ_=>VS) (λ_=>(yR (za (ix hr (ev 0) ei) (za (ix hr (ev 0) ei) (za (ix hr (ev 0) ei) (za (FM.em (Ut rfl rfl T.XE (za (ix hr (ev 0) ei) ze))) ze)))))))
   (zK (hse 5 Zr.nd (hp (ec (nN T) hr T.Je zZ (za (ev 3) ze))))
   (zK (mS (Qz (Yp T TB) (rm hr) rfl T.yg.g T.yg.k T.yg.b zZ (yy (yL (pv 3)) (yy (hp (VM Vz)) Zq)) (qg (qg Q7))) (fh (n:=2) rfl (jQ (qX (i:=6) Zr.nd rfl (.inl rfl)) (jQ (qX (i:=7) Zr.nd rfl (.inl rfl)) Ux))))
   (zK (V1 (mN (S:=IL) (fr:=false) [false,false,false,false,false,true,true,true] (TWM.tm (ZL (gH hr.units (ev 6) (ev 5)) (kD (z_ cA cQ (ev 7) (VM Vz) (z8 _))))))
    (yk (wq (hp (QW QR))))
    vI)
   (zK (V1 (mN (S:=IL) (fr:=false) [false,false,true,false,false,true] (TWM.tm (eN (QY hr.units (ev 5) (yR (za (yt yC) ze))) (Ud (TWM.tm (ZL (z_ cz cO (ev 2) ei (z8 _)) (kD (z_ YR YS (ev 2) (zI QS wB ei ei) (z8 _)))))))))
    (yk (hse 5 Zr.nd (t_ (yy (hp (yt yC)) (yy (yL (pv 2)) Zq)))))
    vI)
   (zK (V1 (mN (S:=IL) (fr:=false) [false,false,false,false,false,true] (gH hr.units (ev 5) (yR (za (yt yC) ze))))
    (zK (mS (Qz (Yp T TB) (rm hr) rfl T.yg.g T.yg.k T.yg.b zZ (yy (yL (pv 3)) (yy (yL (pv 2)) Zq)) (qg (qg Q7))) (fh (n:=2) rfl (jQ (qX (i:=6) Zr.nd rfl (.inl rfl)) (jQ (qX (i:=7) Zr.nd rfl (.inl rfl)) Ux))))
   (yk (V1 (mN (S:=IL) (fr:=false) [false,false,false,false,false,true,true,true] (TWM.tm (ZL (gH hr.units (ev 6) (ev 5)) (kD (z_ cA cQ (ev 7) (VM Vz) (z8 _))))))
    (yk (wq (hp (QW QR))))
    vI)))
    (yk (V1 (ua (ub (Qz (Yq T TB) (rm hr) rfl T.yh.g T.yh.k T.yh.b zZ (yy (yL (pv 3)) (yy (yL (pv 2)) Zq)) (qg (qg Q7)))))
    (yk (wq (hp (QW QR))))
    vI)))
   (zK (V1 (HTW.tm (FO (mN (S:=IL) (fr:=false) [false,false,false,true,true] (gH hr.units (ev 3) (ev 4))) (Dk (ua (ub (Qz (Yq T TB) (rm hr) rfl T.yh.g T.yh.k T.yh.b zZ (yy (yL (pv 1)) (yy (hp (ec (zE T) hr T.zr zZ (za (ev 0) (za (EM.weak ei) (za (EM.weak ei) ze))))) Zq)) (qg (qg Q7))))))))
    (yk (wq (hp (QW QR))))
    vI)
   (yk (wq (Qz (Yq T TB) (rm hr) rfl T.yh.g T.yh.k T.yh.b zZ (yy (yL (pv 1)) (yy (hp (eT rfl rfl T.gR (za ei (za (CS rfl rfl T.Ar (za (ev 2) (za (zI QS wB ei ei) ze))) ze)))) Zq)) (qg (qg Q7))))))))))))))))
def zl(ha:a ρ=.ok x)(hb:b ρ=.ok y)(h:f x y=.ok z):mOp f a b ρ=.ok z:=by unfold mOp;rw[ha,okb,hb,okb,h]
def z7(h:ms ρ=.ok xs)(h2:f xs=.ok x):zh f ms ρ=.ok x:=by unfold zh;rw[h,okb,h2]
def zJ(ha:a ρ=.ok x)(h:ms ρ=.ok xs):zb a ms ρ=.ok (x::xs):=by unfold zb;rw[ha,okb,h,okb]
def dB(h:ms ρ=.ok xs)(hl:xs.length<=sizeLine):Kl ms ρ=.ok (.l xs):=by unfold Kl;rw[h,okb,if_pos hl]
def nQ(ha:a ρ=.ok (.i x))(hn:0<n):mOp JM a (mC (.i n)) ρ=.ok (.i (x % n)):=zl ha rfl (mf hn)
def DM(ha:a ρ=.ok (.i x))(hn:0<n)(h2:n<1073741824):mOp aS a (mC (.i n)) ρ=.ok (.i (x / n)):=zl ha rfl (C1 hn h2)
def Yr(ha:a ρ=.ok (.i x)):zT (mOp (qK false) a (mC (.i n))) ρ=.ok (decide (x=n)):=by unfold zT;rw[zl (z:=.b (decide (x=n))) ha rfl (C3.trans (by rw[a0x]))];rfl
def Ys(ha:a ρ=.ok (.i x)):zT (mOp pGt a (mC (.i n))) ρ=.ok (decide (x>n)):=by unfold zT;rw[zl (z:=.b (decide (x>n))) ha rfl rfl];rfl
def bL(ha:a ρ=.ok x)(hb:b ρ=.ok y):lA a b ρ=.ok (x&&y):=by
 unfold lA;rw[ha,okb];cases x
 .rfl
 .rw[if_pos rfl,hb];rfl
def qB(h:c ρ=.ok x):sIf c a b ρ=if x=true then a ρ else b ρ:=by unfold sIf;rw[h,okb]
def bM(h:m ρ=.ok x):kA m ρ=.ok (.rt x):=by unfold kA;rw[h,okb]
def nR(ha:a ρ=.ok (.i x)):zT (mOp pLt a (mC (.i n))) ρ=.ok (decide (x<n)):=by unfold zT;rw[zl (z:=.b (decide (x<n))) ha rfl rfl];rfl
def zW(h:m ρ=.ok (.b b)):zT m ρ=.ok b:=by unfold zT;rw[h];rfl
def YW(ha:a ρ=.ok x)(hb:b ρ=.ok y):mOr a b ρ=.ok (x||y):=by
 unfold mOr;rw[ha,okb];cases x
 .rw[if_neg M6,hb];rfl
 .rfl
def DN(ha:a ρ=.ok x):gG a ρ=.ok (!x):=by unfold gG;rw[ha,okb]
def dC(ha:a ρ=.ok (.b x))(hb:b ρ=.ok (.b y)):Uc a b ρ=.ok (.b (x&&y)):=by
 unfold Uc;rw[ha,okb];show(Out.ok x).bind _=_;rw[okb];cases x
 .rfl
 .rw[if_pos rfl,hb];rfl
def sz5{z:Str}(h:z.length<=100000):z.length<=sizeLine:=O8 h (by decide)
def signs_at(h:m ρ=.ok (.s z)):Xs m ρ=.ok (z.cps.toList.map λc=>PV.s ⟨#[c]⟩):=by unfold Xs;rw[h,okb];rfl
def UY(h:ms ρ=.ok xs)(hl:xs.length<=sizeLine):wD ms ρ=.ok (.t xs):=by unfold wD;rw[h,okb,if_pos hl]
def ixS(hz:z.length<=100000)(h0:0<=r)(h1:r<z.length):∃c,pIx (.s z) (.i r)=.ok (.s ⟨#[c]⟩):=by
 unfold pIx;have hs:z.length<=sizeLine:=sz5 hz;simp only[hs,if_true];have hl:r.toNat<z.cps.toList.length:=by unfold Str.length at h1;simp;omega
 rw[a7 h0,N4 hl];exact⟨_,rfl⟩
def Aw(ha:a ρ=.ok false):lA a b ρ=.ok false:=by unfold lA;rw[ha,okb];rfl
def uB(ha:a ρ=.ok (.s x)):zT (mOp (qK n) a (mC (.s y))) ρ=.ok (xor n (decide (x=y))):=zW (zl ha rfl FC)
def zA(h:p ρ G=.nx ρ' G')(h2:q ρ' G'=o):vp p q ρ G=o:=by unfold vp;rw[h];exact h2
def dD(h:p ρ G=.rt x G'):vp p q ρ G=.rt x G':=by unfold vp;rw[h]
def Ws(h:c ρ G=.ok false G'):hIf c p q ρ G=q ρ G':=by unfold hIf;rw[h];rfl
def bN(h:c ρ G=.ok true G'):hIf c p q ρ G=p ρ G':=by unfold hIf;rw[h];rfl
def vm(h0:Vn bs ρ=some r)(h2:m r=.ok b):hPT bs m ρ G=.ok b G:=by unfold hPT;rw[h0];dsimp only;rw[h2]
def bO(h0:Vn bs ρ=some r)(h2:m r=.ok x):hP bs m ρ G=.ok (.v x) G:=by unfold hP;rw[h0];dsimp only;rw[h2]
def vZ(h:m ρ G=.ok x G'):wo i m ρ G=.nx (ρ.set i (some x)) G':=by unfold wo;rw[h];rfl
def J9(h:m ρ G=.ok x G'):V0 m ρ G=.rt x G':=by unfold V0;rw[h];rfl
def Hl(h:JU G [] ρ=some r):JU G [] (a::ρ)=some (none::r):=by show(JU G [] ρ).map _=_;rw[h];rfl
def Hm(h:JU G bs ρ=some r):JU G (false::bs) (a::ρ)=some (none::r):=by show(JU G bs ρ).map _=_;rw[h];rfl
def F0(hx:Xr G 8 x=some y)(h:JU G bs ρ=some r):JU G (true::bs) (some x::ρ)=some (some y::r):=by show(Xr G 8 x).bind _=_;rw[hx,h];rfl
def ES(h:a.length+b.length<=n)(hn:n<=100000):zG (.s a) (.s b)=.ok (.s (a++b)):=by have:a.length+b.length<=sizeLine:=O8 (O8 h hn) (by decide);unfold zG;simp only[this,if_true]
def r8(h0:0<=i)(h1:i<xs.length):pIx (.l xs) (.i i)=.ok (xs[i.toNat]'(by omega)):=by rw[C2,a7 h0,N4 (by omega)];rfl
def iN{xs:Hx}{i:Int}(h0:0<=i)(h1:i<xs.length):∃y∈xs,pIx (.l (xs.map .s)) (.i i)=.ok (.s y):=
 ⟨xs[i.toNat]'(by omega),a01 _,by rw[r8 h0 (by rw[v0];exact h1),a0q]⟩
abbrev sk(z:Str):Key:=Sum.inr z
abbrev signs:Str:="abcdefghijklmnopqrstuvwxyz0123456789"
def str_inj{a b a' b':Str}(hl:a.length=a'.length)(h:a++b=a'++b'):a=a'/\b=b':=by have h1:a.cps++b.cps=a'.cps++b'.cps:=T1 Str.cps h;have:=Array.append_inj h1 hl;obtain⟨x⟩:=a;obtain⟨y⟩:=b;obtain⟨x'⟩:=a';obtain⟨y'⟩:=b';obtain⟨h1,h2⟩:=this;exact⟨T1 Str.mk h1,T1 Str.mk h2⟩
def Sgs(z:Str):Prop:=∀c∈z.cps.toList,c∈signs.cps.toList
def Sgs.app(ha:Sgs a)(hb:Sgs b):Sgs (a++b):=λc hc=>by have e:(a++b).cps.toList=a.cps.toList++b.cps.toList:=Array.toList_append;rw[e]at hc;exact(a0b.mp hc).elim (ha c) (hb c)
def Nm(z:Str):Prop:=(1<=z.length/\z.length<=12)/\Sgs z
def nodup_range{α:Type}{f:Nat->α}(h:∀j k,j<n->k<n->f j=f k->j=k):((List.range n).map f).Nodup:=by rw[a0D,a14];refine a2o ?_ (a0D.mp List.nodup_range);intro a b ha hb hne e;exact hne (h a b (S5.mp ha) (S5.mp hb) e)
def DO(ha:a ρ=.ok (.i n)):wF a ρ=.ok (some n):=by unfold wF;rw[ha];rfl
def jo{fr:Bool}{n:Nat}{ms:MS}{xs:HW}{c:Nat}{fs:Ic}(h:ms (xs.map some++List.replicate (n-xs.length) none)=.exc c fs):Qv fr n ms xs=.exc c fs:=by unfold Qv;rw[h]
def j_(h:p ρ=.exc c fs):yY p q ρ=.exc c fs:=by unfold yY;rw[h];rfl
def Zj(h:m ρ=.exc c fs):KY m ρ=.exc c fs:=by unfold KY;rw[h];rfl
def Yt(h:ms ρ=.ok xs)(h2:f xs=.exc c fs):zh f ms ρ=.exc c fs:=by unfold zh;rw[h,okb,h2]
def J_(h:mi ρ=.ok xs)(h2:km g b xs ρ=.exc c fs):ZN mi g b ρ=.exc c fs:=by unfold ZN;rw[h,okb,h2]
def QN(h:m ρ=.ok x):KY m ρ=.ok (.nx ρ):=by unfold KY;rw[h];rfl
def r9{fr:Bool}{n:Nat}{ms:MS}{xs:HW}{ρ:Sto}(hf:fr=false)(h:ms (xs.map some++List.replicate (n-xs.length) none)=.ok (.nx ρ)):Qv fr n ms xs=.ok .n:=by subst hf;unfold Qv;rw[h];rfl
def Ax{x:PV}{n:Int}{k:Nat}(h:wg [x]=.ok (.i (k:Int)))(hk:(k:Int)<=n):qo [x,.i n]=.ok .n:=by refine r9 rfl ((qB (x:=false) (zW (zl (z7 (xs:=[x]) rfl h) rfl ?_))).trans (show _=Out.ok (Fw.nx [some x,some (.i n)])from rfl));show Out.ok (PV.b (decide ((k:Int)>n)))=_;rw[L7 (by omega)]
def KC(P:Hx):List (Key×PV):=P.map λz=>(sk z,.b true)
def r_(h:z∉P):qV (KC P) (sk z)=none:=by
 cases e:qV (KC P) (sk z)with
 |none=>rfl
 |some x=>have:=Q_ e;obtain⟨y,hy,e2⟩:=N6.mp this;cases e2;exact absurd hy h
def nS(h1:1<=m)(h2:m<=1000000000):zt [.i m,.i 1]=.ok (.i m):=by refine yV (zf ⟨_,(qB (YW (x:=false) (y:=false) (zW (zl (x:=.i m) (y:=.i 1) rfl rfl ?_)) ((Ys (x:=m) rfl).trans (by rw[L7 (by omega)])))).trans (show _=Out.ok (Fw.nx [some (.i m),some (.i 1)])from rfl),rfl⟩);show Out.ok (PV.b (decide (m<1)))=_;rw[L7 (by omega)]
def Zk(z:Str):Bool:=decide (1<=z.length/\z.length<=12)&&z.cps.toList.all λc=>decide (c∈signs.cps.toList)
def Ay(h:Zk z=true):Nm z:=by unfold Zk at h;rw[a0f]at h;refine⟨a0F h.1,λc hc=>?_⟩;exact a0F (a0j.mp h.2 c hc)
def nT{z:Str}{A:MS}{r:Out Fw}(hA:∀s,A [some (.s z),s]=r)(hr:∀K:Sto->Out Fw,(r.bind λf=>match f with | .nx ρ2=>K ρ2 | .ct ρ2=>K ρ2 | .bk ρ2=>.ok (.nx ρ2) | .rt v=>.ok (.rt v))=r):
  ∀{cs:Ht}{o:Ik},((cs.all λc=>decide (c∈signs.cps.toList))=true->∃o',km (gNm 1) (sIf (zT (mOp (pIn true) (zc 1) (mC (.s signs)))) A zY) (cs.map λc=>PV.s ⟨#[c]⟩) [some (.s z),o]=.ok (.nx [some (.s z),o']))/\((cs.all λc=>decide (c∈signs.cps.toList))=false->km (gNm 1) (sIf (zT (mOp (pIn true) (zc 1) (mC (.s signs)))) A zY) (cs.map λc=>PV.s ⟨#[c]⟩) [some (.s z),o]=r)
 |[],o=>⟨λ_=>⟨o,rfl⟩,λh=>by cases h⟩
 |c::cs,o=>by
  have eb:sIf (zT (mOp (pIn true) (zc 1) (mC (.s signs)))) A zY [some (.s z),some (.s ⟨#[c]⟩)]=if(xor true (decide (c∈signs.cps.toList)))=true then A [some (.s z),some (.s ⟨#[c]⟩)]else zY [some (.s z),some (.s ⟨#[c]⟩)]:=by refine qB (zW (zl (x:=.s ⟨#[c]⟩) (y:=.s signs) rfl rfl ?_));show Out.ok (PV.b (xor true (!(Builtin.Str.occurrences signs ⟨#[c]⟩ 0 signs.length 1).isEmpty)))=_;rw[StrLaws.found_one]
  have st:∀{q},sIf (zT (mOp (pIn true) (zc 1) (mC (.s signs)))) A zY [some (.s z),some (.s ⟨#[c]⟩)]=q->km (gNm 1) (sIf (zT (mOp (pIn true) (zc 1) (mC (.s signs)))) A zY) ((c::cs).map λc=>PV.s ⟨#[c]⟩) [some (.s z),o]=q.bind λf=>match f with | .nx ρ2=>km (gNm 1) (sIf (zT (mOp (pIn true) (zc 1) (mC (.s signs)))) A zY) (cs.map λc=>PV.s ⟨#[c]⟩) ρ2 | .ct ρ2=>km (gNm 1) (sIf (zT (mOp (pIn true) (zc 1) (mC (.s signs)))) A zY) (cs.map λc=>PV.s ⟨#[c]⟩) ρ2 | .bk ρ2=>.ok (.nx ρ2) | .rt v=>.ok (.rt v):=λ{q} h=>by rw[<- h];rfl
  rw[a1l];by_cases hc:c∈signs.cps.toList
  .rw[L8 hc]at eb ⊢;rw[st eb,a1n];exact nT hA hr (cs:=cs) (o:=some (.s ⟨#[c]⟩))
  .rw[L7 hc]at eb ⊢;rw[st eb,a2D];refine⟨λh=>(by cases h),λ_=>?_⟩;show(Out.bind (A [some (.s z),some (.s ⟨#[c]⟩)]) _)=_;rw[hA];exact hr _
def nU(hz:z.length<=1000)(h0:zc 0 ρ=.ok (.s z)):mOr (zT (mOp pLt (zh wg (zb (zc 0) zm)) (mC (.i 1)))) (zT (mOp pGt (zh wg (zb (zc 0) zm)) (mC (.i 12)))) ρ=.ok (!decide (1<=z.length/\z.length<=12)):=by
 have hl:wg [.s z]=.ok (.i z.length):=mj (sz5 (by omega));refine(YW (nR (x:=(z.length:Int)) (z7 (xs:=[.s z]) (zJ h0 rfl) hl)) (Ys (x:=(z.length:Int)) (z7 (xs:=[.s z]) (zJ h0 rfl) hl))).trans ?_;congr 1;by_cases c1:1<=z.length
 .by_cases c2:z.length<=12
  .rw[L7 (by omega),L7 (by omega),L8 ⟨c1,c2⟩];rfl
  .rw[L8 (p:=(z.length:Int)>12) (by omega),L7 (p:=1<=z.length/\z.length<=12) (by omega),a2e];rfl
 .rw[L8 (p:=(z.length:Int)<1) (by omega),L7 (p:=1<=z.length/\z.length<=12) (by omega)];rfl
def sd(hz:z.length<=1000):y6 [.s z]=if Zk z=true then .ok (.s z)else .exc 1 [("name",.s z)]:=by
 have t:=qB (ρ:=[some (.s z),none]) (a:=Zp 1 ["name"] (zb (zc 0) zm)) (b:=zY) (nU hz rfl);have lp:=nT (z:=z) (A:=Zp 1 ["name"] (zb (zc 0) zm)) (r:=.exc 1 [("name",.s z)]) (λ_=>rfl) (λ_=>rfl) (cs:=z.cps.toList) (o:=none);unfold Zk;generalize decide (1<=z.length/\z.length<=12)=d at t;cases d with
 |false=>exact jo (j_ (t.trans rfl))
 |true=>
  generalize(z.cps.toList.all λc=>decide (c∈signs.cps.toList))=d at lp;cases d with
  |true=>obtain⟨o',e⟩:=lp.1 rfl;exact yV (zf ⟨_,t,zf ⟨_,qL (signs_at rfl) e,rfl⟩⟩)
  |false=>exact jo (zf ⟨_,t,j_ (J_ (signs_at rfl) (lp.2 rfl))⟩)
def sf(h:z∈P):(qV (KC P) (sk z)).isSome=true:=by
 induction P with
 |nil=>cases h
 |cons y P ih=>
  unfold KC;rw[O7,qY];by_cases c:sk y=sk z
  .rw[if_pos c];rfl
  .rw[if_neg c];exact ih ((O0.mp h).resolve_left λe=>c (by rw[e]))
def Az(hz:z.length<=1000):yd [.s z,.d (KC P)]=if Zk z=false then .exc 1 [("name",.s z)]else if z∈P then .exc 4 [("name",.s z)]else .ok (.s z):=by
 have e1:=sd hz;have t:∀{b:Bool},(qV (KC P) (sk z)).isSome=b->sIf (zT (mOp (pIn false) (zc 0) (zc 1))) (Zp 4 ["name"] (zb (zc 0) zm)) zY [some (.s z),some (.d (KC P))]=if b=true then .exc 4 [("name",.s z)]else .ok (.nx [some (.s z),some (.d (KC P))]):=λ{b} hb=>by refine(qB (x:=b) (zW (zl (x:=.s z) (y:=.d (KC P)) rfl rfl ?_))).trans (by cases b<;>rfl);show Out.ok (PV.b (xor false (qV (KC P) (sk z)).isSome))=_;rw[hb];cases b<;>rfl
 cases hg:Zk z with
 |false=>rw[hg]at e1;rw[if_pos rfl];exact jo (j_ (Zj (Yt (xs:=[.s z]) rfl e1)))
 |true=>
  rw[hg]at e1;rw[if_neg Bool.noConfusion];by_cases c:z∈P
  .rw[if_pos c];exact jo (zf ⟨_,QN (z7 (xs:=[.s z]) rfl e1),j_ ((t (sf c)).trans rfl)⟩)
  .rw[if_neg c];exact yV (zf ⟨_,QN (z7 (xs:=[.s z]) rfl e1),zf ⟨_,(t (b:=false) (by rw[r_ c];rfl)).trans rfl,rfl⟩⟩)
def gZ(h:m<1\/m>1000000000):zt [.i m,.i 1]=.exc 2 [("value",.i m)]:=by refine jo (j_ ((qB (x:=true) ((YW (zW (zl (x:=.i m) (y:=.i 1) rfl rfl (show _=Out.ok (PV.b (decide (m<1)))from rfl))) (Ys (x:=m) rfl)).trans ?_)).trans rfl));rw[<- a1M,L8 h]
def AA{x:PV}{n:Int}{k:Nat}(h:wg [x]=.ok (.i (k:Int)))(hk:(k:Int)>n):qo [x,.i n]=.exc 3 [("most",.i n)]:=by refine jo ((qB (x:=true) (zW (zl (z7 (xs:=[x]) rfl h) rfl ?_))).trans rfl);show Out.ok (PV.b (decide ((k:Int)>n)))=_;rw[L8 hk]
def g5(h1:0<=m)(h2:m<=1000000000):zt [.i m,.i 0]=.ok (.i m):=by refine yV (zf ⟨_,(qB (YW (x:=false) (y:=false) (zW (zl (x:=.i m) (y:=.i 0) rfl rfl ?_)) ((Ys (x:=m) rfl).trans (by rw[L7 (by omega)])))).trans (show _=Out.ok (Fw.nx [some (.i m),some (.i 0)])from rfl),rfl⟩);show Out.ok (PV.b (decide (m<0)))=_;rw[L7 (by omega)]
def Hn(h:c ρ=.ok true):sIf c a b ρ=a ρ:=(qB h).trans (if_pos rfl)
def oob(m:Int):Prop:=m<0\/1000000000<m
def Wt(h:oob m):zt [.i m,.i 0]=.exc 2 [("value",.i m)]:=by refine jo (j_ ((Hn ((YW (zW (zl (x:=.i m) (y:=.i 0) rfl rfl rfl)) (Ys (x:=m) rfl)).trans ?_)).trans rfl));congr 1;rw[<- a1M];exact L8 h
def Wu(h:¬oob m):zt [.i m,.i 0]=.ok (.i m):=g5 (by unfold oob at h;omega) (by unfold oob at h;omega)
def dE(h0:0<=k)(h1:k<=1000)(hm:0<m):∃x:Int,0<=x/\x<m/\zi [.sc ns,.i k,.i m]=.ok (.i x):=by
 obtain⟨c,c0,c1,q⟩:∃c:Int,0<=c/\c<1000000007/\sIf (zT (mOp pGt (zh wg (zb (zc 0) zm)) (mC (.i 0)))) (js 3 (mOp JM (mOp pIx (zc 0) (mOp JM (zc 1) (zh wg (zb (zc 0) zm)))) (mC (.i 1000000007)))) zY [some (.sc ns),some (.i k),some (.i m),some (.i 5)]=.ok (.nx [some (.sc ns),some (.i k),some (.i m),some (.i c)]):=by
  have l:zh wg (zb (zc 0) zm) [some (.sc ns),some (.i k),some (.i m),some (.i 5)]=.ok (.i (ns.length:Int)):=z7 (xs:=[.sc ns]) rfl rfl;have t:=λP Q=>qB (a:=P) (b:=Q) (Ys (n:=0) l);by_cases c:(ns.length:Int)>0
  .rw[L8 c]at t;have b0:=a2y k (show(ns.length:Int)≠0 by omega);have b1:=a1U k c;have e:pIx (.sc ns) (.i (k % (ns.length:Int)))=.ok (.i (ns[(k % (ns.length:Int)).toNat]'(by omega))):=by show ZM ((atI ns _).map PV.i)=_;rw[a7 b0,N4 (by omega)];rfl
   exact⟨_,a2y _ (by decide),a1U _ (by decide),(t _ _).trans (yZ (nQ (zl rfl (zl rfl l (mf c)) e) (by decide)))⟩
  .rw[L7 c]at t;exact⟨5,by decide,by decide,t _ _⟩
 have kk:0<=k*k/\k*k<=1000000:=⟨Int.mul_nonneg h0 h0,Int.le_trans (Int.mul_le_mul h1 h1 h0 (by decide)) (by decide)⟩;exact⟨_,a2y _ (by omega),a1U _ hm,yV (zf ⟨_,rfl,zf ⟨_,q,bM (zl (DM (nQ (zl (zl (zl rfl (zl rfl rfl (a5 (by decide) (by decide))) rfl) rfl rfl) (zl rfl (zl rfl rfl (a5 (by omega) (by omega))) rfl) (a5 (by omega) (by omega))) (by decide)) (by decide) (by decide)) rfl (mf hm))⟩⟩)⟩
abbrev dF:Str:="abcdefghijklmnopqrstuvwyz0123456789"
def s2(r:Int):Str:=⟨#[(dF.cps.toList[r.toNat]?).getD 0]⟩
def bP:dF.length=35:=by decide +kernel
def DP:∀a:Fin 35,∀b:Fin 35,s2 (a.val:Int)=s2 (b.val:Int)->a=b:=by decide +kernel
def F1:∀a:Fin 35,(dF.cps.toList[a.val]?).getD 0∈signs.cps.toList:=by decide +kernel
def F2(h0:0<=r)(h1:r<35):pIx (.s dF) (.i r)=.ok (.s (s2 r)):=by
 unfold pIx;have hs:dF.length<=sizeLine:=by rw[bP];decide
 simp only[hs,if_true];have hl:r.toNat<dF.cps.toList.length:=by have:=bP;unfold Str.length at this;simp;omega
 rw[a7 h0];unfold s2;rw[N4 hl];rfl
def ET:∀a:Fin 13,(Txt.mul "x" (a.val:Int)).length=a.val/\∀c∈(Txt.mul "x" (a.val:Int)).cps.toList,c∈signs.cps.toList:=by decide +kernel
def nmX(a b:Nat)(n:Nat):Str:=Txt.mul "x" (a:Int)++s2 (n:Int)++Txt.mul "x" ((b:Int)+(n:Int) % 2)
def str_len{a b:Str}:(a++b).length=a.length+b.length:=Array.size_append
def uC(h:a+b<=10)(hn:n<35):Nm (nmX a b n):=by
 obtain⟨l1,g1⟩:=ET ⟨a,by omega⟩;have e:(b:Int)+(n:Int) % 2=((b+n % 2:Nat):Int):=by omega
 obtain⟨l2,g2⟩:=ET ⟨b+n % 2,by omega⟩;unfold nmX;rw[e];refine⟨?_,((show Sgs _ from g1).app λc hc=>?_).app g2⟩
 .rw[str_len,str_len];have:(s2 (n:Int)).length=1:=rfl;dsimp only at l1 l2;omega
 .have:c∈[(dF.cps.toList[((n:Int)).toNat]?).getD 0]:=hc;rw[T0.mp this];exact F1 ⟨n,hn⟩
def AB(hm:m<35)(hn:n<35)(h:nmX a b m=nmX a b n):m=n:=by unfold nmX at h;have h1:=(str_inj (a:=Txt.mul "x" (a:Int)++s2 (m:Int)) (a':=Txt.mul "x" (a:Int)++s2 (n:Int)) (by rw[str_len,str_len];rfl) h).1;have h2:=(str_inj rfl h1).2;exact T1 Fin.val (DP ⟨m,hm⟩ ⟨n,hn⟩ h2)
def DQ(hn:n<=35):((List.range n).map (nmX a b)).Nodup:=nodup_range λj k hj hk e=>AB (by omega) (by omega) e
def sg(h0:0<=k)(h1:k<=900):∃a b:Nat,a+b<=10/\∀n:Nat,n<35->jM [.sc ns,.i k,.i (n:Int)]=.ok (.s (nmX a b n)):=by
 obtain⟨a,a0,a1,ea⟩:=dE (ns:=ns) (k:=k) (m:=11) h0 (by omega) (by decide);obtain⟨b,b0,b1,eb⟩:=dE (ns:=ns) (k:=k+1) (m:=11-a) (by omega) (by omega) (by omega);obtain⟨a,rfl⟩:=a1f a0;obtain⟨b,rfl⟩:=a1f b0;refine⟨a,b,by omega,λn hn=>?_⟩;have ml:∀{i:Int},0<=i->i<=100->qe (.s "x") (.i i)=.ok (.s (Txt.mul "x" i)):=λh h'=>if_pos ⟨by decide,by omega,by omega⟩;obtain⟨l1,_⟩:=ET ⟨a,by omega⟩;have e:(b:Int)+(n:Int) % 2=((b+n % 2:Nat):Int):=by omega
 obtain⟨l2,_⟩:=ET ⟨b+n % 2,by omega⟩;rw[<- e]at l2;dsimp only at l1 l2;have l3:(s2 (n:Int)).length=1:=rfl;exact yV (zf ⟨_,yZ (z7 (xs:=[.sc ns,.i k,.i 11]) rfl ea),zf ⟨_,yZ (zl (z7 (xs:=[.sc ns,.i (k+1),.i (11-(a:Int))]) rfl eb) (nQ rfl (by decide)) rfl),bM (zl (zl (zl rfl rfl (ml (by omega) (by omega))) (zl rfl rfl (F2 (by omega) (by omega))) (ES (n:=100) (by omega) (by decide))) (zl rfl rfl (ml (by omega) (by omega))) (ES (n:=100) (by rw[str_len];omega) (by decide)))⟩⟩)
section
variable {α:Type}{N:List α}{rel dl:α->Nat}{P:Nat->List α}{b:Nat}
def fl(P:Nat->List α)(t:Nat):Nat->List α
 |0=>[]
 |k+1=>fl P t k++P (t+k)
def fI{t:Nat}{x:α}:∀{k:Nat},x∈fl P t k->∃n,t<=n/\n<t+k/\x∈P n
 |0,h=>by cases h
 |k+1,h=>by
  rcases a0b.mp h with h|h
  .obtain⟨n,h1,h2,h3⟩:=fI h;exact⟨n,h1,by omega,h3⟩
  .exact⟨t+k,by omega,by omega,h⟩
structure Edf(N:List α)(rel dl:α->Nat)(P:Nat->List α)(b:Nat):Prop where
 win:∀x∈N,rel x<=dl x/\dl x<=6
 one:∀n,n<=6->∀x∈P n,x∈N/\(∀m,m<n->x∉P m)/\rel x<=n/\n<=dl x
 nd:∀n,n<=6->(P n).Nodup
 two:∀n,n<=6->∀x∈N,(∀m,m<=n->x∉P m)->rel x<=n->n<=dl x->(P n).length=b/\∀y∈P n,dl y<=dl x
def Edf.DR(e:Edf N rel dl P b){t:Nat}:∀{k:Nat},t+k<=7->(∀n,t<=n->n<t+k->(P n).length=b)->(fl P t k).Nodup/\(fl P t k).length=b*k
 |0,_,_=>⟨a1N,rfl⟩
 |k+1,hk,h=>by
  obtain⟨h1,h2⟩:=e.DR (k:=k) (by omega) λn a c=>h n a (by omega);refine⟨a0u.mpr ⟨h1,e.nd (t+k) (by omega),λx hx y hy q=>?_⟩,?_⟩
  .subst q;obtain⟨n,_,a2,a3⟩:=fI hx;exact(e.one (t+k) (by omega) x hy).2.1 n a2 a3
  .show(fl P t k++P (t+k)).length=_;rw[O1,h2,h (t+k) (by omega) (by omega),Nat.mul_succ]
def Edf.all(e:Edf N rel dl P b)(cr:∀f l,f<=l->l<=6->∀S:List α,S.Nodup->(∀x∈S,x∈N/\f<=rel x/\dl x<=l)->S.length<=b*(l-f+1)):∀x∈N,∃n,n<=6/\x∈P n:=by
 intro j hj;refine a08 λhno=>?_;have nj:∀n,n<=6->j∉P n:=λn hn h=>hno ⟨n,hn,h⟩;obtain⟨jw,j6⟩:=e.win j hj;have cont:∀t,t<=dl j->(∀n,t<=n->n<=dl j->(P n).length=b/\∀y∈P n,dl y<=dl j)->(t<=rel j)->(∀n,t<=n->n<=dl j->∀x∈P n,t<=rel x)->False:=λt ht full hr hx=>by
  obtain⟨h1,h2⟩:=e.DR (t:=t) (k:=dl j+1-t) (by omega) λn a c=>(full n a (by omega)).1;have:=cr t (dl j) ht j6 (j::fl P t (dl j+1-t)) (a0d.mpr ⟨λq=>by obtain⟨n,_,a2,a3⟩:=fI q;exact nj n (by omega) a3,h1⟩) λx hx'=>by
   rcases O0.mp hx' with q|q
   .rw[q];exact⟨hj,hr,M7 _⟩
   .obtain⟨n,a1,a2,a3⟩:=fI q;exact⟨(e.one n (by omega) x a3).1,hx n a1 (by omega) x a3,(full n a1 (by omega)).2 x a3⟩
  rw[v4,h2,show dl j-t+1=dl j+1-t by omega]at this;omega
 have key:∀t,t<=dl j->(∀n,t<=n->n<=dl j->(P n).length=b/\∀y∈P n,dl y<=dl j)->False:=λt=>by
  induction t with
  |zero=>exact λht full=>cont 0 ht full (T5 _) λ_ _ _ _ _=>T5 _
  |succ t ih=>
   intro ht full;have more:∀x∈N,(∀m,m<=t->x∉P m)->rel x<=t->t<=dl x->dl x<=dl j->False:=λx hx h1 h2 h3 h4=>ih (by omega) λn a1 a2=>by
    by_cases c:n=t
    .obtain⟨q1,q2⟩:=e.two t (by omega) x hx h1 h2 h3;rw[c];exact⟨q1,λy hy=>O8 (q2 y hy) h4⟩
    .exact full n (by omega) a2
   refine cont (t+1) ht full (a08 λc=>more j hj (λm hm=>nj m (by omega)) (by omega) (by omega) (M7 _)) λn a1 a2 x hx=>a08 λc=>?_;obtain⟨o1,o2,o3,o4⟩:=e.one n (by omega) x hx;exact more x o1 (λm hm=>o2 m (by omega)) (by omega) (by omega) ((full n a1 a2).2 x hx)
 exact key (dl j) (M7 _) λn a1 a2=>by
  have:n=dl j:=by omega
  subst this;exact e.two _ j6 j hj (λm hm=>nj m (by omega)) jw (M7 _)
end
structure Wk where
 nm:Str
 m:Int
 d:Int
 ls:List Int
abbrev lsP(ls:HY):PV:=.l (ls.map .i)
abbrev wkP(w:Wk):PV:=.t [.s w.nm,.i w.m,.i w.d,lsP w.ls]
section
variable {m d:Int}{ls:HY}
def AD{xs:HY}{n:Nat}:cf (xs.map PV.i) none (some (n:Int))=(xs.take n).map PV.i:=by
 unfold cf;rw[la (by omega),HT.X6,List.drop_zero,Nat.sub_zero,W1,a1X];by_cases h:n<=(xs.map PV.i).length
 .rw[a1G h]
 .rw[a2p (by omega),a1s,a0S (by omega)]
def nV{xs:HY}{n:Nat}:cf (xs.map PV.i) (some (n:Int)) none=(xs.drop n).map PV.i:=by
 unfold cf;rw[la (by omega),HT.X6,W1,List.map_drop];by_cases h:n<=(xs.map PV.i).length
 .rw[a1G h,a0S (by rw[a2c];omega)]
 .rw[a2p (by omega),a1q,List.drop_of_length_le (by omega),List.take_nil]
def nW(m d:Int)(ls:HY)(k:Nat):Bool:=decide (m+(ls.take (k+1)).sum<=d)&&decide ((ls.drop (k+1)).sum<=d)
def nt(m d:Int)(ls:HY):List Nat:=(List.range 7).filter (nW m d ls)
abbrev nI(k:Nat):PV:=.i (k:Int)
def UZ(ha:a ρ=.ok (.i m))(hb:b ρ=.ok (lsP ls))(hc:c ρ=.ok (nI k)):mOp zG a (zh WS (zb (mSl pSl b cY (wF (mOp zG c (mC (.i 1))))) zm)) ρ=.ok (.i (m+(ls.take (k+1)).sum)):=by refine zl ha (z7 (xs:=[lsP (ls.take (k+1))]) (zJ ?_ rfl) a_) rfl;unfold mSl;rw[hb,okb];show(wF (mOp zG c (mC (.i 1))) ρ).bind _=_;rw[DO (n:=((k+1:Nat):Int)) (zl hc rfl rfl),okb];show Out.ok (PV.l (cf _ _ _))=_;rw[AD]
def Wv(hb:b ρ=.ok (lsP ls))(hc:c ρ=.ok (nI k)):zh WS (zb (mSl pSl b (wF (mOp zG c (mC (.i 1)))) cY) zm) ρ=.ok (.i ((ls.drop (k+1)).sum)):=by refine z7 (xs:=[lsP (ls.drop (k+1))]) (zJ ?_ rfl) a_;unfold mSl;rw[hb,okb,DO (n:=((k+1:Nat):Int)) (zl hc rfl rfl),okb];show Out.ok (PV.l (cf _ _ _))=_;rw[nV]
def DS:yc [.i m,.i d,lsP ls,nI k]=.ok (.b (nW m d ls k)):=
 yV (zf ⟨_,yZ (UZ (m:=m) (ls:=ls) (k:=k) rfl rfl rfl),zf ⟨_,yZ (Wv (ls:=ls) (k:=k) rfl rfl),bM (dC (zl rfl rfl rfl) (zl rfl rfl rfl))⟩⟩)
def DT(h:ms ρ=.ok [.i 7]):wj ms ρ=.ok ((List.range 7).map nI):=by rw[Qx h (by decide) (by decide)];exact T1 Out.ok YJ
def nX:Zb [.i m,.i d,lsP ls]=.ok (.l ((nt m d ls).map nI)):=by
 refine yV (bM (WU (DT rfl) ?_));have:=JR (g:=Wl) (c:=Wm) (e:=Wn) nI (nW m d ls) nI (λρ=>∃z,ρ=[z,some (.i m),some (.i d),some (lsP ls)]) (List.range 7) [none,some (.i m),some (.i d),some (lsP ls)] [] ⟨none,rfl⟩ (λk hk ρ ⟨z,ez⟩=>by
  subst ez;exact⟨_,rfl,⟨_,rfl⟩,zW (z7 (xs:=[.i m,.i d,lsP ls,nI k]) rfl DS),λ_=>rfl⟩) (by decide)
 exact this
def AE(m d:Int)(ls:HY):Bool:=decide (m+ls.sum>d)
def si:qO [.i m,.i d,lsP ls]=.ok (.b (AE m d ls)):=
 yV (bM (zl (zl rfl (z7 (xs:=[lsP ls]) rfl a_) rfl) rfl rfl))
def Js:ls.sum=(ls.take k).sum+(ls.drop k).sum:=by rw[<- List.sum_append,a0B]
def DV(h:∀x∈ls,0<=x):0<=ls.sum:=by
 induction ls with
 |nil=>exact a1Q _
 |cons a l ih=>rw[List.sum_cons];have:=h a M3;have:=ih λx hx=>h x (L9 _ hx);omega
def bQ(h:∀x∈ls,0<=x)(hij:i<=j):(ls.take i).sum<=(ls.take j).sum:=by
 have e:ls.take i=(ls.take j).take i:=by rw[List.take_take,a1G hij]
 have:=Js (ls:=ls.take j) (k:=i);have:=DV (ls:=(ls.take j).drop i) λx hx=>h x (a1H (a2P hx));rw[e];omega
def nY(h:∀x∈ls,0<=x)(hij:i<=j):(ls.drop j).sum<=(ls.drop i).sum:=by have:=bQ h hij;have:=Js (ls:=ls) (k:=i);have:=Js (ls:=ls) (k:=j);omega
def AF(h:∀x∈ls,0<=x)(hij:i<=j)(hjk:j<=k)(h1:nW m d ls i=true)(h2:nW m d ls k=true):nW m d ls j=true:=by unfold nW at h1 h2 ⊢;rw[a0f,a0v,a0v]at h1 h2 ⊢;have:=bQ h (show j+1<=k+1 by omega);have:=nY h (show i+1<=j+1 by omega);omega
def fst(l:Ht):Nat:=l.headD 0
def lst(l:Ht):Nat:=l.getLastD 0
def bR:(nt m d ls).Pairwise (·<·):=List.Pairwise.sublist a2U (by decide)
def fJ:k∈nt m d ls↔k<7/\nW m d ls k=true:=by unfold nt;rw[a0n,S5]
def DW:∀{l:Ht},l.Pairwise (·<·)->∀x∈l,fst l<=x
 |[],_,x,h=>by cases h
 |a::l,p,x,h=>by
  rcases O0.mp h with e|h
  .rw[e];exact M7 _
  .exact a0z ((a1c.mp p).1 x h)
def DX:∀{l:Ht},l≠[]->fst l∈l
 |[],h=>absurd rfl h
 |a::l,_=>M3
def fK:∀{l:Ht},l≠[]->lst l∈l
 |[],h=>absurd rfl h
 |a::l,_=>by show(a::l).getLastD 0∈a::l;rw[a2a,a0T (a1t _ _)];exact List.getLast_mem _
def uD:∀{l:Ht},l.Pairwise (·<·)->∀x∈l,x<=lst l
 |[],_,x,h=>by cases h
 |[a],_,x,h=>by rw[T0.mp h];exact M7 _
 |a::b::l,p,x,h=>by
  have q:=(a1c.mp p);have e:lst (a::b::l)=lst (b::l):=rfl;rw[e];rcases O0.mp h with e|h
  .rw[e];exact a0z (q.1 _ (fK (a1t _ _)))
  .exact uD q.2 x h
def DY(h:∀x∈ls,0<=x)(hn:nt m d ls≠[]):k∈nt m d ls↔fst (nt m d ls)<=k/\k<=lst (nt m d ls):=by
 constructor
 .exact λq=>⟨DW bR k q,uD bR k q⟩
 .intro⟨a,b⟩;have h1:=fJ.mp (DX hn);have h2:=fJ.mp (fK hn);exact fJ.mpr ⟨by omega,AF h a b h1.2 h2.2⟩
end
def F3(k:Key):pk (kP k)=some k:=by cases k<;>rfl
def AG:pIn true (kP r) (.d kvs)=.ok (.b (!(qV kvs r).isSome)):=by cases r<;>exact T1 (λb=>Out.ok (PV.b b)) (a1m _)
def DZ:pIx (.d kvs) (kP r)=ZM (qV kvs r):=by cases r<;>rfl
def Jt{α:Type}{a:List (Key×α)}{v:α}(h:k∉a.map (·.1)):dput a k v=a++[(k,v)]:=by unfold dput;rw[UK,if_neg (λz=>h (rY.mp z))]
def uE(hi:ρ[i]?=some (some (.d kvs)))(hk:mk ρ=.ok (kP k))(hv:mv ρ=.ok v)(hl:kvs.length<=1000):xK i mk mv ρ=.ok (.nx (ρ.set i (some (.d (dput kvs k v))))):=by unfold xK;rw[hv,okb,hi];dsimp only;rw[hk,okb,F3];dsimp only;rw[if_pos (a0i hl (by decide))]
def yQ(hg:g x ρ=some ρ1)(hb:b ρ1=.ok (.nx ρ2)):km g b (x::xs) ρ=km g b xs ρ2:=by show((ZM (g x ρ)).bind λρ1=>(b ρ1).bind _)=_;rw[hg];show(b ρ1).bind _=_;rw[hb];rfl
def D0{z:Str}:∀{N:Hx},inP (.str z) (N.map .s)=some (decide (z∈N))
 |[]=>by rw[L7 (by simp)];rfl
 |y::N=>by
  show(match some (V.str y),inP (.str z) (N.map .s)with|some u,some b=>some (eqV u (.str z)||b)|_,_=>none)=_;rw[D0 (N:=N)];show some ((y==z)||decide (z∈N))=_;congr 1;by_cases c:y=z
  .subst c;rw[a0Z,L8 M3];rfl
  .rw[a0h.mpr c,a2Q];by_cases h:z∈N
   .rw[L8 h,L8 (L9 _ h)]
   .rw[L7 h,L7 λq=>(O0.mp q).elim (λe=>c e.symm) h]
def D4{z:Str}{N:Hx}{n:Bool}:pIn n (.s z) (.l (N.map .s))=.ok (.b (xor n (decide (z∈N)))):=by show ZM ((inP (.str z) (N.map .s)).map λb=>PV.b (xor n b))=_;rw[D0];rfl
abbrev Ch:=List (Str×List Nat)
abbrev ntP(l:Ht):PV:=.l (l.map nI)
def chP(C:Ch):List (Key×PV):=C.map λp=>(sk p.1,ntP p.2)
def need(w:Wk):Bool:=AE w.m w.d w.ls
abbrev ntW(w:Wk):List Nat:=nt w.m w.d w.ls
def chL(ws:List Wk):Ch:=(ws.filter need).map λw=>(w.nm,ntW w)
abbrev wsP(ws:List Wk):PV:=.l (ws.map wkP)
section
variable {C:Ch}{ws:List Wk}{z:Str}{l:Ht}
def fL:(chP C).map (·.1)=C.map λp=>sk p.1:=by unfold chP;rw[P8];rfl
def sj:∀{N:Hx},N.Nodup->(N.map sk).Nodup
 |[],_=>a1N
 |z::N,h=>by obtain⟨h1,h2⟩:=a0d.mp h;refine a0d.mpr ⟨λq=>?_,sj h2⟩;obtain⟨y,hy,e⟩:=N6.mp q;cases e;exact h1 hy
def nZ(nd:(C.map (·.1)).Nodup)(h:(z,l)∈C):qV (chP C) (sk z)=some (ntP l):=by refine ju ?_ (N6.mpr ⟨(z,l),h,rfl⟩);rw[fL];have:=sj nd;rw[P8]at this;exact this
def AI(h:z∉C.map (·.1)):qV (chP C) (sk z)=none:=by
 cases e:qV (chP C) (sk z)with
 |none=>rfl
 |some v=>have:=Q_ e;unfold chP at this;obtain⟨p,hp,ep⟩:=N6.mp this;cases ep;exact absurd (N6.mpr ⟨p,hp,rfl⟩) h
def bS(nd:(C.map (·.1)).Nodup)(h:(z,l)∈C):pIx (.d (chP C)) (.s z)=.ok (ntP l):=by have:=DZ (r:=sk z) (kvs:=chP C);rw[nZ nd h]at this;exact this
def n4:chL (ws++us)=chL ws++chL us:=by unfold chL;rw[a25,R4]
def bT:(chL ws).map (·.1)=(ws.filter need).map (·.nm):=by unfold chL;rw[P8];rfl
def n5(nd:(ws.map (·.nm)).Nodup):((chL ws).map (·.1)).Nodup:=by rw[bT];exact nd.sublist (List.filter_sublist.map _)
def n6(h:z∈(chL ws).map (·.1)):z∈ws.map (·.nm):=by rw[bT]at h;obtain⟨w,hw,e⟩:=N6.mp h;exact N6.mpr ⟨w,(a0n.mp hw).1,e⟩
def uF(h:l≠[]):pIx (ntP l) (.i 0)=.ok (nI (fst l)):=by
 cases l with
 |nil=>exact absurd rfl h
 |cons a l=>show ZM (atI (nI a::l.map nI) 0)=_;rw[FA];rfl
def n8(h:l≠[]):pIx (ntP l) (.i (-1))=.ok (nI (lst l)):=by show ZM (atI (l.map nI) (-1))=_;rw[pS,List.getLast?_map,a0T h];show Out.ok (nI (l.getLast h))=_;unfold lst;rw[a2a,a0T h];rfl
def so(nd:(ws.map (·.nm)).Nodup)(hl:ws.length<=1000):z6 [wsP ws]=.ok (.d (chP (chL ws))):=by
 have loop:∀(us done:List Wk)(a b c e:Ik),done++us=ws->∃a' b' c' e',km vj vk (us.map wkP) [some (wsP ws),some (.d (chP (chL done))),a,b,c,e]=.ok (.nx [some (wsP ws),some (.d (chP (chL ws))),a',b',c',e']):=by
  intro us
  induction us with
  |nil=>intro done a b c e h;rw[P7]at h;subst h;exact⟨a,b,c,e,rfl⟩
  |cons w us ih=>
   intro done a b c e h;obtain⟨a',b',c',e',q⟩:=ih (done++[w]) (some (.s w.nm)) (some (.i w.m)) (some (.i w.d)) (some (lsP w.ls)) (by rw[T7];exact h);refine⟨a',b',c',e',(yQ rfl ?_).trans q⟩;rw[n4];have t:=qB (a:=xK 1 (zc 2) (zh Zb (zb (zc 3) (zb (zc 4) (zb (zc 5) zm))))) (b:=zY) (zW (z7 (ρ:=[some (wsP ws),some (.d (chP (chL done))),some (.s w.nm),some (.i w.m),some (.i w.d),some (lsP w.ls)]) (ms:=zb (zc 3) (zb (zc 4) (zb (zc 5) zm))) (xs:=[.i w.m,.i w.d,lsP w.ls]) rfl si));refine t.trans ?_;have hn:w.nm∉done.map (·.nm):=λhq=>by rw[<- h,R4]at nd;exact(a0u.mp nd).2.2 _ hq w.nm M3 rfl
   have ld:(chL done).length<=1000:=by
    have:(chL done).length<=done.length:=by unfold chL;rw[v0];exact a0C _ _
    have:=T1 List.length h;rw[O1]at this;omega
   cases hw:AE w.m w.d w.ls with
   |false=>
    have:chL [w]=[]:=by unfold chL;rw[a0y,if_neg (by unfold need;rw[hw];exact M6)];rfl
    rw[this,P7];rfl
   |true=>
    have:chL [w]=[(w.nm,ntW w)]:=by unfold chL;rw[a0y,if_pos (by unfold need;exact hw)];rfl
    rw[this,if_pos rfl];refine(uE (i:=1) (k:=sk w.nm) (kvs:=chP (chL done)) (v:=ntP (ntW w)) rfl rfl (z7 (xs:=[.i w.m,.i w.d,lsP w.ls]) rfl nX) (by unfold chP;rw[v0];exact ld)).trans ?_;rw[Jt (by rw[fL];intro hq;obtain⟨p,hp,e⟩:=N6.mp hq;exact hn (n6 (N6.mpr ⟨p,hp,a1i e⟩)))];show Out.ok (Fw.nx [_,some (PV.d (chP (chL done)++[(sk w.nm,ntP (ntW w))])),_,_,_,_])=_;unfold chP;rw[R4];rfl
 obtain⟨a,b,c,e,q⟩:=loop ws [] none none none none rfl;exact yV (zf ⟨_,rfl,zf ⟨_,qL (qa rfl) q,rfl⟩⟩)
def noN:Ch->Option Str
 |[]=>none
 |p::D=>if p.2.isEmpty=true then some p.1 else noN D
def U0{rest:Sto}:qf 0 (some (.d (chP C))::rest)=.ok (C.map λp=>.s p.1):=by show Out.ok ((chP C).map λkx=>kP kx.1)=_;unfold chP;rw[P8];rfl
def bU(nd:(C.map (·.1)).Nodup):yH [.d (chP C)]=match noN C with|some z=>.exc 5 [("name",.s z)]|none=>.ok .n:=by
 have step:∀(z:Str)(l:Ht),(z,l)∈C->yA [some (.d (chP C)),some (.s z)]=if l.isEmpty=true then .exc 5 [("name",.s z)]else .ok (.nx [some (.d (chP C)),some (.s z)]):=λz l h=>by
  refine(qB (Yr (x:=(l.length:Int)) (z7 (xs:=[ntP l]) (zJ (zl rfl rfl (bS nd h)) rfl) (by show Out.ok (PV.i ((l.map nI).length:Int))=_;rw[v0])))).trans ?_;cases l with
  |nil=>rfl
  |cons a l=>rw[L7 (by simp;omega)];rfl
 have loop:∀(D:Ch)(a:Ik),(∀p∈D,p∈C)->(noN D=none->∃a',km qC yA (D.map λp=>.s p.1) [some (.d (chP C)),a]=.ok (.nx [some (.d (chP C)),a']))/\∀z,noN D=some z->km qC yA (D.map λp=>.s p.1) [some (.d (chP C)),a]=.exc 5 [("name",.s z)]:=by
  intro D
  induction D with
  |nil=>exact λa _=>⟨λ_=>⟨a,rfl⟩,nofun⟩
  |cons p D ih=>
   intro a hD;obtain⟨h1,h2⟩:=ih (some (.s p.1)) λq hq=>hD q (L9 _ hq);have st:=step p.1 p.2 (hD p M3);cases e:p.2.isEmpty with
   |true=>rw[e,if_pos rfl]at st;have en:noN (p::D)=some p.1:=if_pos e;rw[en];refine⟨nofun,λz h=>?_⟩;cases h;show(yA [some (.d (chP C)),some (.s p.1)]).bind _=_;rw[st];rfl
   |false=>rw[e,if_neg M6]at st;have en:noN (p::D)=noN D:=if_neg (by rw[e];exact M6);rw[en];have fs:km qC yA ((p::D).map λp=>.s p.1) [some (.d (chP C)),a]=_:=yQ rfl st;rw[fs];exact⟨h1,h2⟩
 obtain⟨h1,h2⟩:=loop C none λp h=>h;cases e:noN C with
 |none=>obtain⟨a,q⟩:=h1 e;exact r9 rfl (qL U0 q)
 |some z=>exact jo (J_ U0 (h2 z e))
end
section
variable {C:Ch}{b:Nat}
def cw(C:Ch)(f l:Nat):List Str:=(C.filter λp=>decide (f<=fst p.2)&&decide (lst p.2<=l)).map (·.1)
def AJ(nd:(C.map (·.1)).Nodup)(ne:∀p∈C,p.2≠[])(hl:C.length<=1000):qv [.d (chP C),nI f,nI l]=.ok (.l ((cw C f l).map .s)):=by
 refine yV (bM (WU U0 ?_));have:=JR (g:=Zs) (c:=Zt) (e:=Zu) (λp:Str×List Nat=>PV.s p.1) (λp=>decide (f<=fst p.2)&&decide (lst p.2<=l)) (λp=>PV.s p.1) (λρ=>∃z,ρ=[z,some (nI f),some (.d (chP C)),some (nI l)]) C [none,some (nI f),some (.d (chP C)),some (nI l)] [] ⟨none,rfl⟩ (λp hp ρ ⟨z,ez⟩=>by
  subst ez;refine⟨_,rfl,⟨_,rfl⟩,bL (zW (zl (x:=nI f) (y:=nI (fst p.2)) (z:=.b (decide (f<=fst p.2))) rfl (zl (zl rfl rfl (bS nd hp)) rfl (uF (ne p hp))) ?_)) (zW (zl (x:=nI (lst p.2)) (y:=nI l) (z:=.b (decide (lst p.2<=l))) (zl (zl rfl rfl (bS nd hp)) rfl (n8 (ne p hp))) rfl ?_)),λ_=>rfl⟩
  .show Out.ok (PV.b (decide ((f:Int)<=(fst p.2:Int))))=_;rw[a2q.mpr a2r]
  .show Out.ok (PV.b (decide ((lst p.2:Int)<=(l:Int))))=_;rw[a2q.mpr a2r]) (by simp;omega)
 refine this.trans ?_;unfold cw;rw[P8];rfl
abbrev Crd(C:Ch)(b f l:Nat):Prop:=b*(l-f+1)<(cw C f l).length
abbrev crX(C:Ch)(f l:Nat):List (Str×PV):=[("first",nI f),("last",nI l),("cars",.l ((cw C f l).map .s))]
def sr(nd:(C.map (·.1)).Nodup)(ne:∀p∈C,p.2≠[])(hl:C.length<=1000)(hf:f<=6):∀(ks:Ht)(a c:Ik),(∀k∈ks,f<=k/\k<=6)->((∀k∈ks,¬Crd C b f k)/\∃a' c',km qD yB (ks.map nI) [some (.d (chP C)),some (nI b),some (nI f),a,c]=.ok (.nx [some (.d (chP C)),some (nI b),some (nI f),a',c']))\/∃l,f<=l/\l<=6/\Crd C b f l/\km qD yB (ks.map nI) [some (.d (chP C)),some (nI b),some (nI f),a,c]=.exc 6 (crX C f l):=by
 intro ks
 induction ks with
 |nil=>exact λa c _=>.inl ⟨nofun,a,c,rfl⟩
 |cons k ks ih=>
  intro a c hk;obtain⟨k1,k2⟩:=hk k M3;have t:yB [some (.d (chP C)),some (nI b),some (nI f),some (nI k),c]=if decide (Crd C b f k)=true then .exc 6 (crX C f k)else .ok (.nx [some (.d (chP C)),some (nI b),some (nI f),some (nI k),some (.l ((cw C f k).map .s))]):=by
   refine zf ⟨_,yZ (z7 (xs:=[.d (chP C),nI f,nI k]) rfl (AJ nd ne hl)),?_⟩;refine(qB (x:=decide (Crd C b f k)) (zW (zl (x:=nI (cw C f k).length) (y:=.i ((b:Int)*((k:Int)-(f:Int)+1))) (z7 (xs:=[.l ((cw C f k).map .s)]) rfl (by show Out.ok (PV.i (((cw C f k).map PV.s).length:Int))=_;rw[v0])) (zl rfl (zl (zl rfl rfl rfl) rfl rfl) (tX (by omega) (by omega))) ?_))).trans ?_
   .show Out.ok (PV.b (decide ((cw C f k).length>(b:Int)*((k:Int)-(f:Int)+1))))=_;refine T1 (λq=>Out.ok (PV.b q)) (a2q.mpr ?_);show _↔b*(k-f+1)<(cw C f k).length;rw[show(k:Int)-(f:Int)+1=((k-f+1:Nat):Int) by omega,<- Int.natCast_mul];exact Int.ofNat_lt
   .rfl
  by_cases c1:Crd C b f k
  .rw[L8 c1,if_pos rfl]at t;refine .inr ⟨k,k1,k2,c1,?_⟩;show(yB [some (.d (chP C)),some (nI b),some (nI f),some (nI k),c]).bind _=_;rw[t];rfl
  .rw[L7 c1,if_neg M6]at t;have fs:km qD yB ((k::ks).map nI) [some (.d (chP C)),some (nI b),some (nI f),a,c]=_:=yQ rfl t;rw[fs];rcases ih (some (nI k)) (some (.l ((cw C f k).map .s))) λq hq=>hk q (L9 _ hq)with⟨h1,h2⟩|h
   .refine .inl ⟨λq hq=>?_,h2⟩;rcases O0.mp hq with e|hq
    .rw[e];exact c1
    .exact h1 q hq
   .exact .inr h
def D5{a b:Int}(h1:-1000<=a)(h2:a<=1000)(h3:-1000<=b)(h4:b<=1000):l6 [.i a,.i b]=.ok (gJ a (b-a).toNat):=by unfold l6;exact if_pos ⟨by omega,by omega,by omega,by omega⟩
def Zl{g:MG}{b:MS}{x:PV}{xs:HW}{ρ ρ1:Sto}{c:Nat}{fs:Ic}(hg:g x ρ=some ρ1)(hb:b ρ1=.exc c fs):km g b (x::xs) ρ=.exc c fs:=by show((ZM (g x ρ)).bind λρ1=>(b ρ1).bind _)=_;rw[hg];show(b ρ1).bind _=_;rw[hb];rfl
def uG(hf:f<=6)(h:ms ρ=.ok [nI f,.i 7]):l7 ms ρ=.ok (((List.range (7-f)).map λj=>f+j).map nI):=by unfold l7;rw[h,okb,D5 (by omega) (by omega) (by omega) (by omega),P8,show(7-(f:Int)).toNat=7-f by omega];refine T1 Out.ok (a0N λk _=>?_);show PV.i ((f:Int)+(k:Int))=PV.i ((f+k:Nat):Int);rw[Int.natCast_add]
def n_(nd:(C.map (·.1)).Nodup)(ne:∀p∈C,p.2≠[])(hl:C.length<=1000):((∀f l,f<=l->l<=6->¬Crd C b f l)/\ym [.d (chP C),nI b]=.ok .n)\/∃f l,f<=l/\l<=6/\Crd C b f l/\ym [.d (chP C),nI b]=.exc 6 (crX C f l):=by
 have loop:∀(ks:Ht)(a c e:Ik),(∀k∈ks,k<=6)->((∀f∈ks,∀l,f<=l->l<=6->¬Crd C b f l)/\∃a' c' e',km qE qF (ks.map nI) [some (.d (chP C)),some (nI b),a,c,e]=.ok (.nx [some (.d (chP C)),some (nI b),a',c',e']))\/∃f l,f<=l/\l<=6/\Crd C b f l/\km qE qF (ks.map nI) [some (.d (chP C)),some (nI b),a,c,e]=.exc 6 (crX C f l):=by
  intro ks
  induction ks with
  |nil=>exact λa c e _=>.inl ⟨nofun,a,c,e,rfl⟩
  |cons k ks ih=>
   intro a c e hk;have k2:=hk k M3;rcases sr (b:=b) nd ne hl k2 ((List.range (7-k)).map λj=>k+j) c e (λq hq=>by obtain⟨j,hj,rfl⟩:=N6.mp hq;have:=S5.mp hj;omega)with⟨h1,c',e',h2⟩|⟨l,l1,l2,l3,h2⟩
   .have fs:km qE qF ((k::ks).map nI) [some (.d (chP C)),some (nI b),a,c,e]=_:=yQ rfl (qL (uG k2 rfl) h2);rw[fs];rcases ih (some (nI k)) c' e' λq hq=>hk q (L9 _ hq)with⟨i1,i2⟩|h
    .refine .inl ⟨λq hq l l1 l2=>?_,i2⟩;rcases O0.mp hq with e|hq
     .rw[e]at l1 ⊢;exact h1 l (N6.mpr ⟨l-k,S5.mpr (by omega),by omega⟩)
     .exact i1 q hq l l1 l2
    .exact .inr h
   .exact .inr ⟨k,l,l1,l2,l3,Zl rfl (J_ (uG k2 rfl) h2)⟩
 rcases loop (List.range 7) none none none (λk hk=>by have:=S5.mp hk;omega)with⟨h1,a,c,e,h2⟩|⟨f,l,l1,l2,l3,h2⟩
 .exact .inl ⟨λf l a1 a2=>h1 f (S5.mpr (by omega)) l a1 a2,r9 rfl (qL (DT rfl) h2)⟩
 .exact .inr ⟨f,l,l1,l2,l3,jo (J_ (DT rfl) h2)⟩
end
def Ju{κ:Type}[DecidableEq κ]:∀{a b:List κ},a.Nodup->(∀x∈a,x∈b)->a.length<=b.length
 |[],b,_,_=>T5 _
 |x::a,b,nd,h=>by have hx:=h x M3;obtain⟨h1,h2⟩:=a0d.mp nd;have:=Ju (a:=a) (b:=b.erase x) h2 λy hy=>(List.mem_erase_of_ne (show y≠x from λe=>h1 (e▸hy))).mpr (h y (L9 _ hy));rw[List.length_erase_of_mem hx]at this;have hb:0<b.length:=a2C hx;rw[v4];omega
section
variable {C W:Ch}{b n:Nat}{T:Ii}
def wt(C:Ch)(T:Ii)(n:Nat):Ch:=C.filter λp=>!decide (p.1∈T.map (·.1))&&decide (n∈p.2)
def sv(W:Ch):List Int:=W.map λp=>(lst p.2:Int)
def cj(W:Ch):Ch:=(cg (sv W)).map λi=>W.getD i ("",[])
def tk(C:Ch)(b:Nat)(T:Ii)(n:Nat):Ch:=(cj (wt C T n)).take b
def Tn(C:Ch)(b:Nat):Nat->List (Str×Nat)
 |0=>[]
 |n+1=>Tn C b n++(tk C b (Tn C b n) n).map λp=>(p.1,n)
abbrev Pn(C:Ch)(b n:Nat):Ch:=tk C b (Tn C b n) n
def U1:(sv W).length=W.length:=by unfold sv;rw[v0]
def Yu:(cj W).Perm W:=by have h:=(dm (sv W)).1;rw[U1]at h;have:=h.map λi=>W.getD i ("",[]);refine this.trans (List.Perm.of_eq ?_);refine List.ext_getElem (by rw[v0,S9]) λi h1 h2=>?_;rw[a0q,a1S,T6,N4 h2];rfl
def AK:(cj W).Pairwise λx y=>lst x.2<=lst y.2:=by
 obtain⟨h,hp⟩:=dm (sv W);unfold cj;rw[a14];refine a2o (λ{i j} hi hj q=>?_) hp;have hi:=S5.mp (h.mem_iff.mp hi);have hj:=S5.mp (h.mem_iff.mp hj);rw[U1]at hi hj;have e:∀i,i<W.length->(sv W).getD i 0=(lst (W.getD i ("",[])).2:Int):=λi hi=>by unfold sv;rw[T6,O2,T6,N4 hi];rfl
 rw[e i hi,e j hj]at q;exact a2r.mp q
def KD:p∈wt C T n↔p∈C/\p.1∉T.map (·.1)/\n∈p.2:=by unfold wt;rw[a0n,a0f,Bool.not_eq_true',decide_eq_false_iff_not,a0v]
def XJ(h:p∈tk C b T n):p∈wt C T n:=Yu.mem_iff.mp (a1H h)
def F4(nd:C.Nodup):(tk C b T n).Nodup:=(Yu.nodup_iff.mpr (nd.sublist a2U)).sublist (a10 _ _)
def D6:(tk C b T n).length<=b:=by unfold tk;rw[a0L];omega
def D7(h:p∈wt C T n)(hn:p∉tk C b T n):(tk C b T n).length=b/\∀y∈tk C b T n,lst y.2<=lst p.2:=by
 have hp:=Yu.mem_iff.mpr h;have hd:p∈(cj (wt C T n)).drop b:=by rw[<- a0B b (cj (wt C T n))]at hp;exact(a0b.mp hp).resolve_left hn
 constructor
 .unfold tk;rw[a0L];have:0<((cj (wt C T n)).drop b).length:=a2C hd;rw[a2c]at this;omega
 .intro y hy;have pw:=AK (W:=wt C T n);rw[<- a0B b (cj (wt C T n))]at pw;exact(List.pairwise_append.mp pw).2.2 y hy p hd
def oa{p:Str×Nat}{k:Nat}:∀{n:Nat},k<=n->p∈Tn C b k->p∈Tn C b n
 |0,h,q=>by cases Nat.le_zero.mp h;exact q
 |n+1,h,q=>by
  by_cases c:k=n+1
  .subst c;exact q
  .exact a0e _ (oa (by omega) q)
def g6{z:Str}{k:Nat}:∀{n:Nat},(z,k)∈Tn C b n->k<n/\∃p∈Pn C b k,p.1=z
 |0,h=>by cases h
 |n+1,h=>by
  rcases a0b.mp h with h|h
  .obtain⟨h1,h2⟩:=g6 h;exact⟨by omega,h2⟩
  .obtain⟨p,hp,e⟩:=N6.mp h;cases e;exact⟨by omega,p,hp,rfl⟩
def D8(h:k<n)(hp:p∈Pn C b k):(p.1,k)∈Tn C b n:=
 oa (k:=k+1) h (N9 _ (N6.mpr ⟨p,hp,rfl⟩))
def sA(nd:(C.map (·.1)).Nodup):∀{n:Nat},((Tn C b n).map (·.1)).Nodup
 |0=>a1N
 |n+1=>by
  show((Tn C b n++(Pn C b n).map λp=>(p.1,n)).map (·.1)).Nodup;rw[R4,P8];have hs:((Pn C b n).map (·.1)).Nodup:=by have:((cj (wt C (Tn C b n) n)).map (·.1)).Nodup:=(Yu.map _).nodup_iff.mpr (nd.sublist (List.filter_sublist.map _));exact this.sublist ((a10 _ _).map _)
  refine a0u.mpr ⟨sA nd,hs,λx hx y hy e=>?_⟩;obtain⟨p,hp,ep⟩:=N6.mp hy;exact(KD.mp (XJ hp)).2.1 (by rw[show p.1=y from ep,<- e];exact hx)
structure Win(C:Ch):Prop where
 nd:(C.map (·.1)).Nodup
 ne:∀p∈C,p.2≠[]
 iv:∀p∈C,∀k,k∈p.2↔fst p.2<=k/\k<=lst p.2
 six:∀p∈C,∀k∈p.2,k<=6
def F5(nd:(C.map (·.1)).Nodup):C.Nodup:=by rw[a0D,a14]at nd;exact a0D.mpr (nd.imp λh e=>h (by rw[e]))
def Win.edf(w:Win C):Edf C (λp=>fst p.2) (λp=>lst p.2) (Pn C b) b where
 win:=λp hp=>by have h1:=(w.iv p hp _).mp (fK (w.ne p hp));exact⟨h1.1,w.six p hp _ (fK (w.ne p hp))⟩
 one:=λn hn p hp=>by obtain⟨h1,h2,h3⟩:=KD.mp (XJ hp);exact⟨h1,λm hm q=>h2 (N6.mpr ⟨_,D8 hm q,rfl⟩),(w.iv p h1 n).mp h3⟩
 nd:=λn _=>F4 (F5 w.nd)
 two:=λn hn p hp h1 h2 h3=>by
  refine D7 (KD.mpr ⟨hp,λq=>?_,(w.iv p hp n).mpr ⟨h2,h3⟩⟩) (h1 n (M7 _));obtain⟨t,ht,e⟩:=N6.mp q;obtain⟨hk,y,hy,ey⟩:=g6 (z:=t.1) (k:=t.2) ht;have hyC:=(KD.mp (XJ hy)).1;have:y=p:=by have hn:=w.nd;have h4:qV C y.1=some y.2:=ju hn hyC;have h5:qV C p.1=some p.2:=ju hn hp;have e2:y.1=p.1:=ey.trans e;rw[e2,h5]at h4;exact Prod.ext e2 (S7 h4).symm
  exact h1 t.2 (by omega) (this▸hy)
def Win.all(w:Win C)(nc:∀f l,f<=l->l<=6->¬Crd C b f l)(hp:p∈C):p.1∈(Tn C b 7).map (·.1):=by
 obtain⟨n,hn,h⟩:=w.edf (b:=b) |>.all (λf l h1 h2 S nd hS=>by
  have:=nc f l h1 h2;have hl:S.length<=(C.filter λp=>decide (f<=fst p.2)&&decide (lst p.2<=l)).length:=Ju nd λx hx=>by obtain⟨a1,a2,a3⟩:=hS x hx;exact a0n.mpr ⟨a1,by rw[L8 a2,L8 a3];rfl⟩
  have e:(cw C f l).length=(C.filter λp=>decide (f<=fst p.2)&&decide (lst p.2<=l)).length:=by unfold cw;rw[v0]
  rw[<- e]at hl;exact O8 hl (Nat.not_lt.mp this)) p hp
 exact N6.mpr ⟨_,D8 (n:=7) (by omega) h,rfl⟩
end
def uH{G:AH}{n:Nat}:∀{kvs:HZ},de (Xr G (n+1)) (vK kvs)=some kvs
 |[]=>rfl
 | (k,x)::kvs=>by show((Xr G (n+1) (.v x)).bind λy=>(de (Xr G (n+1)) (vK kvs)).map ((k,y)::·))=_;rw[uH];rfl
def F6(h:G[k]?=some (.d (vK kvs))):Xr G 8 (.g k)=some (.d kvs):=by unfold Xr;rw[h];show(de _ (vK kvs)).map PV.d=_;rw[uH];rfl
def D9(h0:Vn bs ρ=none)(h1:JU G bs ρ=some r)(h2:m r=.ok x)(hi:FN x=true)(hc:rg x=some c):hF bs m ρ G=.ok (.g G.length) (G++[c]):=by unfold hF;rw[h0,h1];dsimp only;rw[h2];dsimp only;rw[if_pos hi,hc]
def fO{α:Type}{f:α->PV}(h:∀x,imm (f x)=true):∀{xs:List α},oV (xs.map f)=true
 |[]=>rfl
 |x::xs=>by show(imm (f x)&&oV (xs.map f))=true;rw[h,fO h];rfl
def bV{k:Nat}{g:HMG}{b:HMS}{xs:List HV}(J:Nat->wJ->AH->Prop)(hJ:∀i ρ G,J i ρ G->G[k]?=some (.l xs))(hs:∀i (h:i<xs.length) ρ G,J i ρ G->∃ρ1,g xs[i] ρ=some ρ1/\∃ρ2 G2,J (i+1) ρ2 G2/\b ρ1 G=.nx ρ2 G2):∀(r i:Nat)(ρ:wJ)(G:AH),i+r=xs.length->J i ρ G->∃ρ' G',J xs.length ρ' G'/\JW k g b r i ρ G=.nx ρ' G'
 |0,i,ρ,G,h,j=>by
  have e:i=xs.length:=by omega
  subst e;refine⟨ρ,G,j,?_⟩;unfold JW;rw[hJ _ ρ G j];dsimp only;rw[a1x (M7 _)]
 |r+1,i,ρ,G,h,j=>by
  have hi:i<xs.length:=by omega
  obtain⟨ρ1,h1,ρ2,G2,j2,h2⟩:=hs i hi ρ G j;obtain⟨ρ3,G3,j3,h3⟩:=bV J hJ hs r (i+1) ρ2 G2 (by omega) j2;refine⟨ρ3,G3,j3,?_⟩;unfold JW;rw[hJ _ ρ G j];dsimp only;rw[N4 hi];dsimp only;rw[h1];dsimp only;rw[h2];exact h3
def sC(h:m ρ G=.ok (.g k) G1)(h0:G1[k]?=some (.l xs))(h1:JW k g b xs.length 0 ρ G1=o):rD m g b ρ G=o:=by unfold rD;rw[h];show(match G1[k]? with|some (.l xs)=>JW k g b xs.length 0 ρ G1|_=>.wall)=_;rw[h0];exact h1
def U2(h0:Vn bs ρ=some r)(h1:mi r=.ok xs)(h:Kp g b (xs.map .v) ρ G=o):Uz bs mi g b ρ G=o:=by unfold Uz;rw[h0];dsimp only;rw[h1];exact h
def wy(hg:g x ρ=some ρ1)(hb:b ρ1 G=.nx ρ2 G2):Kp g b (x::xs) ρ G=Kp g b xs ρ2 G2:=by
 show(match g x ρ with|none=>HFw.wall|some ρ1=>match b ρ1 G with
   |.nx ρ2 G2=>Kp g b xs ρ2 G2
   |.ct ρ2 G2=>Kp g b xs ρ2 G2
   |.bk ρ2 G2=>.nx ρ2 G2
   |.rt v G2=>.rt v G2
   |.exc c fs G2=>.exc c fs G2
   |.wall=>.wall)=_
 rw[hg];dsimp only;rw[hb]
def GI{G:AH}:∀{ρ:wJ},JU G [] ρ=some (ρ.map λ_=>none)
 |[]=>rfl
 |_::_=>Hl GI
def D_{n:Nat}:∀{l:Ht},inP (.int n) (l.map nI)=some (decide (n∈l))
 |[]=>by rw[L7 (by simp)];rfl
 |y::l=>by
  show(match some (V.int y),inP (.int n) (l.map nI)with|some u,some b=>some (eqV u (.int n)||b)|_,_=>none)=_;rw[D_ (l:=l)];show some (decide ((y:Int)=(n:Int))||decide (n∈l))=_;congr 1;by_cases c:y=n
  .subst c;rw[L8 rfl,L8 M3];rfl
  .rw[L7 (by omega),a2Q];by_cases h:n∈l
   .rw[L8 h,L8 (L9 _ h)]
   .rw[L7 h,L7 λq=>(O0.mp q).elim (λe=>c e.symm) h]
def Ea:pIn b (nI n) (ntP l)=.ok (.b (xor b (decide (n∈l)))):=by show ZM ((inP (.int n) (l.map nI)).map λq=>PV.b (xor b q))=_;rw[D_];rfl
section
variable {C:Ch}{b n t:Nat}{T:Ii}{G:AH}
def tdP(T:Ii):List (Key×PV):=T.map λp=>(sk p.1,nI p.2)
abbrev qM:Str:=("served"++".<locals>."++"<lambda>")
abbrev Mc:Cell:=.m 96 40 qM
def Rdy(G:AH):Prop:=G[0]?=some (.y true)\/G[0]?=some Mc
abbrev sSt(C:Ch)(b t:Nat)(n w x:Option HV):wJ:=[some (.v (.d (chP C))),some (.v (nI b)),some (.g t),n,w,x]
def AL:(qV (tdP T) (sk z)).isSome=decide (z∈T.map (·.1)):=by
 unfold tdP
 induction T with
 |nil=>rfl
 |cons p T ih=>
  rw[O7,qY,O7];by_cases c:p.1=z
  .rw[if_pos (by rw[c]),L8 (by rw[c];exact M3)];rfl
  .rw[if_neg (λh=>c (a1i h)),ih];by_cases h:z∈T.map (·.1)
   .rw[L8 h,L8 (L9 _ h)]
   .rw[L7 h,L7 λq=>(O0.mp q).elim (λe=>c e.symm) h]
def AN(w:Win C)(hl:C.length<=1000):mLC (qf 0) [none,some 2,some 3,some 0] Ze Zg Zh [some (.d (chP C)),none,some (.d (tdP T)),some (nI n),none,x]=.ok (.l ((wt C T n).map λp=>.s p.1)):=by
 refine WU U0 ?_;have:=JR (g:=Ze) (c:=Zg) (e:=Zh) (λp:Str×List Nat=>PV.s p.1) (λp=>!decide (p.1∈T.map (·.1))&&decide (n∈p.2)) (λp=>PV.s p.1) (λρ=>∃z,ρ=[z,some (.d (tdP T)),some (nI n),some (.d (chP C))]) C [none,some (.d (tdP T)),some (nI n),some (.d (chP C))] [] ⟨none,rfl⟩ (λp hp ρ ⟨z,ez⟩=>by
  subst ez;refine⟨_,rfl,⟨_,rfl⟩,bL (zW (zl (x:=.s p.1) (y:=.d (tdP T)) rfl rfl ?_)) (zW (zl rfl (zl rfl rfl (bS w.nd hp)) (Ea.trans (by rw[a0x])))),λ_=>rfl⟩;have:=AG (r:=sk p.1) (kvs:=tdP T);rw[AL]at this;exact this) (by simp;omega)
 exact this
def Eb(w:Win C)(hp:p∈C):ij 2 yi [.s p.1,.d (chP C)]=.ok (nI (lst p.2)):=by show(match yi [some (PV.s p.1),some (.d (chP C))]with | .ok y=>Out.ok y|_=>.wall)=_;rw[show yi [some (PV.s p.1),some (.d (chP C))]=.ok (nI (lst p.2))from zl (zl rfl rfl (bS w.nd hp)) rfl (n8 (w.ne p hp))]
def uI(w:Win C):∀{W:Ch},(∀p∈W,p∈C)->UI (λa=>ij 2 yi [a,.d (chP C)]) (W.map λp=>.s p.1)=some (sv W)
 |[],_=>rfl
 |p::W,h=>by show(match ij 2 yi [.s p.1,.d (chP C)]with | .ok (.i n)=>(UI (λa=>ij 2 yi [a,.d (chP C)]) (W.map λp:Str×List Nat=>PV.s p.1)).map (n::·)|_=>none)=_;rw[Eb w (h p M3),uI w λq hq=>h q (L9 _ hq)];rfl
def AO(w:Win C)(h:∀p∈W,p∈C)(hl:W.length<64):Ap (ij 2 yi) (.d (chP C)) (W.map λp=>.s p.1)=some (.l ((cj W).map λp=>.s p.1)):=by unfold Ap;rw[if_pos (by rw[v0];exact hl),uI w h];show some (PV.l _)=some (PV.l _);unfold cj;rw[P8];congr 2;refine a0N λi hi=>?_;have hi':=S5.mp ((dm (sv W)).1.mem_iff.mp hi);rw[U1]at hi';show(W.map λp=>PV.s p.1).getD i .n=PV.s (W.getD i ("",[])).1;rw[T6,O2,T6,N4 hi'];rfl
def uJ:∀{xs:HW},fg (xs.map .v)=some xs
 |[]=>rfl
 |x::xs=>by show(fg (xs.map .v)).map (x::·)=_;rw[uJ];rfl
def Ec{xs:HW}{n:Nat}:cf xs none (some (n:Int))=xs.take n:=by
 unfold cf;rw[la (by omega),HT.X6,List.drop_zero,Nat.sub_zero,W1];by_cases h:n<=xs.length
 .rw[a1G h]
 .rw[a2p (by omega),a1s,a0S (by omega)]
def Ho(h:Rdy G):(G.set 0 Mc)[0]?=some Mc:=by refine O9 ?_;rcases h with h|h<;>exact(N5.mp h).1
def AQ(w:Win C)(h:Rdy G){W:Ch}{k:Nat}(hk:G[k]?=some (.l ((W.map λp=>PV.s p.1).map .v)))(hW:∀p∈W,p∈C)(hl:W.length<64){n x:Option HV}:bx 96 40 qM (ij 2 yi) 0 (yo (jt 4) Ko) (sSt C b t n (some (.g k)) x) G=.ok (.v (.l ((cj W).map λp=>.s p.1))) (G.set 0 Mc):=by
 have e:(Xz G (.g k)).bind (Ap (ij 2 yi) (.d (chP C)))=some (.l ((cj W).map λp=>.s p.1)):=by show(match G[k]? with|some (.l xs)=>fg xs|_=>none).bind _=_;rw[hk];show(fg ((W.map λp=>PV.s p.1).map .v)).bind _=_;rw[uJ];exact AO w hW hl
 unfold bx;show(match(Xz G (.g k)).bind (Ap (ij 2 yi) (.d (chP C))),G[(0:Nat)]? with
  |some z,some (.y true)=>HX.ok (HV.v z) (G.set 0 (.m 96 40 qM))
  |some z,some (.m l c q)=>if l=96/\c=40/\q=qM then .ok (.v z) G else .wall
  |_,_=>.wall)=_
 rw[e];rcases h with h|h
 .rw[h]
 .rw[h];show(if 96=96/\40=40/\qM=qM then HX.ok (HV.v (.l ((cj W).map λp=>.s p.1))) G else .wall)=_;rw[if_pos ⟨rfl,rfl,rfl⟩];obtain⟨h1,h2⟩:=N5.mp h;rw[<- h2,a2I]
end
section
variable {C:Ch}{b n t:Nat}{T:Ii}{G:AH}
abbrev tdC(T:Ii):Cell:=.d (vK (tdP T))
def AR:(vK (tdP T)).length=T.length:=by unfold vK tdP;rw[v0,v0]
def Ed(h:z∉T.map (·.1)):dput (vK (tdP T)) (sk z) (.v (nI n))=vK (tdP (T++[(z,n)])):=by
 rw[Jt]
 .unfold vK tdP;rw[R4,R4];rfl
 .unfold vK tdP;rw[P8,P8];intro q;obtain⟨p,hp,e⟩:=N6.mp q;exact h (N6.mpr ⟨p,hp,a1i e⟩)
def sD{k:Nat}(ht:G[t]?=some (tdC T))(h:z∉T.map (·.1))(hl:T.length<=1000):QL (sSt C b t (some (.v (nI n))) w (some (.v (.s z)))) G=.nx (sSt C b t (some (.v (nI n))) w (some (.v (.s z)))) (G.set t (tdC (T++[(z,n)]))):=by show(match G[t]?,pk (.s z)with|some (.d kvs),some q=>if kvs.length<sizeLine then HFw.nx (sSt C b t (some (.v (nI n))) w (some (.v (.s z)))) (G.set t (.d (dput kvs q (.v (nI n)))))else .wall|_,_=>.wall)=_;rw[ht];show(if(vK (tdP T)).length<sizeLine then HFw.nx _ (G.set t (.d (dput (vK (tdP T)) (sk z) (.v (nI n)))))else .wall)=_;rw[if_pos (by rw[AR];exact a0i hl (by decide)),Ed h]
def sE(w:Win C)(hC:C.length<=40)(h:Rdy G)(ht:G[t]?=some (tdC (Tn C b n)))(t0:t≠0):∃w' x' G',Zi (sSt C b t (some (.v (nI n))) w0 x0) G=.nx (sSt C b t (some (.v (nI n))) w' x') G'/\Rdy G'/\G'[t]?=some (tdC (Tn C b (n+1)))/\G'[0]?=some Mc:=by
 obtain⟨T,hT⟩:∃T,T=Tn C b n:=⟨_,rfl⟩;rw[<- hT]at ht;have lt:t<G.length:=(N5.mp ht).1;have hTl:T.length<=40:=by
  have h1:=Ju (hT▸sA (b:=b) w.nd (n:=n)) (b:=C.map (·.1)) λz hz=>by obtain⟨p,hp,e⟩:=N6.mp hz;rw[hT]at hp;obtain⟨_,q,hq,eq⟩:=g6 (z:=p.1) (k:=p.2) hp;exact N6.mpr ⟨q,(KD.mp (XJ hq)).1,eq.trans e⟩
  rw[v0,v0]at h1;omega
 have wl:(wt C T n).length<=40:=O8 (a0C _ _) hC;obtain⟨G1,hG1⟩:∃G1,G1=G++[.l (((wt C T n).map λp=>PV.s p.1).map .v)]:=⟨_,rfl⟩;have s1:wo 4 (hF [true,false,true,true] (mLC (qf 0) [none,some 2,some 3,some 0] Ze Zg Zh)) (sSt C b t (some (.v (nI n))) w0 x0) G=.nx (sSt C b t (some (.v (nI n))) (some (.g G.length)) x0) G1:=by rw[hG1];exact vZ (D9 rfl (F0 rfl (Hm (F0 (F6 ht) (F0 rfl GI)))) (AN w (by omega)) (fO λp=>rfl) rfl)
 have h1:Rdy G1:=by
  have:G1[0]?=G[0]?:=by rw[hG1,S6 (by omega)]
  unfold Rdy;rw[this];exact h
 have k1:G1[G.length]?=some (.l (((wt C T n).map λp=>PV.s p.1).map .v)):=by rw[hG1,T9 (M7 _),a1b];rfl
 have s2:=AQ (b:=b) (t:=t) (n:=some (.v (nI n))) (x:=x0) w h1 k1 (λp hp=>(KD.mp hp).1) (by omega);obtain⟨P,hP⟩:∃P,P=tk C b T n:=⟨_,rfl⟩;obtain⟨G3,hG3⟩:∃G3,G3=G1.set 0 Mc++[.l ((P.map λp=>PV.s p.1).map .v)]:=⟨_,rfl⟩;have l1:G1.length=G.length+1:=by rw[hG1,O1];rfl
 have l3:(G1.set 0 Mc).length=G1.length:=S4 ..;have s3:ER (bx 96 40 qM (ij 2 yi) 0 (yo (jt 4) Ko)) (jt 1) (sSt C b t (some (.v (nI n))) (some (.g G.length)) x0) G1=.ok (.g G1.length) G3:=by unfold ER;rw[s2];show HX.ok (HV.g (G1.set 0 Mc).length) (G1.set 0 Mc++[Cell.l ((cf ((cj (wt C T n)).map λp=>PV.s p.1) none (some (b:Int))).map .v)])=_;rw[Ec,l3,hG3,hP,<- a1X];rfl
 have k3:G3[G1.length]?=some (.l ((P.map λp=>PV.s p.1).map .v)):=by rw[hG3,T9 (by omega),l3,a1b];rfl
 have t3:G3[t]?=some (tdC T):=by rw[hG3,S6 (by omega),O6 (Ne.symm t0),hG1,S6 lt];exact ht
 have z3:G3[0]?=some Mc:=by rw[hG3,S6 (by omega)];exact Ho h1
 have lt3:t<G3.length:=(N5.mp t3).1;have nP:(T.map (·.1)++P.map (·.1)).Nodup:=by
  have:=sA (b:=b) w.nd (n:=n+1);have e:(Tn C b (n+1)).map (·.1)=T.map (·.1)++P.map (·.1):=by show(Tn C b n++(tk C b (Tn C b n) n).map λp=>(p.1,n)).map (·.1)=_;rw[R4,P8,<- hT,<- hP];rfl
  rw[e]at this;exact this
 have lP:P.length<=40:=by
  have:P.length<=(cj (wt C T n)).length:=by rw[hP];unfold tk;rw[a0L];omega
  rw[Yu.length_eq]at this;omega
 obtain⟨ρ',G',⟨x',rfl,rfl⟩,eL⟩:=bV (k:=G1.length) (g:=Wr) (b:=QL) (xs:=(P.map λp=>PV.s p.1).map .v) (λi ρ G'=>∃x,ρ=sSt C b t (some (.v (nI n))) (some (.g G.length)) x/\G'=G3.set t (tdC (T++(P.take i).map λp=>(p.1,n)))) (λi ρ G' ⟨x,_,e⟩=>by rw[e,O6 (by omega)];exact k3) (λi hi ρ G' ⟨x,e1,e2⟩=>by
  subst e1 e2;rw[v0,v0]at hi;rw[a0q,a0q];have hn:P[i].1∉(T++(P.take i).map λp=>(p.1,n)).map (·.1):=λq=>by
   rw[R4,P8]at q;have e:T.map (·.1)++P.map (·.1)=(T.map (·.1)++(P.take i).map (·.1))++(P.drop i).map (·.1):=by rw[T7,<- R4,a0B]
   rw[e]at nP;exact(a0u.mp nP).2.2 _ q P[i].1 (N6.mpr ⟨P[i],by rw[a0s hi];exact M3,rfl⟩) rfl
  refine⟨_,rfl,_,_,⟨_,rfl,?_⟩,sD (k:=0) (O9 lt3) hn (by rw[O1,v0,a0L];omega)⟩;rw[List.set_set,T7];congr 3;rw[List.take_succ,N4 hi,R4];rfl) P.length 0 (sSt C b t (some (.v (nI n))) (some (.g G.length)) x0) G3 (by rw[v0,v0];omega) ⟨x0,rfl,by
   rw[List.take_zero,a2d,P7];obtain⟨q1,q2⟩:=N5.mp t3;rw[<- q2,a2I]⟩
 rw[v0,v0,a1s]at eL;have zz:(G3.set t (tdC (T++P.map λp=>(p.1,n))))[0]?=some Mc:=by rw[O6 t0];exact z3
 refine⟨_,x',G3.set t (tdC (T++P.map λp=>(p.1,n))),zA s1 (sC s3 k3 (by rw[v0,v0];exact eL)),.inr zz,?_,zz⟩;rw[O9 lt3,hT,hP,hT];rfl
def Ww(w:Win C)(hC:C.length<=40)(t0:t≠0):∀(r n:Nat)(G:AH)(a w0 x0:Option HV),n+r=7->Rdy G->G[t]?=some (tdC (Tn C b n))->∃a' w' x' G',Kp QM Zi (((List.range' n r).map nI).map .v) (sSt C b t a w0 x0) G=.nx (sSt C b t a' w' x') G'/\Rdy G'/\G'[t]?=some (tdC (Tn C b 7))
  |0,n,G,a,w0,x0,hn,h,ht=>⟨a,w0,x0,G,rfl,h,by cases(show n=7 from hn);exact ht⟩
  |r+1,n,G,a,w0,x0,hn,h,ht=>by obtain⟨w1,x1,G1,e1,h1,t1,_⟩:=sE (b:=b) (n:=n) w hC h ht t0 (w0:=w0) (x0:=x0);obtain⟨a',w',x',G',e2,q⟩:=Ww w hC t0 r (n+1) G1 (some (.v (nI n))) w1 x1 (by omega) h1 t1;exact⟨a',w',x',G',(wy rfl e1).trans e2,q⟩
def sF(w:Win C)(hC:C.length<=40)(h:Rdy G):∃G',Jn [.v (.d (chP C)),.v (nI b)] G=.ok (.g G.length) G'/\Rdy G'/\G'[G.length]?=some (tdC (Tn C b 7)):=by
 have g0:0<G.length:=by rcases h with h|h<;>exact(N5.mp h).1
 have h1:Rdy (G++[tdC []]):=by have:(G++[tdC []])[0]?=G[0]?:=S6 g0;unfold Rdy;rw[this];exact h
 obtain⟨a',w',x',G',e,q1,q2⟩:=Ww (b:=b) (t:=G.length) w hC (by omega) 7 0 (G++[tdC []]) none none none rfl h1 (by rw[T9 (M7 _),a1b];rfl);refine⟨G',?_,q1,q2⟩;have s1:wo 2 (hF [] c6) [some (.v (.d (chP C))),some (.v (nI b)),none,none,none,none] G=.nx (sSt C b G.length none none none) (G++[tdC []]):=rfl;have s2:Uz [] (wj (zb (mC (.i 7)) zm)) QM Zi (sSt C b G.length none none none) (G++[tdC []])=.nx (sSt C b G.length a' w' x') G':=U2 rfl (DT rfl) e;have s3:V0 (jt 2) (sSt C b G.length a' w' x') G' = .rt (.g G.length) G':=rfl;show(match Jm [some (.v (.d (chP C))),some (.v (nI b)),none,none,none,none] G with | .nx _ G'=>HX.ok (HV.v PV.n) G' | .rt x G'=>.ok x G' | .exc c fs G'=>.exc c fs G'|_=>.wall)=_;rw[show Jm [some (.v (.d (chP C))),some (.v (nI b)),none,none,none,none] G=_ from zA s1 (zA s2 s3)]
end
inductive Rf
 |bad (z:Str)
 |num (v:Int)
 |many
 |two (z:Str)
def il:List Int->Option Int
 |[]=>none
 |x::l=>if x<0\/1000000000<x then some x else il l
def dvN(w:Wk):Option Int:=if w.m<0\/1000000000<w.m then some w.m else if w.d<1\/w.d>1000000000 then some w.d else il w.ls
def dvL:List Str->List Wk->Option Rf
 |_,[]=>none
 |P,w::ws=>if Zk w.nm=false then some (.bad w.nm)else if w.nm∈P then some (.two w.nm)else match dvN w with|some v=>some (.num v)|none=>dvL (P++[w.nm]) ws
def dv(ws:List Wk):Option Rf:=if 40<ws.length then some .many else dvL [] ws
def rE:Rf->Nat×List (Str×PV)
 |.bad z=>(1,[("name",.s z)])
 |.num v=>(2,[("value",.i v)])
 |.many=>(3,[("most",.i 40)])
 |.two z=>(4,[("name",.s z)])
def rW:Option Rf->PV
 |none=>.t [.s "right"]
 |some (.bad z)=>.t [.s "name",.s z]
 |some (.num v)=>.t [.s "number",.i v]
 |some .many=>.t [.s "many",.i 40]
 |some (.two z)=>.t [.s "twice",.s z]
def AS(h:z∉P):dput (KC P) (sk z) (.b true)=KC (P++[z]):=by
 rw[Jt]
 .unfold KC;rw[R4];rfl
 .unfold KC;rw[P8];intro q;obtain⟨y,hy,e⟩:=N6.mp q;cases e;exact h hy
def uK{A B C D E F:Ik}:∀(ls:HY)(o:Ik),(il ls=none->∃o',km jh jj (ls.map .i) [A,B,C,D,E,F,o]=.ok (.nx [A,B,C,D,E,F,o']))/\∀v,il ls=some v->km jh jj (ls.map .i) [A,B,C,D,E,F,o]=.exc 2 [("value",.i v)]
 |[],o=>⟨λ_=>⟨o,rfl⟩,nofun⟩
 |x::ls,o=>by
  unfold il;by_cases c:x<0\/1000000000<x
  .rw[if_pos c];refine⟨nofun,λv h=>?_⟩;cases h;exact Zl rfl (Zj (Yt (xs:=[.i x,.i 0]) rfl (Wt c)))
  .rw[if_neg c];have fs:km jh jj ((x::ls).map .i) [A,B,C,D,E,F,o]=_:=yQ rfl (QN (z7 (xs:=[.i x,.i 0]) rfl (Wu c)));rw[fs];exact uK ls (some (.i x))
def Vv(hz:∀w∈ws,w.nm.length<=1000):(dv ws=none->zL [wsP ws]=.ok .n)/\∀r,dv ws=some r->zL [wsP ws]=.exc (rE r).1 (rE r).2:=by
 have loop:∀(us:List Wk)(P:Hx)(a b c d e:Ik),(∀w∈us,w.nm.length<=1000)->P.length+us.length<=1000->(dvL P us=none->∃ρ,km jm jn (us.map wkP) [some (wsP ws),some (.d (KC P)),a,b,c,d,e]=.ok (.nx ρ))/\∀r,dvL P us=some r->km jm jn (us.map wkP) [some (wsP ws),some (.d (KC P)),a,b,c,d,e]=.exc (rE r).1 (rE r).2:=by
  intro us
  induction us with
  |nil=>exact λP a b c d e _ _=>⟨λ_=>⟨_,rfl⟩,nofun⟩
  |cons w us ih=>
   intro P a b c d e hu hP;rw[v4]at hP;have cn:=Az (P:=P) (hu w M3);unfold dvL;by_cases c1:Zk w.nm=false
   .rw[if_pos c1]at cn ⊢;refine⟨nofun,λr h=>?_⟩;cases h;exact Zl rfl (j_ (Zj (Yt (xs:=[.s w.nm,.d (KC P)]) rfl cn)))
   .rw[if_neg c1]at cn ⊢;by_cases c2:w.nm∈P
    .rw[if_pos c2]at cn ⊢;refine⟨nofun,λr h=>?_⟩;cases h;exact Zl rfl (j_ (Zj (Yt (xs:=[.s w.nm,.d (KC P)]) rfl cn)))
    .rw[if_neg c2]at cn ⊢;have s1:=QN (z7 (ρ:=[some (wsP ws),some (.d (KC P)),some (.s w.nm),some (.i w.m),some (.i w.d),some (lsP w.ls),e]) (ms:=zb (zc 2) (zb (zc 1) zm)) (xs:=[.s w.nm,.d (KC P)]) rfl cn);unfold dvN;by_cases c3:w.m<0\/1000000000<w.m
     .rw[if_pos c3];refine⟨nofun,λr h=>?_⟩;cases h;exact Zl rfl (zf ⟨_,s1,j_ (Zj (Yt (xs:=[.i w.m,.i 0]) rfl (Wt c3)))⟩)
     .rw[if_neg c3];have s2:=QN (z7 (ρ:=[some (wsP ws),some (.d (KC P)),some (.s w.nm),some (.i w.m),some (.i w.d),some (lsP w.ls),e]) (ms:=zb (zc 3) (zb (mC (.i 0)) zm)) (xs:=[.i w.m,.i 0]) rfl (Wu c3));by_cases c4:w.d<1\/w.d>1000000000
      .rw[if_pos c4];refine⟨nofun,λr h=>?_⟩;cases h;exact Zl rfl (zf ⟨_,s1,zf ⟨_,s2,j_ (Zj (Yt (xs:=[.i w.d,.i 1]) rfl (gZ c4)))⟩⟩)
      .rw[if_neg c4];have s3:=QN (z7 (ρ:=[some (wsP ws),some (.d (KC P)),some (.s w.nm),some (.i w.m),some (.i w.d),some (lsP w.ls),e]) (ms:=zb (zc 4) (zb (mC (.i 1)) zm)) (xs:=[.i w.d,.i 1]) rfl (nS (by omega) (by omega)));obtain⟨l1,l2⟩:=uK (A:=some (wsP ws)) (B:=some (.d (KC P))) (C:=some (.s w.nm)) (D:=some (.i w.m)) (E:=some (.i w.d)) (F:=some (lsP w.ls)) w.ls e;cases hb:il w.ls with
       |some v=>refine⟨nofun,λr h=>?_⟩;cases h;exact Zl rfl (zf ⟨_,s1,zf ⟨_,s2,zf ⟨_,s3,j_ (J_ (qa rfl) (l2 v hb))⟩⟩⟩)
       |none=>obtain⟨o',q⟩:=l1 hb;have fs:km jm jn ((w::us).map wkP) [some (wsP ws),some (.d (KC P)),a,b,c,d,e]=_:=yQ rfl (zf ⟨_,s1,zf ⟨_,s2,zf ⟨_,s3,zf ⟨_,qL (qa rfl) q,uE (i:=1) (k:=sk w.nm) (kvs:=KC P) (v:=.b true) rfl rfl rfl (by unfold KC;rw[v0];omega)⟩⟩⟩⟩);rw[fs,AS c2];exact ih (P++[w.nm]) _ _ _ _ _ (λx hx=>hu x (L9 _ hx)) (by rw[O1];show P.length+1+_<=_;omega)
 have hl:wg [wsP ws]=.ok (.i (ws.length:Int)):=by show Out.ok (PV.i ((ws.map wkP).length:Int))=_;rw[v0]
 unfold dv;by_cases c:40<ws.length
 .rw[if_pos c];refine⟨nofun,λr h=>?_⟩;cases h;exact jo (j_ (Zj (Yt (xs:=[wsP ws,.i 40]) rfl (AA hl (by omega)))))
 .rw[if_neg c];have s0:=QN (z7 (ρ:=[some (wsP ws),none,none,none,none,none,none]) (ms:=zb (zc 0) (zb (mC (.i 40)) zm)) (xs:=[wsP ws,.i 40]) rfl (Ax hl (by omega)));obtain⟨h1,h2⟩:=loop ws [] none none none none none hz (by show 0+_<=_;omega);refine⟨λh=>?_,λr h=>?_⟩
  .obtain⟨ρ,q⟩:=h1 h;exact r9 rfl (zf ⟨_,s0,zf ⟨_,rfl,qL (qa rfl) q⟩⟩)
  .exact jo (zf ⟨_,s0,zf ⟨_,rfl,J_ (qa rfl) (h2 r h)⟩⟩)
def Wx(hg:g x ρ=some ρ1)(hb:b ρ1=.ok (.rt v)):km g b (x::xs) ρ=.ok (.rt v):=by show((ZM (g x ρ)).bind λρ1=>(b ρ1).bind _)=_;rw[hg];show(b ρ1).bind _=_;rw[hb];rfl
def uL(h:ρ[i]?=some (some (.l xs)))(hm:m ρ=.ok y)(hl:xs.length<100000):tU i m ρ=.ok (.nx (ρ.set i (some (.l (xs++[y]))))):=by unfold tU;rw[h];show(m ρ).bind _=_;rw[hm,okb,if_pos (N7 hl (by decide))]
def p9:qU (.i 10) (.i 9)=.ok (.i 1000000000):=by rw[eW (by decide) (by decide) (by decide)];rfl
def uM:List (Int×Int)->Option Int
 |[]=>none
 |p::l=>if p.1<p.2\/p.1>1000000000 then some p.1 else uM l
def nums(w:Wk):List (Int×Int):=[(w.m,0),(w.d,1)]++w.ls.map λx=>(x,0)
def og:∀{ls:HY},uM (ls.map λx=>(x,0))=il ls
 |[]=>rfl
 |x::ls=>by
  show(if x<0\/x>1000000000 then some x else uM (ls.map λx=>(x,0)))=if x<0\/1000000000<x then some x else il ls
  rw[og]
def Ee:uM (nums w)=dvN w:=by show(if w.m<0\/w.m>1000000000 then some w.m else if w.d<1\/w.d>1000000000 then some w.d else uM (w.ls.map λx=>(x,0)))=_;rw[og];rfl
section
variable {A B C D E F H v l:Ik}
def fP:∀(L:List (Int×Int)) (v l:Ik),(uM L=none->∃v' l',km w8 vg (L.map λp=>.t [.i p.1,.i p.2]) [A,B,C,D,E,F,H,v,l]=.ok (.nx [A,B,C,D,E,F,H,v',l']))/\∀x,uM L=some x->km w8 vg (L.map λp=>.t [.i p.1,.i p.2]) [A,B,C,D,E,F,H,v,l]=.ok (.rt (.t [.s "number",.i x]))
 |[],v,l=>⟨λ_=>⟨v,l,rfl⟩,nofun⟩
 |p::L,v,l=>by
  have t:vg [A,B,C,D,E,F,H,some (.i p.1),some (.i p.2)]=if(decide (p.1<p.2)||decide (p.1>1000000000))=true then .ok (.rt (.t [.s "number",.i p.1]))else .ok (.nx [A,B,C,D,E,F,H,some (.i p.1),some (.i p.2)]):=qB (YW (zW (zl (x:=.i p.1) (y:=.i p.2) rfl rfl rfl)) (zW (zl (x:=.i p.1) (y:=.i 1000000000) rfl (zl rfl rfl p9) rfl)))
  rw[<- a1M]at t;unfold uM;by_cases c:p.1<p.2\/p.1>1000000000
  .rw[L8 c,if_pos rfl]at t;rw[if_pos c];refine⟨nofun,λx h=>?_⟩;cases h;exact Wx rfl t
  .rw[L7 c,if_neg M6]at t;rw[if_neg c];have fs:km w8 vg ((p::L).map λp=>.t [.i p.1,.i p.2]) [A,B,C,D,E,F,H,v,l]=_:=yQ rfl t;rw[fs];exact fP L _ _
def sg2{z:Str}:∀(cs:Ht)(o:Ik),((cs.all λc=>decide (c∈signs.cps.toList))=true->∃o',km w6 vf (cs.map λc=>PV.s ⟨#[c]⟩) [A,B,some (.s z),D,E,F,o,v,l]=.ok (.nx [A,B,some (.s z),D,E,F,o',v,l]))/\((cs.all λc=>decide (c∈signs.cps.toList))=false->km w6 vf (cs.map λc=>PV.s ⟨#[c]⟩) [A,B,some (.s z),D,E,F,o,v,l]=.ok (.rt (.t [.s "name",.s z])))
 |[],o=>⟨λ_=>⟨o,rfl⟩,nofun⟩
 |c::cs,o=>by
  have t:vf [A,B,some (.s z),D,E,F,some (.s ⟨#[c]⟩),v,l]=if(xor true (decide (c∈signs.cps.toList)))=true then .ok (.rt (.t [.s "name",.s z]))else .ok (.nx [A,B,some (.s z),D,E,F,some (.s ⟨#[c]⟩),v,l]):=by refine qB (zW (zl (x:=.s ⟨#[c]⟩) (y:=.s signs) rfl rfl ?_));show Out.ok (PV.b (xor true (!(Builtin.Str.occurrences signs ⟨#[c]⟩ 0 signs.length 1).isEmpty)))=_;rw[StrLaws.found_one]
  rw[a1l];by_cases hc:c∈signs.cps.toList
  .rw[L8 hc]at t ⊢;have fs:km w6 vf ((c::cs).map λc=>PV.s ⟨#[c]⟩) [A,B,some (.s z),D,E,F,o,v,l]=_:=yQ rfl t;rw[fs,a1n];exact sg2 cs _
  .rw[L7 hc]at t ⊢;rw[a2D];exact⟨nofun,λ_=>Wx rfl t⟩
end
def oh(hz:z.length<=1000)(h0:zc 2 ρ=.ok (.s z)):mOr (zT (mOp (qK false) (zh wg (zb (zc 2) zm)) (mC (.i 0)))) (zT (mOp pGt (zh wg (zb (zc 2) zm)) (mC (.i 12)))) ρ=.ok (!decide (1<=z.length/\z.length<=12)):=by
 have hl:wg [.s z]=.ok (.i z.length):=mj (sz5 (by omega));refine(YW (Yr (x:=(z.length:Int)) (z7 (xs:=[.s z]) (zJ h0 rfl) hl)) (Ys (x:=(z.length:Int)) (z7 (xs:=[.s z]) (zJ h0 rfl) hl))).trans ?_;congr 1;by_cases c1:1<=z.length
 .by_cases c2:z.length<=12
  .rw[L7 (by omega),L7 (by omega),L8 ⟨c1,c2⟩];rfl
  .rw[L8 (p:=(z.length:Int)>12) (by omega),L7 (p:=1<=z.length/\z.length<=12) (by omega),a2e];rfl
 .rw[L8 (p:=(z.length:Int)=0) (by omega),L7 (p:=1<=z.length/\z.length<=12) (by omega)];rfl
def AU(hl:w.ls.length<=1000)(h3:zc 3 ρ=.ok (.i w.m))(h4:zc 4 ρ=.ok (.i w.d))(h5:zc 5 ρ=.ok (lsP w.ls)):qy (mOp zG (Kl (zb (wD (zb (zc 3) (zb (mC (.i 0)) zm))) (zb (wD (zb (zc 4) (zb (mC (.i 1)) zm))) zm))) (mLC (qy (zc 5)) [none] Yh Kt Yi)) ρ=.ok ((nums w).map λp=>.t [.i p.1,.i p.2]):=by
 have e:=Qw (g:=Yh) (e:=Yi) (λx:Int=>PV.i x) (λx=>.t [.i x,.i 0]) (λρ=>∃z,ρ=[z]) w.ls [none] ⟨_,rfl⟩ (λx hx ρ ⟨z,ez⟩=>by subst ez;exact⟨_,rfl,⟨_,rfl⟩,rfl⟩) (by omega);refine qa (zl (x:=.l [.t [.i w.m,.i 0],.t [.i w.d,.i 1]]) (y:=.l (w.ls.map λx=>.t [.i x,.i 0])) (dB (zJ (UY (zJ h3 (zJ rfl rfl)) (P9 rfl)) (zJ (UY (zJ h4 (zJ rfl rfl)) (P9 rfl)) rfl)) (P9 rfl)) (WU (qa h5) e) ?_);show(if _ then _ else _)=_;rw[if_pos ?_]
 .unfold nums;rw[R4,P8];rfl
 .rw[v0];refine O8 (m:=1002) ?_ (by decide);show 2+_<=_;omega
abbrev dSt(ws:List Wk)(P:Hx)(w:Wk)(a b c:Ik):Sto:=[some (wsP ws),some (.l (P.map .s)),some (.s w.nm),some (.i w.m),some (.i w.d),some (lsP w.ls),a,b,c]
def Eg(hz:∀w∈ws,w.nm.length<=1000/\w.ls.length<=1000):vh [wsP ws]=.ok (rW (dv ws)):=by
 have loop:∀(us:List Wk)(P:Hx)(a b c d e f g:Ik),(∀w∈us,w.nm.length<=1000/\w.ls.length<=1000)->P.length+us.length<=1000->(dvL P us=none->∃ρ,km w_ Za (us.map wkP) [some (wsP ws),some (.l (P.map .s)),a,b,c,d,e,f,g]=.ok (.nx ρ))/\∀r,dvL P us=some r->km w_ Za (us.map wkP) [some (wsP ws),some (.l (P.map .s)),a,b,c,d,e,f,g]=.ok (.rt (rW (some r))):=by
  intro us
  induction us with
  |nil=>exact λP a b c d e f g _ _=>⟨λ_=>⟨_,rfl⟩,nofun⟩
  |cons w us ih=>
   intro P a b c d e f g hu hP;rw[v4]at hP;obtain⟨hz1,hz2⟩:=hu w M3;have t1:=qB (a:=kA (wD (zb (mC (.s "name")) (zb (zc 2) zm)))) (b:=zY) (oh (ρ:=dSt ws P w e f g) hz1 rfl);obtain⟨g1,g2⟩:=sg2 (A:=some (wsP ws)) (B:=some (.l (P.map .s))) (D:=some (.i w.m)) (E:=some (.i w.d)) (F:=some (lsP w.ls)) (v:=f) (l:=g) (z:=w.nm) w.nm.cps.toList e;unfold dvL;by_cases c1:Zk w.nm=false
   .rw[if_pos c1];refine⟨nofun,λr h=>?_⟩;cases h;refine Wx rfl ?_;unfold Zk at c1;by_cases c0:1<=w.nm.length/\w.nm.length<=12
    .rw[L8 c0,a1n]at c1;rw[L8 c0]at t1;exact zf ⟨_,t1,VU (qL (signs_at rfl) (g2 c1))⟩
    .rw[L7 c0]at t1;exact VU t1
   .rw[if_neg c1];have hg:Zk w.nm=true:=by cases q:Zk w.nm with|true=>rfl|false=>exact absurd q c1
    unfold Zk at hg;rw[a0f]at hg;rw[hg.1]at t1;obtain⟨o1,q1⟩:=g1 hg.2;have t2:sIf (zT (mOp (pIn false) (zc 2) (zc 1))) (kA (wD (zb (mC (.s "twice")) (zb (zc 2) zm)))) zY (dSt ws P w o1 f g)=if decide (w.nm∈P)=true then .ok (.rt (.t [.s "twice",.s w.nm]))else .ok (.nx (dSt ws P w o1 f g)):=qB (zW (zl rfl rfl (D4.trans (by rw[a0x]))))
    by_cases c2:w.nm∈P
    .rw[if_pos c2];refine⟨nofun,λr h=>?_⟩;cases h;rw[L8 c2]at t2;exact Wx rfl (zf ⟨_,t1,zf ⟨_,qL (signs_at rfl) q1,VU t2⟩⟩)
    .rw[if_neg c2];rw[L7 c2]at t2;have t3:tU 1 (zc 2) (dSt ws P w o1 f g)=.ok (.nx (dSt ws (P++[w.nm]) w o1 f g)):=by rw[uL (i:=1) (xs:=P.map .s) (y:=.s w.nm) rfl rfl (by rw[v0];omega)];show Out.ok (Fw.nx [_,some (.l (P.map PV.s++[.s w.nm])),_,_,_,_,_,_,_])=_;rw[show P.map PV.s++[.s w.nm]=(P++[w.nm]).map .s by rw[R4];rfl]
     obtain⟨n1,n2⟩:=fP (A:=some (wsP ws)) (B:=some (.l ((P++[w.nm]).map .s))) (C:=some (.s w.nm)) (D:=some (.i w.m)) (E:=some (.i w.d)) (F:=some (lsP w.ls)) (H:=o1) (nums w) f g;rw[Ee]at n1 n2;have it:=AU (w:=w) (ρ:=dSt ws (P++[w.nm]) w o1 f g) hz2 rfl rfl rfl;cases hb:dvN w with
     |some v=>refine⟨nofun,λr h=>?_⟩;cases h;exact Wx rfl (zf ⟨_,t1,zf ⟨_,qL (signs_at rfl) q1,zf ⟨_,t2,zf ⟨_,t3,qL it (n2 v hb)⟩⟩⟩⟩)
     |none=>obtain⟨v',l',q⟩:=n1 hb;have fs:km w_ Za ((w::us).map wkP) [some (wsP ws),some (.l (P.map .s)),a,b,c,d,e,f,g]=_:=yQ rfl (zf ⟨_,t1,zf ⟨_,qL (signs_at rfl) q1,zf ⟨_,t2,zf ⟨_,t3,qL it q⟩⟩⟩⟩);rw[fs];exact ih (P++[w.nm]) _ _ _ _ _ _ _ (λx hx=>hu x (L9 _ hx)) (by rw[O1];show P.length+1+_<=_;omega)
 have hl:wg [wsP ws]=.ok (.i (ws.length:Int)):=by show Out.ok (PV.i ((ws.map wkP).length:Int))=_;rw[v0]
 have t:=qB (a:=kA (wD (zb (mC (.s "many")) (zb (mC (.i 40)) zm)))) (b:=zY) (Ys (n:=40) (z7 (ρ:=[some (wsP ws),none,none,none,none,none,none,none,none]) (ms:=zb (zc 0) zm) (xs:=[wsP ws]) rfl hl));unfold dv;by_cases c:40<ws.length
 .rw[if_pos c];rw[L8 (by omega)]at t;exact yV (VU t)
 .rw[if_neg c];rw[L7 (by omega)]at t;obtain⟨h1,h2⟩:=loop ws [] none none none none none none none hz (by show 0+_<=_;omega);cases hd:dvL [] ws with
  |none=>obtain⟨ρ,q⟩:=h1 hd;exact yV (zf ⟨_,t,zf ⟨_,rfl,zf ⟨_,qL (qa rfl) q,rfl⟩⟩⟩)
  |some r=>exact yV (zf ⟨_,t,zf ⟨_,rfl,VU (qL (qa rfl) (h2 r hd))⟩⟩)
def AV:zP [.x 2 [("value",.i v)]]=.ok (.t [.s "number",.i v]):=rfl
def Eh:zP [.x 5 [("name",.s z)]]=.ok (.t [.s "night",.s z]):=rfl
def Ei:zP [.x 6 [("first",a),("last",b),("cars",c)]]=.ok (.t [.s "crowded",a,b,c]):=rfl
def uN:zP [.x (rE r).1 (rE r).2]=.ok (rW (some r)):=by cases r<;>rfl
section
variable {C:Ch}{ws:List Wk}{nm:Str}{m d:Int}{ls:HY}
def nkv(C:Ch):List (Key×HV):=C.zipIdx.map λq=>(sk q.1.1,HV.g (q.2+1))
abbrev lsC(l:Ht):Cell:=.l ((l.map nI).map .v)
def ndG(C:Ch):AH:=.d (nkv C)::C.map λp=>lsC p.2
abbrev nSt(ws:List Wk)(a b c e f:Option HV):wJ:=[some (.v (wsP ws)),some (.g 0),a,b,c,e,f]
def AW:nkv (C++[(nm,l)])=nkv C++[(sk nm,.g (C.length+1))]:=by unfold nkv;rw[List.zipIdx_append,R4,Nat.zero_add];rfl
def sG:(nkv C).map (·.1)=C.map λp=>sk p.1:=by
 unfold nkv;rw[P8];have:(C.zipIdx.map Prod.fst).map (λp=>sk p.1)=C.map λp=>sk p.1:=by rw[List.zipIdx_map_fst]
 rw[P8]at this;exact this
def AX:(nkv C).length=C.length:=by unfold nkv;rw[v0,List.length_zipIdx]
def Wy:ndG (C++[(nm,l)])=.d (nkv C++[(sk nm,.g (C.length+1))])::(C.map (λp=>lsC p.2)++[lsC l]):=by unfold ndG;rw[AW,R4];rfl
def uO(h:nm∉C.map (·.1)):sk nm∉(nkv C).map (·.1):=by rw[sG];intro q;obtain⟨p,hp,e⟩:=N6.mp q;exact h (N6.mpr ⟨p,hp,a1i e⟩)
def Ej(h:nm∉C.map (·.1)):qV (nkv C++[(sk nm,v)]) (sk nm)=some v:=by
 have h':=uO h;revert h';generalize nkv C=K
 induction K with
 |nil=>intro _;show qV [(sk nm,v)] (sk nm)=_;rw[qY,if_pos rfl]
 |cons a K ih=>intro h';show qV (a::(K++[(sk nm,v)])) (sk nm)=_;rw[O7,O0,not_or]at h';rw[qY,if_neg (λe=>h'.1 e.symm)];exact ih h'.2
def oi(h:nm∉C.map (·.1))(hl:l.length<=1000):EI (hIx (jt 1) (jt 2)) (jt 6) (nSt ws (some (.v (.s nm))) b c e (some (.v (nI k)))) (ndG (C++[(nm,l)]))=.nx (nSt ws (some (.v (.s nm))) b c e (some (.v (nI k)))) (ndG (C++[(nm,l++[k])])):=by
 have g0:(ndG (C++[(nm,l)]))[0]?=some (.d (nkv C++[(sk nm,.g (C.length+1))])):=by rw[Wy];rfl
 have g1:(ndG (C++[(nm,l)]))[C.length+1]?=some (lsC l):=by rw[Wy,R7,T9 (by rw[v0];omega),v0,a1b];rfl
 have hx:hIx (jt 1) (jt 2) (nSt ws (some (.v (.s nm))) b c e (some (.v (nI k)))) (ndG (C++[(nm,l)]))=.ok (.g (C.length+1)) (ndG (C++[(nm,l)])):=by
  show(match ixH (ndG (C++[(nm,l)])) (.g 0) (.v (.s nm))with|some z=>HX.ok z (ndG (C++[(nm,l)]))|none=>.wall)=_;have:ixH (ndG (C++[(nm,l)])) (.g 0) (.v (.s nm))=some (.g (C.length+1)):=by unfold ixH;dsimp only;rw[g0];exact Ej h
  rw[this]
 unfold EI;rw[hx];show(match(ndG (C++[(nm,l)]))[C.length+1]? with
  |some (.l _)=>(match(ndG (C++[(nm,l)]))[C.length+1]? with
   |some (.l xs)=>if xs.length<sizeLine then HFw.nx (nSt ws (some (.v (.s nm))) b c e (some (.v (nI k)))) ((ndG (C++[(nm,l)])).set (C.length+1) (.l (xs++[HV.v (nI k)])))else .wall
   |_=>.wall)
  |_=>.wall)=_
 rw[g1];dsimp only;rw[if_pos (by rw[v0,v0];exact a0i hl (by decide))];congr 1;rw[Wy,Wy,List.set_cons_succ,List.set_append_right _ _ (by rw[v0];exact M7 _),v0,a1b];show _::(_++[Cell.l (List.map HV.v (List.map nI l)++[HV.v (nI k)])])=_;rw[show List.map HV.v (List.map nI l)++[HV.v (nI k)]=List.map HV.v (List.map nI (l++[k])) by rw[R4,R4];rfl]
def Ka{w:Wk}(h:w.nm∉C.map (·.1)):∀(ks l:Ht)(f:Option HV),l.length+ks.length<=1000->∃f',Kp YZ Y0 ((ks.map nI).map .v) (nSt ws (some (.v (.s w.nm))) (some (.v (.i w.m))) (some (.v (.i w.d))) (some (.v (lsP w.ls))) f) (ndG (C++[(w.nm,l)]))=.nx (nSt ws (some (.v (.s w.nm))) (some (.v (.i w.m))) (some (.v (.i w.d))) (some (.v (lsP w.ls))) f') (ndG (C++[(w.nm,l++ks.filter (nW w.m w.d w.ls))]))
 |[],l,f,_=>⟨f,by rw[List.filter_nil,P7];rfl⟩
 |k::ks,l,f,hl=>by
  rw[v4]at hl;have t:hPT [false,false,false,true,true,true,true] (lA (zT (mOp pLe (mOp zG (zc 3) (zh WS (zb (mSl pSl (zc 5) cY (wF (mOp zG (zc 6) (mC (.i 1))))) zm))) (zc 4))) (zT (mOp pLe (zh WS (zb (mSl pSl (zc 5) (wF (mOp zG (zc 6) (mC (.i 1)))) cY) zm)) (zc 4)))) (nSt ws (some (.v (.s w.nm))) (some (.v (.i w.m))) (some (.v (.i w.d))) (some (.v (lsP w.ls))) (some (.v (nI k)))) (ndG (C++[(w.nm,l)]))=.ok (nW w.m w.d w.ls k) (ndG (C++[(w.nm,l)])):=
   vm rfl (bL (zW (zl (UZ (m:=w.m) (ls:=w.ls) (k:=k) rfl rfl rfl) rfl rfl)) (zW (zl (Wv (ls:=w.ls) (k:=k) rfl rfl) rfl rfl)))
  cases hc:nW w.m w.d w.ls k with
  |true=>rw[hc]at t;obtain⟨f',q⟩:=Ka h ks (l++[k]) (some (.v (nI k))) (by rw[O1];show _+1+_<=_;omega);refine⟨f',(wy rfl ((bN t).trans (oi h (by omega)))).trans (q.trans ?_)⟩;rw[a0y,if_pos hc,T7];rfl
  |false=>rw[hc]at t;obtain⟨f',q⟩:=Ka h ks l (some (.v (nI k))) (by omega);refine⟨f',(wy rfl (Ws t)).trans (q.trans ?_)⟩;rw[a0y,if_neg (by rw[hc];exact M6)]
def oj(h:nm∉C.map (·.1))(hl:C.length<=1000):EJ (jt 1) (jt 2) (hF [] (Kl zm)) (nSt ws (some (.v (.s nm))) b c e f) (ndG C)=.nx (nSt ws (some (.v (.s nm))) b c e f) (ndG (C++[(nm,[])])):=by
 show(match(ndG C++[lsC []])[(0:Nat)]?,pk (.s nm)with
  |some (.d kvs),some q=>if kvs.length<sizeLine then HFw.nx (nSt ws (some (.v (.s nm))) b c e f) ((ndG C++[lsC []]).set 0 (.d (dput kvs q (.g (ndG C).length))))else .wall
  |_,_=>.wall)=_
 show(if(nkv C).length<sizeLine then HFw.nx (nSt ws (some (.v (.s nm))) b c e f) (.d (dput (nkv C) (sk nm) (.g ((C.map λp=>lsC p.2).length+1)))::(C.map (λp=>lsC p.2)++[lsC []]))else .wall)=_;rw[if_pos (by rw[AX];exact a0i hl (by decide)),Jt (uO h),v0,Wy]
def g7(nd:(ws.map (·.nm)).Nodup)(hl:ws.length<=500):∀(us done:List Wk)(a b c e f:Option HV),done++us=ws->∃a' b' c' e' f',Kp vT vU ((us.map wkP).map .v) (nSt ws a b c e f) (ndG (chL done))=.nx (nSt ws a' b' c' e' f') (ndG (chL ws)):=by
 intro us
 induction us with
 |nil=>intro done a b c e f h;rw[P7]at h;subst h;exact⟨a,b,c,e,f,rfl⟩
 |cons w us ih=>
  intro done a b c e f h;have hn:w.nm∉(chL done).map (·.1):=λhq=>by rw[<- h,R4]at nd;exact(a0u.mp nd).2.2 _ (n6 hq) w.nm M3 rfl
  have ld:(chL done).length<=500:=by
   have:(chL done).length<=done.length:=by unfold chL;rw[v0];exact a0C _ _
   have:=T1 List.length h;rw[O1]at this;omega
  have t:hPT [false,false,false,true,true,true] (zT (mOp pGt (mOp zG (zc 3) (zh WS (zb (zc 5) zm))) (zc 4))) (nSt ws (some (.v (.s w.nm))) (some (.v (.i w.m))) (some (.v (.i w.d))) (some (.v (lsP w.ls))) f) (ndG (chL done))=.ok (need w) (ndG (chL done)):=
   vm rfl (zW (zl (zl rfl (z7 (xs:=[lsP w.ls]) rfl a_) rfl) rfl rfl))
  have happ:chL (done++[w])=chL done++chL [w]:=n4;cases hw:need w with
  |false=>
   rw[hw]at t;have e1:chL [w]=[]:=by unfold chL;rw[a0y,if_neg (by rw[hw];exact M6)];rfl
   rw[e1,P7]at happ;obtain⟨a',b',c',e',f',q⟩:=ih (done++[w]) (some (.v (.s w.nm))) (some (.v (.i w.m))) (some (.v (.i w.d))) (some (.v (lsP w.ls))) f (by rw[T7];exact h);rw[happ]at q;exact⟨a',b',c',e',f',(wy rfl (Ws t)).trans q⟩
  |true=>
   rw[hw]at t;have e1:chL [w]=[(w.nm,ntW w)]:=by unfold chL;rw[a0y,if_pos hw];rfl
   rw[e1]at happ;obtain⟨f1,q1⟩:=Ka (ws:=ws) (C:=chL done) (w:=w) hn (List.range 7) [] f (by decide);obtain⟨a',b',c',e',f',q⟩:=ih (done++[w]) (some (.v (.s w.nm))) (some (.v (.i w.m))) (some (.v (.i w.d))) (some (.v (lsP w.ls))) f1 (by rw[T7];exact h);rw[happ]at q;exact⟨a',b',c',e',f',(wy rfl ((bN t).trans (zA (oj hn (by omega)) (U2 rfl (DT rfl) q1)))).trans q⟩
def uP{G:AH}{n:Nat}:∀{l:Ht},c_ (WR G (n+1)) ((l.map nI).map .v)=some (l.map nI)
 |[]=>rfl
 |k::l=>by show((WR G (n+1) (.v (nI k))).bind λy=>(c_ (WR G (n+1)) ((l.map nI).map .v)).map (y::·))=_;rw[uP];rfl
def uQ{G:AH}{n:Nat}:∀{D:Ch}{k:Nat},(∀i (h:i<D.length),G[k+i+1]?=some (lsC D[i].2))->de (WR G (n+2)) ((D.zipIdx k).map λq=>(sk q.1.1,HV.g (q.2+1)))=some (chP D)
 |[],k,_=>rfl
 |p::D,k,h=>by
  have h0:=h 0 (Nat.zero_lt_succ _);show((WR G (n+2) (.g (k+1))).bind λy=>(de (WR G (n+2)) ((D.zipIdx (k+1)).map λq=>(sk q.1.1,HV.g (q.2+1)))).map ((sk p.1,y)::·))=_;rw[uQ (D:=D) (k:=k+1) λi hi=>by have:=h (i+1) (a2k hi);rw[show k+1+i+1=k+(i+1)+1 by omega];exact this];have:WR G (n+2) (.g (k+1))=some (ntP p.2):=by unfold WR;rw[show G[k+1]?=some (lsC p.2)from h0];show(c_ (WR G (n+1)) ((p.2.map nI).map .v)).map PV.l=_;rw[uP];rfl
  rw[this];rfl
def om(nd:(ws.map (·.nm)).Nodup)(hl:ws.length<=500):∃X,qP [.v (wsP ws)] []=.ok (.g 0) X/\WR X 8 (.g 0)=some (.d (chP (chL ws))):=by
 obtain⟨a',b',c',e',f',q⟩:=g7 nd hl ws [] none none none none none rfl;refine⟨ndG (chL ws),?_,?_⟩
 .have s1:wo 1 (hF [] c6) [some (.v (wsP ws)),none,none,none,none,none,none] []=.nx (nSt ws none none none none none) (ndG (chL [])):=rfl;have s2:Uz [true] (qy (zc 0)) vT vU (nSt ws none none none none none) (ndG (chL []))=_:=U2 rfl (qa rfl) q;unfold qP dh;rw[show Yj ([HV.v (wsP ws)].map some++List.replicate (7-[HV.v (wsP ws)].length) none) []=.rt (.g 0) (ndG (chL ws))from zA s1 (zA s2 rfl)]
 .unfold WR;show(de (WR (ndG (chL ws)) 7) (nkv (chL ws))).map PV.d=_;unfold nkv;rw[uQ (k:=0) (n:=5) λi h=>by
   show(ndG (chL ws))[0+i+1]?=_;unfold ndG;rw[R7,Nat.zero_add,O2,N4 h];rfl]
  rfl
end
def Vw(h:p ρ G=.exc c fs G'):vp p q ρ G=.exc c fs G':=by unfold vp;rw[h]
def Vx(h:m ρ G=.ok x G'):Q8 m ρ G=.nx ρ G':=by unfold Q8;rw[h];rfl
def Jv(h:m ρ G=.exc c fs G'):Q8 m ρ G=.exc c fs G':=by unfold Q8;rw[h];rfl
def fQ(h0:Vn bs ρ=some r)(h2:m r=.exc c fs):hP bs m ρ G=.exc c fs G:=by unfold hP;rw[h0];dsimp only;rw[h2]
def QO(h:hm (xs.map some++List.replicate (n-xs.length) none) G=.rt x G'):dh n hm xs G=.ok x G':=by unfold dh;rw[h]
def Vy(h:hm (xs.map some++List.replicate (n-xs.length) none) G=.exc c fs G'):dh n hm xs G=.exc c fs G':=by unfold dh;rw[h]
def Zm(h:ms ρ G=.ok xs G)(h2:f xs G=o):ZO f ms ρ G=o:=by unfold ZO;rw[h];exact h2
def Hq:WQ G bs []=some []:=by cases bs<;>rfl
def GJ(h:WQ G bs ρ=some r):WQ G (false::bs) (a::ρ)=some (none::r):=by show(WQ G bs ρ).map _=_;rw[h];rfl
def GK(hx:sres G x=some y)(h:WQ G bs ρ=some r):WQ G (true::bs) (some x::ρ)=some (some y::r):=by show(sres G x).bind _=_;rw[hx,h];rfl
def uR:∀{kvs:HZ},fj (vK kvs)=some kvs
 |[]=>rfl
 | (k,x)::kvs=>by show(fj (vK kvs)).map ((k,x)::·)=_;rw[uR];rfl
def sH:∀{acc:HZ},((acc++es).map (·.1)).Nodup->es.foldl (λacc kv=>dput acc kv.1 kv.2) acc=acc++es:=by
 induction es with
 |nil=>intro acc _;rw[P7];rfl
 |cons e es ih=>
  intro acc h;have h1:e.1∉acc.map (·.1):=λq=>by rw[R4]at h;exact(a0u.mp h).2.2 _ q e.1 M3 rfl
  rw[a1z,Jt h1,ih (by rw[T7];exact h),T7];rfl
def fR:∀{us:List Wk}{P:Hx},dvL P us=none->(∀w∈us,Zk w.nm=true/\w.nm∉P/\dvN w=none)/\(us.map (·.nm)).Nodup
 |[],P,_=>⟨nofun,a1N⟩
 |w::us,P,h=>by
  unfold dvL at h;by_cases c1:Zk w.nm=false
  .rw[if_pos c1]at h;cases h
  .rw[if_neg c1]at h;by_cases c2:w.nm∈P
   .rw[if_pos c2]at h;cases h
   .rw[if_neg c2]at h;cases hn:dvN w with
    |some v=>rw[hn]at h;cases h
    |none=>
     rw[hn]at h;obtain⟨h1,h2⟩:=fR (us:=us) h;refine⟨λu hu=>?_,a0d.mpr ⟨λq=>?_,h2⟩⟩
     .rcases O0.mp hu with e|hu
      .rw[e];exact⟨by cases q:Zk w.nm with|true=>rfl|false=>exact absurd q c1,c2,hn⟩
      .obtain⟨a1,a2,a3⟩:=h1 u hu;exact⟨a1,λq=>a2 (a0e _ q),a3⟩
     .obtain⟨u,hu,e⟩:=N6.mp q;exact(h1 u hu).2.1 (N9 _ (by rw[e];exact a2v _))
def bW:∀{ls:HY},il ls=none->∀x∈ls,0<=x
 |[],_,x,h=>by cases h
 |y::ls,h,x,hx=>by
  unfold il at h;by_cases c:y<0\/1000000000<y
  .rw[if_pos c]at h;cases h
  .rw[if_neg c]at h;rcases O0.mp hx with e|hx
   .rw[e];omega
   .exact bW h x hx
def sI(h:dvN w=none):∀x∈w.ls,0<=x:=by
 unfold dvN at h;by_cases c:w.m<0\/1000000000<w.m
 .rw[if_pos c]at h;cases h
 .rw[if_neg c]at h;by_cases c2:w.d<1\/w.d>1000000000
  .rw[if_pos c2]at h;cases h
  .rw[if_neg c2]at h;exact bW h
structure Bu(ws:List Wk):Prop where
 l:ws.length<=40
 nd:(ws.map (·.nm)).Nodup
 z:∀w∈ws,w.nm.length<=12
 nn:∀w∈ws,∀x∈w.ls,0<=x
def U3(h:dv ws=none):Bu ws:=by
 unfold dv at h;by_cases c:40<ws.length
 .rw[if_pos c]at h;cases h
 .rw[if_neg c]at h;obtain⟨h1,h2⟩:=fR h;exact⟨by omega,h2,λw hw=>(Ay (h1 w hw).1).1.2,λw hw=>sI (h1 w hw).2.2⟩
def U4:∀{C:Ch},noN C=none->∀p∈C,p.2≠[]
 |[],_,p,h=>by cases h
 |q::C,h,p,hp=>by
  unfold noN at h;cases e:q.2.isEmpty with
  |true=>rw[e,if_pos rfl]at h;cases h
  |false=>
   rw[e,if_neg M6]at h;rcases O0.mp hp with e2|hp
   .rw[e2];intro e3;rw[e3]at e;cases e
   .exact U4 h p hp
def Bu.win{ws:List Wk}(f:Bu ws)(h:noN (chL ws)=none):Win (chL ws)where
 nd:=n5 f.nd
 ne:=U4 h
 iv:=λp hp k=>by have hne:=U4 h p hp;unfold chL at hp;obtain⟨w,hw,rfl⟩:=N6.mp hp;exact DY (f.nn w (a0n.mp hw).1) hne
 six:=λp hp k hk=>by unfold chL at hp;obtain⟨w,hw,rfl⟩:=N6.mp hp;have:=(fJ.mp hk).1;omega
def oq:(chL ws).length<=ws.length:=by unfold chL;rw[v0];exact a0C _ _
section
variable {ws:List Wk}{G:AH}{b:Nat}
def tlP(ws:List Wk)(T:Ii):List (Key×PV):=ws.map λw=>(sk w.nm,(qV (tdP T) (sk w.nm)).getD .n)
def fS:(tlP ws T).map (·.1)=(ws.map (·.nm)).map sk:=by unfold tlP;rw[P8,P8];rfl
def ot{g:Wk->PV}:∀{us:List Wk},xZ (us.map λw=>.t [.s w.nm,g w])=some (us.map λw=>(sk w.nm,g w))
 |[]=>rfl
 |w::us=>by show(xZ (us.map λw=>.t [.s w.nm,g w])).map ((sk w.nm,g w)::·)=_;rw[ot (us:=us)];rfl
abbrev cSt(ws:List Wk)(b:Int)(c t:Option HV):wJ:=[some (.v (wsP ws)),some (.v (.i b)),c,t]
def sJ{b:Int}(hz:∀w∈ws,w.nm.length<=1000)(h:dv ws=some r):vY [.v (wsP ws),.v (.i b)] G=.exc (rE r).1 (rE r).2 G:=
 Vy (Vw (Jv (fQ rfl (Yt (xs:=[wsP ws]) rfl ((Vv hz).2 r h)))))
def fT{b:Int}(hz:∀w∈ws,w.nm.length<=1000)(h:dv ws=none):Q8 (hP [true] (zh zL (zb (zc 0) zm))) (cSt ws b c t) G=.nx (cSt ws b c t) G:=
 Vx (bO rfl (z7 (xs:=[wsP ws]) rfl ((Vv hz).1 h)))
def sL{b:Int}(hz:∀w∈ws,w.nm.length<=1000)(h:dv ws=none)(hb:oob b):vY [.v (wsP ws),.v (.i b)] G=.exc 2 [("value",.i b)] G:=
 Vy (zA (fT (c:=none) (t:=none) hz h) (Vw (Jv (fQ rfl (Yt (xs:=[.i b,.i 0]) rfl (Wt hb))))))
def Kb(h:dv ws=none)(hb:b<=1000000000)(ho:q (cSt ws b (some (.v (.d (chP (chL ws))))) none) G=o):vp (Q8 (hP [true] (zh zL (zb (zc 0) zm)))) (vp (Q8 (hP [false,true] (zh zt (zb (zc 1) (zb (mC (.i 0)) zm))))) (vp (wo 2 (hP [true] (zh z6 (zb (zc 0) zm)))) q)) (cSt ws b none none) G=o:=by have f:=U3 h;have hz:∀w∈ws,w.nm.length<=1000:=λw hw=>O8 (f.z w hw) (by decide);refine zA (fT hz h) (zA (Vx (bO rfl (z7 (xs:=[nI b,.i 0]) rfl (Wu ?_)))) (zA (vZ (bO rfl (z7 (xs:=[wsP ws]) rfl (so f.nd (by have:=f.l;omega))))) ho));unfold oob;omega
def AY(h:dv ws=none)(hb:b<=1000000000)(hn:noN (chL ws)=some z):vY [.v (wsP ws),.v (nI b)] G=.exc 5 [("name",.s z)] G:=by have e:=bU (n5 (U3 h).nd);rw[hn]at e;exact Vy (Kb h hb (Vw (Jv (fQ rfl (Yt (xs:=[.d (chP (chL ws))]) rfl e)))))
def AZ(h:dv ws=none)(hb:b<=1000000000)(hn:noN (chL ws)=none)(hG:Rdy G):((∀f l,f<=l->l<=6->¬Crd (chL ws) b f l)/\∃G',Rdy G'/\vY [.v (wsP ws),.v (nI b)] G=.ok (.v (.d (tlP ws (Tn (chL ws) b 7)))) G')\/∃f l,f<=l/\l<=6/\Crd (chL ws) b f l/\vY [.v (wsP ws),.v (nI b)] G=.exc 6 (crX (chL ws) f l) G:=by
 have fn:=U3 h;have w:=fn.win hn;have hl:(chL ws).length<=40:=O8 oq fn.l;have e:=bU w.nd;rw[hn]at e;have s4:Q8 (hP [false,false,true] (zh yH (zb (zc 2) zm))) (cSt ws b (some (.v (.d (chP (chL ws))))) none) G=_:=Vx (bO rfl (z7 (xs:=[.d (chP (chL ws))]) rfl e));rcases n_ (b:=b) w.nd w.ne (by omega)with⟨nc,ec⟩|⟨f,l,h1,h2,h3,ec⟩
 .refine .inl ⟨nc,?_⟩;obtain⟨G',es,r',t'⟩:=sF (b:=b) w hl hG;have s5:Q8 (hP [false,true,true] (zh ym (zb (zc 2) (zb (zc 1) zm)))) (cSt ws b (some (.v (.d (chP (chL ws))))) none) G=_:=Vx (bO rfl (z7 (xs:=[.d (chP (chL ws)),nI b]) rfl ec));have s6:wo 3 (ZO Jn (yo (jt 2) (yo (jt 1) Ko))) (cSt ws b (some (.v (.d (chP (chL ws))))) none) G=.nx (cSt ws b (some (.v (.d (chP (chL ws))))) (some (.g G.length))) G':=vZ (Zm (xs:=[.v (.d (chP (chL ws))),.v (nI b)]) rfl es);refine⟨G',r',QO (Kb h hb (zA s4 (zA s5 (zA s6 (J9 ?_)))))⟩;have sx:WQ G' [true,false,false,true] (cSt ws b (some (.v (.d (chP (chL ws))))) (some (.g G.length)))=some [some (wsP ws),none,none,some (.d (tdP (Tn (chL ws) b 7)))]:=GK rfl (GJ (GJ (GK (by
   show(G'[G.length]?).bind x_=_;rw[t'];show(fj (vK (tdP (Tn (chL ws) b 7)))).map PV.d=_;rw[uR];rfl) Hq)))
  have e2:=Qw (g:=bE) (e:=bF) wkP (λw=>.t [.s w.nm,(qV (tdP (Tn (chL ws) b 7)) (sk w.nm)).getD .n]) (λρ=>∃a b' c d,ρ=[a,b',c,d,some (.d (tdP (Tn (chL ws) b 7)))]) ws [none,none,none,none,some (.d (tdP (Tn (chL ws) b 7)))] ⟨_,_,_,_,rfl⟩ (λw hw ρ ⟨_,_,_,_,ez⟩=>by
   subst ez;exact⟨_,rfl,⟨_,_,_,_,rfl⟩,UY (zJ rfl (zJ rfl rfl)) (P9 rfl)⟩) (by have:=fn.l;omega)
  have ed:bg [.l (ws.map λw=>.t [.s w.nm,(qV (tdP (Tn (chL ws) b 7)) (sk w.nm)).getD .n])]=.ok (.d (tlP ws (Tn (chL ws) b 7))):=by show ZM ((xZ (ws.map λw=>.t [.s w.nm,(qV (tdP (Tn (chL ws) b 7)) (sk w.nm)).getD .n])).map λes=>PV.d (fc es))=_;rw[ot];show Out.ok (PV.d (fc (tlP ws (Tn (chL ws) b 7))))=_;unfold fc;rw[sH (acc:=[]) (by rw[a1A,fS];exact sj fn.nd)];rfl
  unfold hW;rw[sx];dsimp only;rw[z7 (zJ (WU (qa rfl) e2) rfl) ed]
 .exact .inr ⟨f,l,h1,h2,h3,Vy (Kb h hb (zA s4 (Vw (Jv (fQ rfl (Yt (xs:=[.d (chP (chL ws)),nI b]) rfl ec))))))⟩
abbrev aSt(ws:List Wk)(b:PV)(t e:Option HV):wJ:=[some (.v (wsP ws)),some (.v b),t,e]
abbrev hBd:HMS:=Bt (hPT [false,true] (zT (mOp (oQ false) (zc 1) (mC .n)))) (wo 2 (hP [true] (eX zL (zb (zc 0) zm)))) (wo 2 (ft vY (yo (jt 0) (yo (jt 1) Ko))))
def uS{b x:PV}{G':AH}(h:hBd (aSt ws b (some (.v .n)) none) G=.nx (aSt ws b (some (.v x)) none) G'):zR [.v (wsP ws),.v b] G=.ok (.v (.t [.t [.s "right"],x])) G':=by refine QO (zA (show wo 2 (hP [] (mC .n)) (aSt ws b none none) G=.nx (aSt ws b (some (.v .n)) none) G from rfl) (zA (ρ':=aSt ws b (some (.v x)) none) (G':=G') ?_ rfl));unfold Dv rH;rw[show(Bt _ _ _ (aSt ws b (some (.v .n)) none) G)=_ from h]
def Wz{b:PV}{c:Nat}{fs:Ic}{w:PV}(h:hBd (aSt ws b (some (.v .n)) none) G=.exc c fs G)(hc:c∈[1,2,3,4,5,6])(hw:zP [.x c fs]=.ok w):zR [.v (wsP ws),.v b] G=.ok (.v (.t [w,.n])) G:=by
 refine QO (zA (show wo 2 (hP [] (mC .n)) (aSt ws b none none) G=.nx (aSt ws b (some (.v .n)) none) G from rfl) (dD ?_));have e:V0 (hP [false,false,false,true] (wD (zb (ba zP (zb (zc 3) zm)) (zb (mC .n) zm)))) (aSt ws b (some (.v .n)) (some (.v (.x c fs)))) G=.rt (.v (.t [w,.n])) G:=by refine J9 (bO (r:=[none,none,none,some (.x c fs)]) rfl (UY (zJ ?_ (zJ rfl rfl)) (P9 rfl)));show C5 (zP [.x c fs]) Out.ok=_;rw[hw];rfl
 unfold Dv rH;rw[show(Bt _ _ _ (aSt ws b (some (.v .n)) none) G)=_ from h];dsimp only;rw[if_pos hc];show(match V0 (hP [false,false,false,true] (wD (zb (ba zP (zb (zc 3) zm)) (zb (mC .n) zm)))) (aSt ws b (some (.v .n)) (some (.v (.x c fs)))) G with | .rt x G2=>HFw.rt x G2|_=>.wall)=_;rw[e]
def Ek:∀{r:Rf},(rE r).1∈[1,2,3,4,5,6]
 |.bad _=>(by decide:1∈[1,2,3,4,5,6])
 |.num _=>(by decide:2∈[1,2,3,4,5,6])
 |.many=>(by decide:3∈[1,2,3,4,5,6])
 |.two _=>(by decide:4∈[1,2,3,4,5,6])
def GL:hBd (aSt ws .n (some (.v .n)) none) G=(match zL [wsP ws]with | .ok x=>HX.ok (HV.v x) G | .exc c fs=>.exc c fs G | .wall=>.wall).fw λx G1=>.nx (aSt ws .n (some x) none) G1:=rfl
def F7(h:zL [wsP ws]=.ok x):hBd (aSt ws .n (some (.v .n)) none) G=.nx (aSt ws .n (some (.v x)) none) G:=by rw[GL,h];rfl
def El(h:zL [wsP ws]=.exc c fs):hBd (aSt ws .n (some (.v .n)) none) G=.exc c fs G:=by rw[GL,h];rfl
def Em{b:Int}(h:vY [.v (wsP ws),.v (.i b)] G=o):hBd (aSt ws (.i b) (some (.v .n)) none) G=o.fw λx G1=>.nx (aSt ws (.i b) (some x) none) G1:=by show(vY [.v (wsP ws),.v (.i b)] G).fw _=_;rw[h];rfl
def A4(hz:∀w∈ws,w.nm.length<=1000):zR [.v (wsP ws),.v .n] G=.ok (.v (.t [rW (dv ws),.n])) G:=by
 cases h:dv ws with
 |none=>exact uS (F7 ((Vv hz).1 h))
 |some r=>exact Wz (El ((Vv hz).2 r h)) Ek uN
def ou{b:Int}(hz:∀w∈ws,w.nm.length<=1000)(h:dv ws=some r):zR [.v (wsP ws),.v (.i b)] G=.ok (.v (.t [rW (some r),.n])) G:=Wz (Em (sJ hz h)) Ek uN
def ow{b:Int}(hz:∀w∈ws,w.nm.length<=1000)(h:dv ws=none)(hb:oob b):zR [.v (wsP ws),.v (.i b)] G=.ok (.v (.t [.t [.s "number",.i b],.n])) G:=Wz (Em (sL hz h hb)) (by decide) AV
end
def sO{K:Hx}(hK:K.Nodup){k:Nat}(hk:k<K.length):K[k]∉K.take k:=λq=>by rw[<- a0B k K]at hK;exact(a0u.mp hK).2.2 _ q K[k] (by rw[a0s hk];exact M3) rfl
def Hr{N:Hx}{k:Nat}(h:k<N.length):pIx (.l (N.map .s)) (nI k)=.ok (.s N[k]):=by rw[r8 (by omega) (by rw[v0];omega),a0q];rfl
section
variable {C:Ch}{b f l:Nat}
def cw_mem(h:z∈cw C f l):∃p∈C,p.1=z/\f<=fst p.2/\lst p.2<=l:=by unfold cw at h;obtain⟨p,hp,e⟩:=N6.mp h;obtain⟨h1,h2⟩:=a0n.mp hp;rw[a0f,a0v,a0v]at h2;exact⟨p,h1,e,h2⟩
def cw_nd(nd:(C.map (·.1)).Nodup):(cw C f l).Nodup:=by unfold cw;exact nd.sublist (List.filter_sublist.map _)
abbrev wSt(C:Ch)(b f l:Nat)(K:Hx)(k:Ik):Sto:=[some (nI f),some (nI l),some (.l (K.map .s)),some (.d (chP C)),some (nI b),k]
def g8(nd:(C.map (·.1)).Nodup)(ne:∀p∈C,p.2≠[])(hk:k<(cw C f l).length):Zc (wSt C b f l (cw C f l) (some (nI k)))=.ok (.nx (wSt C b f l (cw C f l) (some (nI k)))):=by
 obtain⟨p,hp,e,h1,h2⟩:=cw_mem (a01 hk);have ek:mOp pIx (zc 2) (zc 5) (wSt C b f l (cw C f l) (some (nI k)))=.ok (.s (cw C f l)[k]):=zl rfl rfl (Hr hk);have ex:mOp pIx (zc 3) (mOp pIx (zc 2) (zc 5)) (wSt C b f l (cw C f l) (some (nI k)))=.ok (ntP p.2):=zl rfl ek (by rw[<- e];exact bS nd hp);have i1:pIn true (.s (cw C f l)[k]) (.d (chP C))=.ok (.b false):=by have:=AG (r:=sk p.1) (kvs:=chP C);rw[nZ nd hp]at this;rw[<- e];exact this
 have i2:pIn false (.s (cw C f l)[k]) (.l (((cw C f l).take k).map .s))=.ok (.b false):=by rw[D4,L7 (sO (cw_nd nd) hk)];rfl
 have sl:mSl pSl (zc 2) cY (wF (zc 5)) (wSt C b f l (cw C f l) (some (nI k)))=.ok (.l (((cw C f l).take k).map .s)):=by show Out.ok (PV.l (cf ((cw C f l).map PV.s) none (some (k:Int))))=_;rw[Ec,a1X]
 refine zf ⟨_,(qB (x:=false) (YW (x:=false) (y:=false) (zW (zl ek rfl i1)) (zW (zl ek sl i2)))).trans rfl,?_⟩;refine(qB (x:=false) (YW (x:=false) (y:=false) (zW (zl (zl ex rfl (uF (ne p hp))) rfl ?_)) (zW (zl (zl ex rfl (n8 (ne p hp))) rfl ?_)))).trans rfl
 .show Out.ok (PV.b (decide ((fst p.2:Int)<(f:Int))))=_;rw[L7 (by omega)]
 .show Out.ok (PV.b (decide ((lst p.2:Int)>(l:Int))))=_;rw[L7 (by omega)]
def sP(nd:(C.map (·.1)).Nodup)(ne:∀p∈C,p.2≠[])(hl:C.length<=1000)(h1:f<=l)(h2:l<=6)(hc:Crd C b f l):jK [nI f,nI l,.l ((cw C f l).map .s),.d (chP C),nI b]=.ok (.b true):=by
 have loop:∀(ks:Ht)(o:Ik),(∀k∈ks,k<(cw C f l).length)->∃o',km Jk Zc (ks.map nI) (wSt C b f l (cw C f l) o)=.ok (.nx (wSt C b f l (cw C f l) o')):=by
  intro ks
  induction ks with
  |nil=>exact λo _=>⟨o,rfl⟩
  |cons k ks ih=>intro o hk;obtain⟨o',q⟩:=ih (some (nI k)) λj hj=>hk j (L9 _ hj);exact⟨o',(yQ rfl (g8 nd ne (hk k M3))).trans q⟩
 have hlen:(cw C f l).length<=C.length:=by unfold cw;rw[v0];exact a0C _ _
 have el:wg [.l ((cw C f l).map .s)]=.ok (nI (cw C f l).length):=by show Out.ok (PV.i (((cw C f l).map PV.s).length:Int))=_;rw[v0]
 have t1:sIf (mOr (gG (zT (zh yE (zb (zc 0) zm)))) (mOr (gG (zT (zh yE (zb (zc 1) zm)))) (gG (zT (mUn (eU [(.list,true)]) (zc 2)))))) (kA (mC (.b false))) zY (wSt C b f l (cw C f l) none)=.ok (.nx (wSt C b f l (cw C f l) none)):=rfl;have t2:sIf (mOr (zT (mOp pLt (zc 0) (mC (.i 0)))) (mOr (zT (mOp pLt (zc 1) (zc 0))) (mOr (zT (mOp pGt (zc 1) (mC (.i 6)))) (zT (mOp pLe (zh wg (zb (zc 2) zm)) (mOp qe (zc 4) (mOp zG (mOp cN (zc 1) (zc 0)) (mC (.i 1))))))))) (kA (mC (.b false))) zY (wSt C b f l (cw C f l) none)=.ok (.nx (wSt C b f l (cw C f l) none)):=by
  refine(qB (x:=false) (YW (x:=false) (y:=false) ((nR (x:=(f:Int)) rfl).trans (by rw[L7 (by omega)])) (YW (x:=false) (y:=false) (zW (zl (x:=nI l) (y:=nI f) rfl rfl ?_)) (YW (x:=false) (y:=false) ((Ys (x:=(l:Int)) rfl).trans (by rw[L7 (by omega)])) (zW (zl (z7 (xs:=[.l ((cw C f l).map .s)]) rfl el) (zl rfl (zl (zl rfl rfl rfl) rfl rfl) (tX (by omega) (by omega))) ?_)))))).trans rfl
  .show Out.ok (PV.b (decide ((l:Int)<(f:Int))))=_;rw[L7 (by omega)]
  .show Out.ok (PV.b (decide (((cw C f l).length:Int)<=(b:Int)*((l:Int)-(f:Int)+1))))=_;rw[show(l:Int)-(f:Int)+1=((l-f+1:Nat):Int) by omega,<- Int.natCast_mul,L7 (λq=>Nat.not_le_of_lt hc (a2r.mp q))]
 obtain⟨o',q⟩:=loop (List.range (cw C f l).length) none λk hk=>S5.mp hk;refine yV (zf ⟨_,t1,zf ⟨_,t2,zf ⟨_,qL ?_ q,rfl⟩⟩⟩);rw[Qx (n:=((cw C f l).length:Int)) (by exact zJ (z7 (xs:=[.l ((cw C f l).map .s)]) rfl el) rfl) (by omega) (by omega),W1];exact T1 Out.ok YJ
end
section
variable {C:Ch}{b:Nat}{ws us:List Wk}{T:Ii}{w:Wk}
def A5:qV (tdP T) (sk z)=(qV T z).map nI:=by
 unfold tdP
 induction T with
 |nil=>rfl
 |cons p T ih=>
  rw[O7,qY,qY];by_cases c:p.1=z
  .rw[if_pos c,if_pos (by rw[c])];rfl
  .rw[if_neg c,if_neg (λh=>c (a1i h)),ih]
def cnt(T:Ii)(us:List Wk)(n:Nat):Nat:=(us.filter λw=>qV T w.nm==some n).length
def tkn(T:Ii)(us:List Wk):List Int:=(List.range 7).map λn=>(cnt T us n:Int)
def oy:cnt T (us++[w]) n=cnt T us n+if qV T w.nm=some n then 1 else 0:=by
 unfold cnt;rw[a25,O1];congr 1;rw[a0y,List.filter_nil];by_cases c:qV T w.nm=some n
 .rw[if_pos c,if_pos (R9.mpr c)];rfl
 .rw[if_neg c,if_neg (λh=>c (R9.mp h))];rfl
def WA:(tkn T us).length=7:=by unfold tkn;rw[v0,S9]
def dG(hn:n<7):(tkn T us)[n]?=some (cnt T us n:Int):=by unfold tkn;rw[O2,List.getElem?_range hn];rfl
def sQ(h:qV T w.nm=some n)(hn:n<7):(tkn T us).set n ((cnt T us n:Int)+1)=tkn T (us++[w]):=by
 refine List.ext_getElem? λi=>?_;by_cases hi:i<7
 .rw[dG hi,oy,h];by_cases c:n=i
  .subst c;rw[O9 (by rw[WA];exact hn),if_pos rfl];rfl
  .rw[O6 c,dG hi,if_neg (λe=>c (S7 e))];rfl
 .rw[a1x (by rw[S4,WA];omega),a1x (by rw[WA];omega)]
def sR(h:qV T w.nm=none):tkn T (us++[w])=tkn T us:=by unfold tkn;refine a0N λn _=>?_;rw[oy,h,if_neg nofun,Nat.add_zero]
def Tld(C:Ch)(T:Ii)(w:Wk):Prop:=(w.nm∉C.map (·.1)/\qV T w.nm=none)\/∃n l,n<7/\(w.nm,l)∈C/\n∈l/\qV T w.nm=some n
abbrev tSt(ws:List Wk)(C:Ch)(b:Nat)(T:Ii)(t o:Ik):Sto:=[some (.d (tlP ws T)),some (wsP ws),some (.d (chP C)),some (nI b),t,o]
def F8(nd:(ws.map (·.nm)).Nodup)(hw:w∈ws):pIx (.d (tlP ws T)) (.s w.nm)=.ok (((qV T w.nm).map nI).getD .n):=by have h:qV (tlP ws T) (sk w.nm)=some ((qV (tdP T) (sk w.nm)).getD .n):=ju (by rw[fS];exact sj nd) (by unfold tlP;exact N6.mpr ⟨w,hw,rfl⟩);have:=DZ (r:=sk w.nm) (kvs:=tlP ws T);rw[h,A5]at this;exact this
def sS(nd:(ws.map (·.nm)).Nodup)(ndC:(C.map (·.1)).Nodup)(hw:w∈ws)(h:Tld C T w):Zd (tSt ws C b T (some (.l ((tkn T us).map .i))) (some (.s w.nm)))=.ok (.nx (tSt ws C b T (some (.l ((tkn T (us++[w])).map .i))) (some (.s w.nm)))):=by
 have et:mOp pIx (zc 0) (zc 5) (tSt ws C b T (some (.l ((tkn T us).map .i))) (some (.s w.nm)))=_:=zl rfl rfl (F8 nd hw);have ei:=AG (r:=sk w.nm) (kvs:=chP C);rcases h with⟨h1,h2⟩|⟨n,l,hn,h1,h2,h3⟩
 .rw[AI h1]at ei;rw[h2]at et;rw[sR h2];exact((qB (x:=true) (zW (zl (x:=.s w.nm) rfl rfl ei))).trans (if_pos rfl)).trans ((qB (x:=false) (zW (zl et rfl rfl))).trans rfl)
 .rw[nZ ndC h1]at ei;rw[h3]at et;refine((qB (x:=false) (zW (zl (x:=.s w.nm) rfl rfl ei))).trans (if_neg M6)).trans ?_;have i2:pIn true (nI n) (ntP l)=.ok (.b false):=by rw[Ea,L8 h2];rfl
  refine((qB (x:=false) (YW (x:=false) (y:=false) (DN (x:=true) (zW (z7 (xs:=[nI n]) (zJ et rfl) rfl))) (zW (zl et (zl rfl rfl (bS ndC h1)) i2)))).trans (if_neg M6)).trans ?_;have e4:mOp zG (mOp pIx (zc 4) (mOp pIx (zc 0) (zc 5))) (mC (.i 1)) (tSt ws C b T (some (.l ((tkn T us).map .i))) (some (.s w.nm)))=.ok (.i ((cnt T us n:Int)+1)):=by refine zl (x:=.i (cnt T us n:Int)) (zl rfl et ?_) rfl rfl;show pIx (.l ((tkn T us).map .i)) (nI n)=.ok (.i (cnt T us n:Int));rw[C2,a7 (by omega),W1,O2,dG hn];rfl
  unfold Ui;rw[e4,okb];show(mOp pIx (zc 0) (zc 5) (tSt ws C b T (some (.l ((tkn T us).map .i))) (some (.s w.nm)))).bind _=_;rw[et,okb];show(match ixN ((tkn T us).map PV.i).length (n:Int)with|some j=>Out.ok (Fw.nx (tSt ws C b T (some (.l (((tkn T us).map PV.i).set j (.i ((cnt T us n:Int)+1))))) (some (.s w.nm))))|none=>.wall)=_;rw[v0,WA,tO (by omega) (by omega),W1];show Out.ok (Fw.nx (tSt ws C b T (some (.l (((tkn T us).map PV.i).set n (.i ((cnt T us n:Int)+1))))) (some (.s w.nm))))=_;rw[<- sQ h3 hn,a26]
def fU(nd:(ws.map (·.nm)).Nodup)(ndC:(C.map (·.1)).Nodup)(h:∀w∈ws,Tld C T w):∀(vs us:List Wk)(o:Ik),us++vs=ws->∃o',km Jl Zd (vs.map λw=>.s w.nm) (tSt ws C b T (some (.l ((tkn T us).map .i))) o)=.ok (.nx (tSt ws C b T (some (.l ((tkn T ws).map .i))) o'))
 |[],us,o,e=>⟨o,by rw[P7]at e;subst e;rfl⟩
 |w::vs,us,o,e=>by
  have hw:w∈ws:=by rw[<- e];exact N9 _ M3
  obtain⟨o',q⟩:=fU nd ndC h vs (us++[w]) (some (.s w.nm)) (by rw[T7];exact e);exact⟨o',(yQ rfl (sS nd ndC hw (h w hw))).trans q⟩
def fV{g:Wk->PV}:∀{us:List Wk},dk (us.map λw=>(sk w.nm,g w))=some (us.map (·.nm))
 |[]=>rfl
 |w::us=>by show(dk (us.map λw=>(sk w.nm,g w))).map (w.nm::·)=_;rw[fV (us:=us)];rfl
def sT(nd:(ws.map (·.nm)).Nodup)(ndC:(C.map (·.1)).Nodup)(hl:ws.length<=40)(h:∀w∈ws,Tld C T w)(hb:∀n,n<7->cnt T ws n<=b):jL [.d (tlP ws T),wsP ws,.d (chP C),nI b]=.ok (.b true):=by
 have s1:Xx [.d (tlP ws T)]=.ok (.l ((vt (ws.map (·.nm))).map .s)):=by show(match dk (tlP ws T)with|some ss=>if ss.length<64 then Out.ok (PV.l ((vt ss).map .s))else .wall|none=>.wall)=_;unfold tlP;rw[fV];exact if_pos (by rw[v0];omega)
 have s2:V3 [.l ((ws.map (·.nm)).map .s)]=.ok (.l ((vt (ws.map (·.nm))).map .s)):=by show(match Ab ((ws.map (·.nm)).map .s)with|some ss=>if ss.length<64 then Out.ok (PV.l ((vt ss).map .s))else .wall|none=>.wall)=_;rw[fo];exact if_pos (by rw[v0];omega)
 have e2:=Qw (g:=vW) (e:=vX) wkP (λw=>.s w.nm) (λρ=>∃z,ρ=[z]) ws [none] ⟨_,rfl⟩ (λw hw ρ ⟨_,ez⟩=>by subst ez;exact⟨_,rfl,⟨_,rfl⟩,rfl⟩) (by omega);have eq:qK true (.l ((vt (ws.map (·.nm))).map .s)) (.l ((vt (ws.map (·.nm))).map .s))=.ok (.b false):=by rw[C4,wm];rfl
 have t1:sIf (mOr (gG (zT (mUn (eU [(.dict,true)]) (zc 0)))) (zT (mOp (qK true) (zh Xx (zb (zc 0) zm)) (zh V3 (zb (mLC (qy (zc 1)) [none] vW Y1 vX) zm))))) (kA (mC (.b false))) zY (tSt ws C b T none none)=.ok (.nx (tSt ws C b T none none)):=by refine(qB (x:=false) (YW (x:=false) (y:=false) rfl (zW (zl (z7 (xs:=[.d (tlP ws T)]) rfl s1) (z7 (xs:=[.l ((ws.map (·.nm)).map .s)]) (zJ (WU (qa rfl) ?_) rfl) s2) eq)))).trans rfl;rw[P8];exact e2
 obtain⟨o',q⟩:=fU (b:=b) nd ndC h ws [] none rfl;have kk:qf 0 (tSt ws C b T (some (.l ((tkn T []).map .i))) none)=.ok (ws.map λw=>.s w.nm):=by show Out.ok ((tlP ws T).map λkx=>kP kx.1)=_;unfold tlP;rw[P8];rfl
 have ne:tkn T ws≠[]:=λe=>by have:=WA (T:=T) (us:=ws);rw[e]at this;cases this
 refine yV (zf ⟨_,t1,zf ⟨tSt ws C b T (some (.l ((tkn T []).map .i))) none,rfl,zf ⟨_,qL kk q,bM (zl (z7 (xs:=[.l ((tkn T ws).map .i)]) rfl (FD ne)) rfl ?_)⟩⟩⟩);show Out.ok (PV.b (decide (ie (tkn T ws)<=(b:Int))))=_;rw[L8];have:=Uh ne;generalize ie (tkn T ws)=x at this;unfold tkn at this;obtain⟨n,hn,e⟩:=N6.mp this;have:=hb n (S5.mp hn);omega
def Bu.told(f:Bu ws)(h:noN (chL ws)=none)(nc:∀f l,f<=l->l<=6->¬Crd (chL ws) b f l):∀w∈ws,Tld (chL ws) (Tn (chL ws) b 7) w:=λw hw=>by
 have W:=f.win h;by_cases c:w.nm∈(chL ws).map (·.1)
 .obtain⟨p,hp,ep⟩:=N6.mp c;have ht:=W.all nc hp;obtain⟨t,ht1,ht2⟩:=N6.mp ht;have hd:qV (Tn (chL ws) b 7) w.nm=some t.2:=ju (sA W.nd) (by
   rw[<- ep,<- show t.1=p.1 from ht2];exact ht1)
  obtain⟨hk,y,hy,ey⟩:=g6 (z:=t.1) (k:=t.2) ht1;obtain⟨y1,y2,y3⟩:=KD.mp (XJ hy);refine .inr ⟨t.2,y.2,hk,?_,y3,hd⟩;rw[<- ep,<- show t.1=p.1 from ht2,<- ey];exact y1
 .refine .inl ⟨c,?_⟩;cases e:qV (Tn (chL ws) b 7) w.nm with
  |none=>rfl
  |some n=>obtain⟨_,y,hy,ey⟩:=g6 (z:=w.nm) (k:=n) (Q_ e);exact absurd (N6.mpr ⟨y,(KD.mp (XJ hy)).1,ey⟩) c
def En(nd:(ws.map (·.nm)).Nodup):cnt (Tn C b 7) ws n<=b:=by
 have:((ws.filter λw=>qV (Tn C b 7) w.nm==some n).map (·.nm)).length<=((Pn C b n).map (·.1)).length:=Ju (nd.sublist (List.filter_sublist.map _)) λz hz=>by obtain⟨w,hw,e⟩:=N6.mp hz;have h2:=R9.mp (a0n.mp hw).2;obtain⟨_,y,hy,ey⟩:=g6 (z:=w.nm) (k:=n) (Q_ h2);exact N6.mpr ⟨y,hy,ey.trans e⟩
 rw[v0,v0]at this;exact O8 this D6
end
def A6(hg:g x ρ=some ρ1)(hb:b ρ1 G=.rt v G2):Kp g b (x::xs) ρ G=.rt v G2:=by
 show(match g x ρ with|none=>HFw.wall|some ρ1=>match b ρ1 G with
   |.nx ρ2 G2=>Kp g b xs ρ2 G2
   |.ct ρ2 G2=>Kp g b xs ρ2 G2
   |.bk ρ2 G2=>.nx ρ2 G2
   |.rt v G2=>.rt v G2
   |.exc c fs G2=>.exc c fs G2
   |.wall=>.wall)=_
 rw[hg];dsimp only;rw[hb]
section
variable {ws:List Wk}{b:Nat}{G G':AH}{C:Ch}
abbrev rSt(ws:List Wk)(b:Nat)(n w t o:Option HV):wJ:=[some (.v (wsP ws)),some (.v (nI b)),n,w,t,o]
def dH(f:Bu ws):wo 2 (bp qP (yo (jt 0) Ko)) (rSt ws b none none none none) G=.nx (rSt ws b (some (.v (.d (chP (chL ws))))) none none none) G:=by
 obtain⟨X,e1,e2⟩:=om f.nd (by have:=f.l;omega);refine vZ ?_;unfold bp;show(match qP [.v (wsP ws)] []with
  |.ok y X=>(match WR X 8 y with|some z=>HX.ok (HV.v z) G|none=>.wall)
  |.exc c fs _=>if oW fs=true then .exc c fs G else .wall
  |.wall=>.wall)=_
 rw[e1];dsimp only;rw[e2]
def oz(h:zR [.v (wsP ws),.v (nI b)] G=.ok (.v (.t [w,t])) G'):oX (hgT 2 (jX (hgN 3) (jX (hgN 4) bj))) (ZO zR (yo (jt 0) (yo (jt 1) Ko))) (rSt ws b n none none none) G=.nx (rSt ws b n (some (.v w)) (some (.v t)) none) G':=by unfold oX;rw[Zm (xs:=[.v (wsP ws),.v (nI b)]) rfl h];rfl
def eq_nil:qK false (ntP l) (.l [])=.ok (.b l.isEmpty):=by cases l<;>rfl
def Eo{l:Hx}:qK false (.t (l.map .s)) (.t (l.map .s))=.ok (.b true):=by rw[c7,wm];rfl
def YQ(nd:(C.map (·.1)).Nodup){w:PV}{t:Option HV}:∀(D:Ch)(o:Option HV),(∀p∈D,p∈C)->(noN D=none->∃o',Kp yI yJ (D.map λp=>.v (.s p.1)) (rSt ws b (some (.v (.d (chP C)))) (some (.v w)) t o) G=.nx (rSt ws b (some (.v (.d (chP C)))) (some (.v w)) t o') G)/\∀z,noN D=some z->w=.t [.s "night",.s z]->Kp yI yJ (D.map λp=>.v (.s p.1)) (rSt ws b (some (.v (.d (chP C)))) (some (.v w)) t o) G=.rt (.v (.b true)) G
 |[],o,_=>⟨λ_=>⟨o,rfl⟩,nofun⟩
 |p::D,o,hD=>by
  have ts:hPT [false,false,true,false,false,true] (zT (mOp (qK false) (mOp pIx (zc 2) (zc 5)) (Kl zm))) (rSt ws b (some (.v (.d (chP C)))) (some (.v w)) t (some (.v (.s p.1)))) G=.ok p.2.isEmpty G:=vm rfl (zW (zl (zl rfl rfl (bS nd (hD p M3))) rfl eq_nil));unfold noN;cases e:p.2.isEmpty with
  |true=>rw[if_pos rfl];rw[e]at ts;refine⟨nofun,λz hz hw=>?_⟩;cases hz;subst hw;refine A6 rfl ((bN ts).trans (J9 (bO rfl (zl rfl (y:=.t [.s "night",.s p.1]) rfl ?_))));exact Eo (l:=["night",p.1])
  |false=>rw[if_neg M6];rw[e]at ts;have fs:Kp yI yJ ((p::D).map λp=>.v (.s p.1)) (rSt ws b (some (.v (.d (chP C)))) (some (.v w)) t o) G=_:=wy rfl (Ws ts);rw[fs];exact YQ nd D _ λq hq=>hD q (L9 _ hq)
def dI(h:Kp yI yJ (C.map λp=>.v (.s p.1)) (rSt ws b (some (.v (.d (chP C)))) w t o) G=r):rl 2 yI yJ (rSt ws b (some (.v (.d (chP C)))) w t o) G=r:=by show Kp yI yJ (((chP C).map λkx=>kP kx.1).map .v) (rSt ws b (some (.v (.d (chP C)))) w t o) G=_;rw[<- h];unfold chP;rw[P8,P8];rfl
def U5(h:dv ws=none)(hb:b<=1000000000)(hG:Rdy G):∃G',Rdy G'/\yS [.v (wsP ws),.v (nI b)] G=.ok (.v (.b true)) G':=by
 have f:=U3 h;have ndC:=n5 f.nd;have lC:(chL ws).length<=40:=O8 oq f.l;cases hn:noN (chL ws)with
 |some z=>have ea:=Wz (Em (AY (G:=G) h hb hn)) (by decide) Eh;exact⟨G,hG,QO (zA (dH f) (zA (oz ea) (dD (dI ((YQ ndC (chL ws) none λp hp=>hp).2 z hn rfl)))))⟩
 |none=>
  have W:=f.win hn;rcases AZ h hb hn hG with⟨nc,G',r',e⟩|⟨f',l,h1,h2,h3,e⟩
  .have ea:=uS (Em e);obtain⟨o',q⟩:=(YQ (ws:=ws) (b:=b) (G:=G') (w:=.t [.s "right"]) (t:=some (.v (.d (tlP ws (Tn (chL ws) b 7))))) ndC (chL ws) none λp hp=>hp).1 hn;refine⟨G',r',QO (zA (dH f) (zA (oz ea) (zA (dI q) (zA ((Ws (vm rfl ?_)).trans rfl) (J9 (bO rfl (dC (x:=true) (y:=true) (zl rfl rfl ?_) (z7 (xs:=[.d (tlP ws (Tn (chL ws) b 7)),wsP ws,.d (chP (chL ws)),nI b]) rfl (sT f.nd ndC f.l (f.told hn nc) λn _=>En f.nd)))))))))⟩
   .exact(uB (x:="right") (n:=false) rfl).trans (by rw[L7 (by decide +kernel)];rfl)
   .exact Eo (l:=["right"])
  .have ea:=Wz (Em e) (by decide) Ei;obtain⟨o',q⟩:=(YQ (ws:=ws) (b:=b) (G:=G) (w:=.t [.s "crowded",nI f',nI l,.l ((cw (chL ws) f' l).map .s)]) (t:=some (.v .n)) ndC (chL ws) none λp hp=>hp).1 hn;refine⟨G,hG,QO (zA (dH f) (zA (oz ea) (zA (dI q) (dD ((bN (vm rfl ?_)).trans (J9 (bO rfl (z7 (xs:=[nI f',nI l,.l ((cw (chL ws) f' l).map .s),.d (chP (chL ws)),nI b]) rfl (sP ndC W.ne (by omega) h1 h2 h3)))))))))⟩;exact(uB (x:="crowded") (n:=false) rfl).trans (by rw[L8 rfl];rfl)
end
def fW:∀{L:HY},(∀x∈L,0<=x/\x<100000000)->0<=L.sum/\L.sum<=99999999*L.length
 |[],_=>⟨a1Q _,a1Q _⟩
 |a::L,h=>by obtain⟨h1,h2⟩:=fW λx hx=>h x (L9 _ hx);obtain⟨h3,h4⟩:=h a M3;rw[List.sum_cons,v4];refine⟨by omega,?_⟩;rw[Int.natCast_succ];omega
def oA:∀{L:HY},(∀x∈L,0<=x/\x<100000000)->il L=none
 |[],_=>rfl
 |a::L,h=>by unfold il;have:=h a M3;rw[if_neg (by omega)];exact oA λx hx=>h x (L9 _ hx)
def yz(h0:0<=k)(h1:k<=1000)(hm:0<m)(hv:zc 0 ρ=.ok (.sc ns))(ha:a ρ=.ok (.i k))(hb:b ρ=.ok (.i m)):∃x:Nat,(x:Int)<m/\zh zi (zb (zc 0) (zb a (zb b zm))) ρ=.ok (nI x):=by obtain⟨x,x0,x1,e⟩:=dE (ns:=ns) h0 h1 hm;obtain⟨x,rfl⟩:=a1f x0;exact⟨x,x1,z7 (zJ hv (zJ ha (zJ hb rfl))) e⟩
def fX{ρ:Sto}{m n:ME}{xs:HY}{x:Nat}(h:m ρ=.ok (.l (xs.map .i)))(h2:n ρ=.ok (nI x))(hx:x<xs.length):mOp pIx m n ρ=.ok (.i xs[x]):=by refine zl h h2 ?_;rw[r8 (by omega) (by rw[v0];omega),a0q];rfl
section
variable {ns:HY}{k:Nat}
abbrev kSt(ns:HY)(k:Nat)(s:Int)(L:HY)(j l m p w d:Ik):Sto:=[some (.sc ns),some (nI k),some (.i s),some (.l (L.map .i)),j,l,m,p,w,d]
abbrev Lok(L:HY):Prop:=∀x∈L,0<=x/\x<100000000
def XM(h:zc 1 ρ=.ok (nI k)):mOp zG (mC (.i c)) (mOp qe (mC (.i 17)) (zc 1)) ρ=.ok (.i (c+17*(k:Int))):=zl rfl (zl rfl h (a5 (by decide) (by decide))) rfl
def A7(hk:k<=40)(hs:0<s/\s<=100000000)(hj:j<8)(hL:Lok L)(hl:L.length<=100):∃x l',0<=x/\x<100000000/\Yn (kSt ns k s L (some (nI j)) l m p w d)=.ok (.nx (kSt ns k s (L++[x]) (some (nI j)) l' m p w d)):=by
 obtain⟨x,x1,ex⟩:=yz (ns:=ns) (ρ:=kSt ns k s L (some (nI j)) l m p w d) (k:=20+17*(k:Int)+(j:Int)) (m:=4) (a:=mOp zG (mOp zG (mC (.i 20)) (mOp qe (mC (.i 17)) (zc 1))) (zc 4)) (b:=mC (.i 4)) (by omega) (by omega) (by decide) rfl (zl (XM rfl) rfl rfl) rfl;have ap:∀y:Int,tU 3 (zc 5) (kSt ns k s L (some (nI j)) (some (.i y)) m p w d)=.ok (.nx (kSt ns k s (L++[y]) (some (nI j)) (some (.i y)) m p w d)):=λy=>by rw[uL (i:=3) (xs:=L.map .i) (y:=.i y) rfl rfl (by rw[v0];omega)];show Out.ok (Fw.nx [_,_,_,some (PV.l (L.map PV.i++[.i y])),_,_,_,_,_,_])=_;rw[show L.map PV.i++[.i y]=(L++[y]).map .i by rw[R4];rfl]
 have t:=qB (a:=js 5 (zh zi (zb (zc 0) (zb (mOp zG (mOp zG (mC (.i 28)) (mOp qe (mC (.i 17)) (zc 1))) (zc 4)) (zb (zc 2) zm))))) (b:=zY) (Ys (ρ:=kSt ns k s L (some (nI j)) (some (nI x)) m p w d) (a:=zc 5) (x:=(x:Int)) (n:=0) rfl);by_cases c:(x:Int)>0
 .rw[L8 c,if_pos rfl]at t;obtain⟨y,y1,ey⟩:=yz (ns:=ns) (ρ:=kSt ns k s L (some (nI j)) (some (nI x)) m p w d) (k:=28+17*(k:Int)+(j:Int)) (m:=s) (a:=mOp zG (mOp zG (mC (.i 28)) (mOp qe (mC (.i 17)) (zc 1))) (zc 4)) (b:=zc 2) (by omega) (by omega) hs.1 rfl (zl (XM rfl) rfl rfl) rfl;exact⟨y,_,by omega,by omega,zf ⟨_,yZ ex,zf ⟨_,t.trans (yZ ey),ap y⟩⟩⟩
 .rw[L7 c,if_neg M6]at t;exact⟨x,_,by omega,by omega,zf ⟨_,yZ ex,zf ⟨_,t,ap x⟩⟩⟩
def fY{s:Int}{m p w d:Ik}(hk:k<=40)(hs:0<s/\s<=100000000):∀(ks:Ht)(L:HY)(j l:Ik),(∀q∈ks,q<8)->L.length+ks.length<=100->Lok L->∃L' j' l',Lok L'/\L'.length=L.length+ks.length/\km Ky Yn (ks.map nI) (kSt ns k s L j l m p w d)=.ok (.nx (kSt ns k s L' j' l' m p w d))
 |[],L,j,l,_,_,hL=>⟨L,j,l,hL,rfl,rfl⟩
 |q::ks,L,j,l,hq,hl,hL=>by rw[v4]at hl;obtain⟨x,l1,x0,x1,e⟩:=A7 (ns:=ns) (k:=k) (L:=L) (l:=l) (m:=m) (p:=p) (w:=w) (d:=d) hk hs (hq q M3) hL (by omega);obtain⟨L',j',l',h1,h2,h3⟩:=fY hk hs ks (L++[x]) (some (nI q)) l1 (λr hr=>hq r (L9 _ hr)) (by rw[O1];show _+1+_<=_;omega) (λy hy=>(a0b.mp hy).elim (hL y) λh=>by rw[T0.mp h];exact⟨x0,x1⟩);refine⟨L',j',l',h1,?_,(yQ rfl e).trans h3⟩;rw[h2];have:(L++[x]).length=L.length+1:=O1;rw[this,v4];omega
def pop_at:rC 3 6 (kSt ns k s (L++[x]) j l none p w d)=.ok (.nx (kSt ns k s L j l (some (.i x)) p w d)):=by
 show(match((L++[x]).map PV.i)[((L++[x]).map PV.i).length-1]? with
  |some y=>Out.ok (Fw.nx [some (.sc ns),some (nI k),some (.i s),some (.l ((L++[x]).map PV.i).dropLast),j,l,some y,p,w,d])
  |none=>.wall)=_
 rw[show((L++[x]).map PV.i).dropLast=L.map .i by rw[R4,show[x].map PV.i=[.i x]from rfl,List.dropLast_concat],
  show((L++[x]).map PV.i)[((L++[x]).map PV.i).length-1]?=some (.i x) by
   rw[R4,O1,T9 (by show _<=_+1-1;omega),show(L.map PV.i).length+([x].map PV.i).length-1-(L.map PV.i).length=0 by show _+1-1-_=0;omega];rfl]
def A8(hn:∀n:Nat,n<35->jM [.sc ns,.i 1,.i (n:Int)]=.ok (.s (nmX a b n)))(hk:k<=8):∃w:Wk,qQ [.sc ns,nI k]=.ok (wkP w)/\w.nm=nmX a b k/\dvN w=none/\w.ls.length=7:=by
 obtain⟨x,x1,ex⟩:=yz (ns:=ns) (ρ:=[some (.sc ns),some (nI k),none,none,none,none,none,none,none,none]) (k:=0) (m:=3) (a:=mC (.i 0)) (b:=mC (.i 3)) (by decide) (by decide) (by decide) rfl rfl rfl;have p8:qU (.i 10) (.i 8)=.ok (.i 100000000):=by rw[eW (by decide) (by decide) (by decide)];rfl
 obtain⟨s,hs,es⟩:∃s:Int,(0<s/\s<=100000000)/\mOp pIx (Kl (zb (mC (.i 10)) (zb (mC (.i 60000)) (zb (mOp qU (mC (.i 10)) (mC (.i 8))) zm)))) (zh zi (zb (zc 0) (zb (mC (.i 0)) (zb (mC (.i 3)) zm)))) [some (.sc ns),some (nI k),none,none,none,none,none,none,none,none]=.ok (.i s):=by
  refine⟨_,?_,fX (xs:=[10,60000,100000000]) (dB (zJ rfl (zJ rfl (zJ (zl rfl rfl p8) rfl))) (P9 rfl)) ex (by show x<3;omega)⟩;have:∀y∈[10,60000,(100000000:Int)],0<y/\y<=100000000:=by decide
  exact this _ (a01 _)
 obtain⟨L,j,l,hL,hl,eL⟩:=fY (ns:=ns) (k:=k) (m:=none) (p:=none) (w:=none) (d:=none) (by omega) hs (List.range 8) [] none none (λq hq=>S5.mp hq) (by decide) nofun;rw[S9,a1B]at hl;obtain⟨L,m,rfl⟩:∃M m,L=M++[m]:=by refine⟨L.dropLast,L.getLast (λe=>by rw[e]at hl;cases hl),(List.dropLast_concat_getLast _).symm⟩
 rw[O1]at hl;have hl:L.length=7:=by have:[m].length=1:=rfl;omega
 have hm:=hL m (N9 _ (a2v _));have hL:Lok L:=λy hy=>hL y (a0e _ hy);obtain⟨t,t1,et⟩:=yz (ns:=ns) (ρ:=kSt ns k s L j l (some (.i m)) none none none) (k:=36+17*(k:Int)) (m:=7) (a:=mOp zG (mC (.i 36)) (mOp qe (mC (.i 17)) (zc 1))) (b:=mC (.i 7)) (by omega) (by omega) (by decide) rfl (XM rfl) rfl;obtain⟨w,w1,ew⟩:=yz (ns:=ns) (ρ:=kSt ns k s L j l (some (.i m)) (some (nI t)) none none) (k:=37+17*(k:Int)) (m:=9) (a:=mOp zG (mC (.i 37)) (mOp qe (mC (.i 17)) (zc 1))) (b:=mC (.i 9)) (by omega) (by omega) (by decide) rfl (XM rfl) rfl;obtain⟨S0,S1⟩:=fW hL;have sp:=Js (ls:=L) (k:=t+1);have A0:=(fW (L:=L.take (t+1)) λx hx=>hL x (a1H hx)).1;have B0:=(fW (L:=L.drop (t+1)) λx hx=>hL x (a2P hx)).1;rw[hl]at S1;obtain⟨A,hA⟩:∃A,A=(L.take (t+1)).sum:=⟨_,rfl⟩;obtain⟨B,hB⟩:∃B,B=(L.drop (t+1)).sum:=⟨_,rfl⟩;rw[<- hA]at sp A0;rw[<- hB]at sp B0;have e9:js 9 (zh lK (zb (mOp zG (zc 6) (zh WS (zb (mSl pSl (zc 3) cY (wF (mOp zG (zc 7) (mC (.i 1))))) zm))) (zb (zh WS (zb (mSl pSl (zc 3) (wF (mOp zG (zc 7) (mC (.i 1)))) cY) zm)) zm))) (kSt ns k s L j l (some (.i m)) (some (nI t)) (some (nI w)) none)=.ok (.nx (kSt ns k s L j l (some (.i m)) (some (nI t)) (some (nI w)) (some (.i (max (m+A) B))))):=by rw[hA,hB];exact yZ (z7 (zJ (UZ (m:=m) (ls:=L) (k:=t) rfl rfl rfl) (zJ (Wv (ls:=L) (k:=t) rfl rfl) rfl)) rfl)
 obtain⟨D,hD⟩:∃D,D=max (m+A) B:=⟨_,rfl⟩;have hD':0<=D/\D<=800000000:=by omega
 rw[<- hD]at e9
 -- three ifs
 obtain⟨D1,d1,e10⟩:∃D1,(D1<=800000000/\((w:Int)>5->0<=D1))/\sIf (zT (mOp (qK false) (zc 8) (mC (.i 1)))) (js 9 (mOp cN (zc 9) (mC (.i 1)))) zY (kSt ns k s L j l (some (.i m)) (some (nI t)) (some (nI w)) (some (.i D)))=.ok (.nx (kSt ns k s L j l (some (.i m)) (some (nI t)) (some (nI w)) (some (.i D1)))):=by
  have q:=λP Q=>qB (a:=P) (b:=Q) (Yr (ρ:=kSt ns k s L j l (some (.i m)) (some (nI t)) (some (nI w)) (some (.i D))) (a:=zc 8) (x:=(w:Int)) (n:=1) rfl);by_cases c:(w:Int)=1
  .exact⟨D-1,by omega,(q _ _).trans (by rw[L8 c];exact yZ (zl rfl rfl rfl))⟩
  .exact⟨D,by omega,(q _ _).trans (by rw[L7 c];rfl)⟩
 obtain⟨D2,d2,e11⟩:∃D2,(D2<=800000000/\((w:Int)>5->0<=D2))/\sIf (zT (mOp (qK false) (zc 8) (mC (.i 2)))) (js 9 (mOp cN (mOp zG (zc 6) (zh WS (zb (zc 3) zm))) (zh zi (zb (zc 0) (zb (mOp zG (mC (.i 38)) (mOp qe (mC (.i 17)) (zc 1))) (zb (mC (.i 2)) zm)))))) zY (kSt ns k s L j l (some (.i m)) (some (nI t)) (some (nI w)) (some (.i D1)))=.ok (.nx (kSt ns k s L j l (some (.i m)) (some (nI t)) (some (nI w)) (some (.i D2)))):=by
  have q:=λP Q=>qB (a:=P) (b:=Q) (Yr (ρ:=kSt ns k s L j l (some (.i m)) (some (nI t)) (some (nI w)) (some (.i D1))) (a:=zc 8) (x:=(w:Int)) (n:=2) rfl);by_cases c:(w:Int)=2
  .obtain⟨y,y1,ey⟩:=yz (ns:=ns) (ρ:=kSt ns k s L j l (some (.i m)) (some (nI t)) (some (nI w)) (some (.i D1))) (k:=38+17*(k:Int)) (m:=2) (a:=mOp zG (mC (.i 38)) (mOp qe (mC (.i 17)) (zc 1))) (b:=mC (.i 2)) (by omega) (by omega) (by decide) rfl (XM rfl) rfl;exact⟨m+L.sum-(y:Int),by omega,(q _ _).trans (by rw[L8 c];exact yZ (zl (zl rfl (z7 (xs:=[lsP L]) rfl a_) rfl) ey rfl))⟩
  .exact⟨D1,d1,(q _ _).trans (by rw[L7 c];rfl)⟩
 obtain⟨D3,d3,e12⟩:∃D3,D3<=1000000000/\sIf (zT (mOp pGt (zc 8) (mC (.i 5)))) (js 9 (mOp zG (zc 9) (zh zi (zb (zc 0) (zb (mOp zG (mC (.i 38)) (mOp qe (mC (.i 17)) (zc 1))) (zb (mOp zG (mC (.i 1)) (mOp aS (zc 9) (mC (.i 4)))) zm)))))) zY (kSt ns k s L j l (some (.i m)) (some (nI t)) (some (nI w)) (some (.i D2)))=.ok (.nx (kSt ns k s L j l (some (.i m)) (some (nI t)) (some (nI w)) (some (.i D3)))):=by
  have q:=λP Q=>qB (a:=P) (b:=Q) (Ys (ρ:=kSt ns k s L j l (some (.i m)) (some (nI t)) (some (nI w)) (some (.i D2))) (a:=zc 8) (x:=(w:Int)) (n:=5) rfl);by_cases c:(w:Int)>5
  .have:=d2.2 c;obtain⟨y,y1,ey⟩:=yz (ns:=ns) (ρ:=kSt ns k s L j l (some (.i m)) (some (nI t)) (some (nI w)) (some (.i D2))) (k:=38+17*(k:Int)) (m:=1+D2 / 4) (a:=mOp zG (mC (.i 38)) (mOp qe (mC (.i 17)) (zc 1))) (b:=mOp zG (mC (.i 1)) (mOp aS (zc 9) (mC (.i 4)))) (by omega) (by omega) (by omega) rfl (XM rfl) (zl rfl (DM rfl (by decide) (by decide)) rfl);exact⟨D2+(y:Int),by omega,(q _ _).trans (by rw[L8 c];exact yZ (zl rfl ey rfl))⟩
  .exact⟨D2,by omega,(q _ _).trans (by rw[L7 c];rfl)⟩
 refine⟨⟨nmX a b k,m,max 1 D3,L⟩,?_,rfl,?_,hl⟩
 .exact yV (zf ⟨_,yZ es,zf ⟨kSt ns k s [] none none none none none none,rfl,zf ⟨_,qL (by rw[Qx (n:=8) rfl (by decide) (by decide)];exact T1 Out.ok YJ) eL,zf ⟨_,pop_at,zf ⟨_,yZ et,zf ⟨_,yZ ew,zf ⟨_,e9,zf ⟨_,e10,zf ⟨_,e11,zf ⟨_,e12,bM (UY (zJ (z7 (xs:=[.sc ns,.i 1,nI k]) rfl (hn k (by omega))) (zJ rfl (zJ (z7 (xs:=[.i 1,.i D3]) rfl rfl) (zJ rfl rfl)))) (P9 rfl))⟩⟩⟩⟩⟩⟩⟩⟩⟩⟩)
 .unfold dvN;dsimp only;rw[if_neg (by omega),if_neg (by omega)];exact oA hL
end
def A9(h:Nm z):Zk z=true:=by unfold Zk;rw[a0f];exact⟨L8 h.1,a0j.mpr λc hc=>L8 (h.2 c hc)⟩
def uT:∀{us:List Wk}{P:Hx},(∀w∈us,Zk w.nm=true/\w.nm∉P/\dvN w=none)->(us.map (·.nm)).Nodup->dvL P us=none
 |[],_,_,_=>rfl
 |w::us,P,h,nd=>by
  obtain⟨h1,h2,h3⟩:=h w M3;obtain⟨n1,n2⟩:=a0d.mp nd;unfold dvL;rw[if_neg (by rw[h1];exact Bool.noConfusion),if_neg h2,h3];refine uT (λu hu=>?_) n2;obtain⟨a1,a2,a3⟩:=h u (L9 _ hu);refine⟨a1,λq=>?_,a3⟩;rcases a0b.mp q with q|q
  .exact a2 q
  .exact n1 (N6.mpr ⟨u,hu,T0.mp q⟩)
abbrev Wok(n:Nat)(us:List Wk):Prop:=∀w∈us,w.nm.length<=n/\w.ls.length=7
def A_(h0:zc 0 ρ=.ok (.sc ns))(hf:VR ρ [none,some 0]=[none,some (.sc ns)]):∃ws:List Wk,dv ws=none/\Wok 12 ws/\ws.length<=8/\mLC (wj (zb (zh zi (zb (zc 0) (zb (mC (.i 13)) (zb (mC (.i 9)) zm)))) zm)) [none,some 0] Vt UT Vu ρ=.ok (wsP ws):=by
 obtain⟨a,b,hab,hn⟩:=sg (ns:=ns) (k:=1) (by decide) (by decide);have H:∀k:Nat,∃w:Wk,k<=8->qQ [.sc ns,nI k]=.ok (wkP w)/\w.nm=nmX a b k/\dvN w=none/\w.ls.length=7:=λk=>by
  by_cases hk:k<=8
  .obtain⟨w,h⟩:=A8 hn hk;exact⟨w,λ_=>h⟩
  .exact⟨⟨"",0,0,[]⟩,λh=>absurd h hk⟩
 obtain⟨F,hF⟩:∃F:Nat->Wk,∀k,k<=8->qQ [.sc ns,nI k]=.ok (wkP (F k))/\(F k).nm=nmX a b k/\dvN (F k)=none/\(F k).ls.length=7:=⟨λk=>Classical.choose (H k),λk=>T4 (H k)⟩;obtain⟨x,x1,ex⟩:=yz (ns:=ns) (ρ:=ρ) (k:=13) (m:=9) (a:=mC (.i 13)) (b:=mC (.i 9)) (by decide) (by decide) (by decide) h0 rfl rfl;have hF':∀w∈(List.range x).map F,∃k,k<9/\F k=w:=λw hw=>by obtain⟨k,hk,e⟩:=N6.mp hw;exact⟨k,by have:=S5.mp hk;omega,e⟩
 have en:((List.range x).map F).map (·.nm)=(List.range x).map (nmX a b):=by rw[P8];exact a0N λk hk=>(hF k (by have:=S5.mp hk;omega)).2.1
 refine⟨(List.range x).map F,?_,λw hw=>?_,by rw[v0,S9];omega,?_⟩
 .unfold dv;rw[if_neg (by rw[v0,S9];omega)];refine uT (λw hw=>?_) (by rw[en];exact DQ (by omega));obtain⟨k,hk,rfl⟩:=hF' w hw;obtain⟨_,h1,h2,_⟩:=hF k (by omega);exact⟨by rw[h1];exact A9 (uC hab (by omega)),nofun,h2⟩
 .obtain⟨k,hk,rfl⟩:=hF' w hw;obtain⟨_,h1,_,h3⟩:=hF k (by omega);exact⟨by rw[h1];exact(uC hab (by omega)).1.2,h3⟩
 .refine WU (xs:=(List.range x).map nI) (by rw[Qx (n:=(x:Int)) (zJ ex rfl) (by omega) (by omega),W1];exact T1 Out.ok YJ) ?_;rw[hf,wsP,P8];exact Qw (g:=Vt) (e:=Vu) (λk:Nat=>nI k) (λk=>wkP (F k)) (λρ=>∃z,ρ=[z,some (.sc ns)]) (List.range x) [none,some (.sc ns)] ⟨_,rfl⟩ (λk hk ρ ⟨z,ez⟩=>by
   subst ez;exact⟨_,rfl,⟨_,rfl⟩,z7 (xs:=[.sc ns,nI k]) rfl (hF k (by have:=S5.mp hk;omega)).1⟩) (by rw[S9];omega)
def bX{c:MT}{A:MS}{ρ:Sto}{x:Bool}{P:Sto->Prop}(h:c ρ=.ok x)(h0:P ρ)(h1:∃ρ',P ρ'/\A ρ=.ok (.nx ρ')):∃ρ',P ρ'/\sIf c A zY ρ=.ok (.nx ρ'):=by
 have t:=qB (a:=A) (b:=zY) h;cases x with
 |true=>obtain⟨ρ',p,e⟩:=h1;exact⟨ρ',p,t.trans e⟩
 |false=>exact⟨ρ,h0,t⟩
def Ba(h:m ρ=.ok x)(hg:g x ρ=some ρ'):Bo g m ρ=.ok (.nx ρ'):=by unfold Bo;rw[h,okb,hg];rfl
def fZ(hi:ρ[i]?=some (some (.l xs)))(hv:mv ρ=.ok v)(hk:mk ρ=.ok (nI j))(hj:j<xs.length):Ui i mk mv ρ=.ok (.nx (ρ.set i (some (.l (xs.set j v))))):=by unfold Ui;rw[hv,okb,hi];dsimp only;rw[hk,okb];dsimp only;rw[tO (by omega) (by omega)];show Out.ok (Fw.nx (ρ.set i (some (.l (xs.set ((j:Int)).toNat v)))))=_;rw[W1]
def ixW(h:k<us.length):pIx (wsP us) (nI k)=.ok (wkP us[k]):=by rw[r8 (by omega) (by rw[v0];omega),a0q];rfl
def Hs(h:0<=i)(h':i<=100):qe (.s "x") (.i i)=.ok (.s (Txt.mul "x" i)):=if_pos ⟨by decide,by omega,by omega⟩
def x13:(Txt.mul "x" 13).length=13:=by decide +kernel
section
variable {ns:HY}{us:List Wk}
abbrev pSt(ns:HY)(us:List Wk)(t a z m d l w b n:Ik):Sto:=[some (.sc ns),some (wsP us),t,a,z,m,d,l,w,b,n]
def oB(h:zc 1 ρ=.ok (wsP us)):zh wg (zb (zc 1) zm) ρ=.ok (nI us.length):=by refine z7 (zJ h rfl) ?_;show Out.ok (PV.i ((us.map wkP).length:Int))=_;rw[v0]
def g9(hw:Wok n us)(h0:0<us.length)(hn:n<=500)(ht:t<2):∃us' a' z' m' d' l' w' b',Wok (n+13) us'/\us'.length=us.length/\jU (pSt ns us (some (nI t)) a z m d l w b q)=.ok (.nx (pSt ns us' (some (nI t)) a' z' m' d' l' w' b' q)):=by
 obtain⟨x,x1,ex⟩:=yz (ns:=ns) (ρ:=pSt ns us (some (nI t)) a z m d l w b q) (k:=4+(t:Int)) (m:=(us.length:Int)) (a:=mOp zG (mC (.i 4)) (zc 2)) (b:=zh wg (zb (zc 1) zm)) (by omega) (by omega) (by omega) rfl rfl (oB rfl);have hx:x<us.length:=by omega
 obtain⟨v,hv⟩:∃v,v=us[x]:=⟨_,rfl⟩;obtain⟨v1,v2⟩:=hw v (by rw[hv];exact a01 hx);obtain⟨y,y1,ey⟩:=yz (ns:=ns) (ρ:=pSt ns us (some (nI t)) (some (nI x)) (some (.s v.nm)) (some (.i v.m)) (some (.i v.d)) (some (lsP v.ls)) w b q) (k:=6+(t:Int)) (m:=6) (a:=mOp zG (mC (.i 6)) (zc 2)) (b:=mC (.i 6)) (by omega) (by omega) (by omega) rfl rfl rfl;obtain⟨u,u1,eu⟩:=yz (ns:=ns) (ρ:=pSt ns us (some (nI t)) (some (nI x)) (some (.s v.nm)) (some (.i v.m)) (some (.i v.d)) (some (lsP v.ls)) (some (nI y)) b q) (k:=8) (m:=3) (a:=mC (.i 8)) (b:=mC (.i 3)) (by omega) (by omega) (by omega) rfl rfl rfl;have p20:qU (.i 10) (.i 20)=.ok (.i 100000000000000000000):=by rw[eW (by decide) (by decide) (by decide)];rfl
 obtain⟨c,e5⟩:∃c:Int,mOp pIx (Kl (zb (mUn pL (mC (.i 1))) (zb (mOp zG (mOp qU (mC (.i 10)) (mC (.i 9))) (mC (.i 1))) (zb (mOp cN (mC (.i 0)) (mOp qU (mC (.i 10)) (mC (.i 20)))) zm)))) (zh zi (zb (zc 0) (zb (mC (.i 8)) (zb (mC (.i 3)) zm)))) (pSt ns us (some (nI t)) (some (nI x)) (some (.s v.nm)) (some (.i v.m)) (some (.i v.d)) (some (lsP v.ls)) (some (nI y)) b q)=.ok (.i c):=
  ⟨_,fX (xs:=[-1,1000000001,-100000000000000000000]) (dB (zJ rfl (zJ (zl (zl rfl rfl p9) rfl rfl) (zJ (zl rfl (zl rfl rfl p20) rfl) rfl))) (P9 rfl)) eu (by show u<3;omega)⟩
 obtain⟨P,hP⟩:∃P:Sto->Prop,P=λρ=>∃(z:Str)(m d:Int)(l:HY),z.length<=n+13/\l.length=7/\ρ=pSt ns us (some (nI t)) (some (nI x)) (some (.s z)) (some (.i m)) (some (.i d)) (some (lsP l)) (some (nI y)) (some (.i c)) q:=⟨_,rfl⟩;have P0:P (pSt ns us (some (nI t)) (some (nI x)) (some (.s v.nm)) (some (.i v.m)) (some (.i v.d)) (some (lsP v.ls)) (some (nI y)) (some (.i c)) q):=by rw[hP];exact⟨_,_,_,_,by omega,v2,rfl⟩
 obtain⟨ρ1,P1,e6⟩:=bX (A:=js 4 (mOp pIx (Kl (zb (mC (.s "")) (zb (mC (.s "B")) (zb (mOp zG (zc 4) (mC (.s "-"))) (zb (mOp qe (mC (.s "x")) (mC (.i 13))) zm))))) (zh zi (zb (zc 0) (zb (mC (.i 9)) (zb (mC (.i 4)) zm)))))) (Yr (a:=zc 8) (x:=(y:Int)) (n:=0) rfl) P0 (by
  obtain⟨r,r1,er⟩:=yz (ns:=ns) (ρ:=pSt ns us (some (nI t)) (some (nI x)) (some (.s v.nm)) (some (.i v.m)) (some (.i v.d)) (some (lsP v.ls)) (some (nI y)) (some (.i c)) q) (k:=9) (m:=4) (a:=mC (.i 9)) (b:=mC (.i 4)) (by omega) (by omega) (by omega) rfl rfl rfl;obtain⟨s,hs,es⟩:=iN (xs:=["","B",v.nm++"-",Txt.mul "x" 13]) (i:=(r:Int)) (by omega) (by show(r:Int)<4;omega);refine⟨_,?_,yZ (zl (dB (zJ rfl (zJ rfl (zJ (zl rfl rfl (ES (n:=1000) (by show _+1<=_;omega) (by decide))) (zJ (zl rfl rfl (Hs (by decide) (by decide))) rfl)))) (P9 rfl)) er es)⟩;rw[hP];refine⟨s,_,_,_,?_,v2,rfl⟩;simp only[List.mem_cons,List.not_mem_nil,or_false]at hs;rcases hs with e|e|e|e
  .rw[e];exact T5 _
  .rw[e];show 1<=_;omega
  .rw[e,str_len];show _+1<=_;omega
  .rw[e,x13];omega)
 rw[hP]at P1;obtain⟨z1,m1,d1,l1,hz1,hl1,rfl⟩:=P1;have P1:P (pSt ns us (some (nI t)) (some (nI x)) (some (.s z1)) (some (.i m1)) (some (.i d1)) (some (lsP l1)) (some (nI y)) (some (.i c)) q):=by rw[hP];exact⟨_,_,_,_,hz1,hl1,rfl⟩
 obtain⟨ρ2,P2,e7⟩:=bX (A:=js 4 (mOp pIx (mOp pIx (zc 1) (zh zi (zb (zc 0) (zb (mC (.i 10)) (zb (zh wg (zb (zc 1) zm)) zm))))) (mC (.i 0)))) (Yr (a:=zc 8) (x:=(y:Int)) (n:=1) rfl) P1 (by
  obtain⟨r,r1,er⟩:=yz (ns:=ns) (ρ:=pSt ns us (some (nI t)) (some (nI x)) (some (.s z1)) (some (.i m1)) (some (.i d1)) (some (lsP l1)) (some (nI y)) (some (.i c)) q) (k:=10) (m:=(us.length:Int)) (a:=mC (.i 10)) (b:=zh wg (zb (zc 1) zm)) (by omega) (by omega) (by omega) rfl rfl (oB rfl);have hr:r<us.length:=by omega
  refine⟨_,?_,yZ (zl (zl rfl er (ixW hr)) rfl rfl)⟩;rw[hP];exact⟨us[r].nm,_,_,_,by have:=(hw us[r] (a01 hr)).1;omega,hl1,rfl⟩)
 rw[hP]at P2;obtain⟨z2,m2,d2,l2,hz2,hl2,rfl⟩:=P2;have P2:P (pSt ns us (some (nI t)) (some (nI x)) (some (.s z2)) (some (.i m2)) (some (.i d2)) (some (lsP l2)) (some (nI y)) (some (.i c)) q):=by rw[hP];exact⟨_,_,_,_,hz2,hl2,rfl⟩
 obtain⟨ρ3,P3,e8⟩:=bX (A:=js 5 (zc 9)) (Yr (a:=zc 8) (x:=(y:Int)) (n:=2) rfl) P2 ⟨_,by rw[hP];exact⟨z2,c,d2,l2,hz2,hl2,rfl⟩,yZ rfl⟩;rw[hP]at P3;obtain⟨z3,m3,d3,l3,hz3,hl3,rfl⟩:=P3;have P3:P (pSt ns us (some (nI t)) (some (nI x)) (some (.s z3)) (some (.i m3)) (some (.i d3)) (some (lsP l3)) (some (nI y)) (some (.i c)) q):=by rw[hP];exact⟨_,_,_,_,hz3,hl3,rfl⟩
 obtain⟨ρ4,P4,e9⟩:=bX (A:=js 6 (mOp pIx (Kl (zb (mC (.i 0)) (zb (zc 9) zm))) (zh zi (zb (zc 0) (zb (mC (.i 10)) (zb (mC (.i 2)) zm)))))) (Yr (a:=zc 8) (x:=(y:Int)) (n:=3) rfl) P3 (by
  obtain⟨r,r1,er⟩:=yz (ns:=ns) (ρ:=pSt ns us (some (nI t)) (some (nI x)) (some (.s z3)) (some (.i m3)) (some (.i d3)) (some (lsP l3)) (some (nI y)) (some (.i c)) q) (k:=10) (m:=2) (a:=mC (.i 10)) (b:=mC (.i 2)) (by omega) (by omega) (by omega) rfl rfl rfl;refine⟨_,?_,yZ (fX (xs:=[0,c]) (dB (zJ rfl (zJ rfl rfl)) (P9 rfl)) er (by show r<2;omega))⟩;rw[hP];exact⟨z3,m3,_,l3,hz3,hl3,rfl⟩)
 rw[hP]at P4;obtain⟨z4,m4,d4,l4,hz4,hl4,rfl⟩:=P4;have P4:P (pSt ns us (some (nI t)) (some (nI x)) (some (.s z4)) (some (.i m4)) (some (.i d4)) (some (lsP l4)) (some (nI y)) (some (.i c)) q):=by rw[hP];exact⟨_,_,_,_,hz4,hl4,rfl⟩
 obtain⟨ρ5,P5,e10⟩:=bX (A:=Ui 7 (zh zi (zb (zc 0) (zb (mC (.i 11)) (zb (mC (.i 7)) zm)))) (zc 9)) (Yr (a:=zc 8) (x:=(y:Int)) (n:=4) rfl) P4 (by
  obtain⟨r,r1,er⟩:=yz (ns:=ns) (ρ:=pSt ns us (some (nI t)) (some (nI x)) (some (.s z4)) (some (.i m4)) (some (.i d4)) (some (lsP l4)) (some (nI y)) (some (.i c)) q) (k:=11) (m:=7) (a:=mC (.i 11)) (b:=mC (.i 7)) (by omega) (by omega) (by omega) rfl rfl rfl;refine⟨_,?_,fZ (xs:=l4.map .i) rfl rfl er (by rw[v0];omega)⟩;rw[hP];refine⟨z4,m4,d4,l4.set r c,hz4,by rw[S4];exact hl4,?_⟩;show pSt ns us _ _ _ _ _ (some (PV.l ((l4.map PV.i).set r (.i c)))) _ _ q=_;rw[<- a26])
 rw[hP]at P5;obtain⟨z5,m5,d5,l5,hz5,hl5,rfl⟩:=P5;have e2:Bo (gTp 4 (yN (gNm 4) (yN (gNm 5) (yN (gNm 6) (yN (gNm 7) aY))))) (mOp pIx (zc 1) (zc 3)) (pSt ns us (some (nI t)) (some (nI x)) z m d l w b q)=.ok (.nx (pSt ns us (some (nI t)) (some (nI x)) (some (.s v.nm)) (some (.i v.m)) (some (.i v.d)) (some (lsP v.ls)) w b q)):=Ba (zl rfl rfl (ixW hx)) (by rw[<- hv];rfl);have e3:js 7 (zh VY (zb (zc 7) zm)) (pSt ns us (some (nI t)) (some (nI x)) (some (.s v.nm)) (some (.i v.m)) (some (.i v.d)) (some (lsP v.ls)) w b q)=.ok (.nx (pSt ns us (some (nI t)) (some (nI x)) (some (.s v.nm)) (some (.i v.m)) (some (.i v.d)) (some (lsP v.ls)) w b q)):=rfl;refine⟨us.set x ⟨z5,m5,d5,l5⟩,some (nI x),some (.s z5),some (.i m5),some (.i d5),some (lsP l5),some (nI y),some (.i c),λw hw'=>?_,S4 ..,zf ⟨_,yZ ex,zf ⟨_,e2,zf ⟨_,e3,zf ⟨_,yZ ey,zf ⟨_,yZ e5,zf ⟨_,e6,zf ⟨_,e7,zf ⟨_,e8,zf ⟨_,e9,zf ⟨_,e10,(fZ (i:=1) (xs:=us.map wkP) (j:=x) (v:=wkP ⟨z5,m5,d5,l5⟩) rfl (UY (zJ rfl (zJ rfl (zJ rfl (zJ rfl rfl)))) (P9 rfl)) rfl (by rw[v0];exact hx)).trans ?_⟩⟩⟩⟩⟩⟩⟩⟩⟩⟩⟩
 .rcases List.mem_or_eq_of_mem_set hw' with h|h
  .have:=hw w h;exact⟨by omega,this.2⟩
  .rw[h];exact⟨hz5,hl5⟩
 .show Out.ok (Fw.nx (pSt ns us _ _ _ _ _ _ _ _ q |>.set 1 (some (PV.l ((us.map wkP).set x (wkP ⟨z5,m5,d5,l5⟩))))))=_;rw[<- a26];rfl
def XN:∀(ks:Ht)(us:List Wk)(n:Nat)(t a z m d l w b q:Ik),(∀k∈ks,k<2)->Wok n us->0<us.length->n+13*ks.length<=500->∃us' t' a' z' m' d' l' w' b',Wok (n+13*ks.length) us'/\us'.length=us.length/\km vV jU (ks.map nI) (pSt ns us t a z m d l w b q)=.ok (.nx (pSt ns us' t' a' z' m' d' l' w' b' q))
 |[],us,n,t,a,z,m,d,l,w,b,q,_,hw,_,_=>⟨us,t,a,z,m,d,l,w,b,hw,rfl,rfl⟩
 |k::ks,us,n,t,a,z,m,d,l,w,b,q,hk,hw,h0,hn=>by rw[v4]at hn ⊢;obtain⟨us1,a1,z1,m1,d1,l1,w1,b1,h1,h2,e⟩:=g9 (ns:=ns) (a:=a) (z:=z) (m:=m) (d:=d) (l:=l) (w:=w) (b:=b) (q:=q) hw h0 (by omega) (hk k M3);obtain⟨us2,t2,a2,z2,m2,d2,l2,w2,b2,g1,g2,e2⟩:=XN ks us1 (n+13) (some (nI k)) a1 z1 m1 d1 l1 w1 b1 q (λj hj=>hk j (L9 _ hj)) h1 (by omega) (by omega);refine⟨us2,t2,a2,z2,m2,d2,l2,w2,b2,?_,g2.trans h2,(yQ rfl e).trans e2⟩;rw[show n+13*(ks.length+1)=n+13+13*ks.length by omega];exact g1
end
abbrev twS:Str:="abcdefghijklmnopqrst"
def uU:twS.length=20:=by decide +kernel
def Bb:∀k:Fin 40,(Str.ofString (toString (k.val:Int))).length<=5/\((k.val:Int).natAbs.log2<1920):=by decide +kernel
def oC(k:Nat):∃z:Str,z.length<=6/\qk [some (nI k)]=.ok (.s z):=by
 obtain⟨c,ec⟩:=ixS (z:=twS) (r:=(k:Int) % 20) (by rw[uU];decide) (by omega) (by rw[uU];omega);obtain⟨a,b⟩:=Bb ⟨k % 40,by omega⟩;have e:(k:Int) % 40=((k % 40:Nat):Int):=by omega
 have l1:(⟨#[c]⟩:Str).length=1:=rfl;refine⟨_,?_,zl (zl rfl (nQ rfl (by decide)) ec) (z7 (xs:=[nI (k % 40)]) (zJ ((nQ rfl (by decide)).trans (by rw[e])) rfl) (if_pos b)) (ES (n:=100) ?_ (by decide))⟩
 .rw[str_len,l1];dsimp only at a;omega
 .rw[l1];dsimp only at a;omega
def oE(hw:Wok 12 ws)(hl:ws.length<=8):∃us,us.length<=41/\Wok 38 us/\ql [.sc ns,wsP ws]=.ok (wsP us):=by
 obtain⟨x,x1,ex⟩:=yz (ns:=ns) (ρ:=pSt ns ws none none none none none none none none none) (k:=3) (m:=3) (a:=mC (.i 3)) (b:=mC (.i 3)) (by omega) (by omega) (by omega) rfl rfl rfl;have ec:mOp qe (mC (.i 2)) (zh c9 (zb (Uc (mOp (qK false) (zh zi (zb (zc 0) (zb (mC (.i 3)) (zb (mC (.i 3)) zm)))) (mC (.i 1))) (mOp pGt (zh wg (zb (zc 1) zm)) (mC (.i 0)))) zm)) (pSt ns ws none none none none none none none none none)=.ok (.i (2*(if(decide ((x:Int)=1)&&decide ((ws.length:Int)>0))=true then 1 else 0))):=
  zl rfl (z7 (xs:=[.b (decide ((x:Int)=1)&&decide ((ws.length:Int)>0))]) (zJ (dC (zl ex rfl (C3.trans (by rw[a0x]))) (zl (oB rfl) rfl rfl)) rfl) rfl) (a5 (by decide) (by decide))
 obtain⟨us,t,a,z,m,d,l,w,b,h1,h2,e2⟩:∃us t a z m d l w b,Wok 38 us/\us.length<=8/\ZN (wj (zb (mOp qe (mC (.i 2)) (zh c9 (zb (Uc (mOp (qK false) (zh zi (zb (zc 0) (zb (mC (.i 3)) (zb (mC (.i 3)) zm)))) (mC (.i 1))) (mOp pGt (zh wg (zb (zc 1) zm)) (mC (.i 0)))) zm))) zm)) vV jU (pSt ns ws none none none none none none none none none)=.ok (.nx (pSt ns us t a z m d l w b none)):=by
  by_cases c:(decide ((x:Int)=1)&&decide ((ws.length:Int)>0))=true
  .rw[if_pos c]at ec;rw[a0f,a0v,a0v]at c;obtain⟨us,t,a,z,m,d,l,w,b,h1,h2,e⟩:=XN (ns:=ns) (List.range 2) ws 12 none none none none none none none none none (λk hk=>S5.mp hk) hw (by omega) (by decide);exact⟨us,t,a,z,m,d,l,w,b,h1,by omega,qL (by rw[Qx (n:=2*1) (zJ ec rfl) (by decide) (by decide)];exact T1 Out.ok YJ) e⟩
  .rw[if_neg c]at ec;exact⟨ws,_,_,_,_,_,_,_,_,λw hw'=>⟨O8 (hw w hw').1 (by decide),(hw w hw').2⟩,hl,qL (xs:=[]) (by rw[Qx (n:=2*0) (zJ ec rfl) (by decide) (by decide)];rfl) rfl⟩
 obtain⟨y,y1,ey⟩:=yz (ns:=ns) (ρ:=pSt ns us t a z m d l w b none) (k:=12) (m:=12) (a:=mC (.i 12)) (b:=mC (.i 12)) (by omega) (by omega) (by omega) rfl rfl rfl;have t3:=λP Q=>qB (a:=P) (b:=Q) (Yr (n:=1) ey);by_cases c:(y:Int)=1
 .rw[L8 c]at t3;obtain⟨r,r1,er⟩:=yz (ns:=ns) (ρ:=pSt ns us t a z m d l w b none) (k:=17) (m:=2) (a:=mC (.i 17)) (b:=mC (.i 2)) (by omega) (by omega) (by omega) rfl rfl rfl;obtain⟨F,hF⟩:∃F:Nat->Str,∀k,(F k).length<=6/\qk [some (nI k)]=.ok (.s (F k)):=⟨λk=>Classical.choose (oC k),λk=>T4 (oC k)⟩;have e4:=Qw (g:=vi) (e:=qk) (λk:Nat=>nI k) (λk=>.s (F k)) (λρ=>∃z,ρ=[z]) (List.range (40+r)) [none] ⟨_,rfl⟩ (λk hk ρ ⟨z,ez⟩=>by
   subst ez;exact⟨_,rfl,⟨_,rfl⟩,(hF k).2⟩) (by rw[S9];omega)
  have s4:js 10 (mLC (wj (zb (mOp zG (mC (.i 40)) (zh zi (zb (zc 0) (zb (mC (.i 17)) (zb (mC (.i 2)) zm))))) zm)) [none] vi Yk qk) (pSt ns us t a z m d l w b none)=.ok (.nx (pSt ns us t a z m d l w b (some (.l (((List.range (40+r)).map F).map .s))))):=by
   refine(yZ (x:=.l (((List.range (40+r)).map F).map .s)) (WU (xs:=(List.range (40+r)).map nI) ?_ ?_)).trans rfl
   .rw[Qx (n:=40+(r:Int)) (zJ (zl rfl er rfl) rfl) (by omega) (by omega),show(40+(r:Int)).toNat=40+r by omega];exact T1 Out.ok YJ
   .rw[P8];exact e4
  have e5:=Qw (g:=Yl) (e:=Ym) (λz:Str=>PV.s z) (λz=>wkP ⟨z,1,9,[0,1,0,2,0,5,(z.length:Int)-2]⟩) (λρ=>∃z,ρ=[z]) ((List.range (40+r)).map F) [none] ⟨_,rfl⟩ (λz hz ρ ⟨q,ez⟩=>by
   subst ez;obtain⟨k,_,rfl⟩:=N6.mp hz;refine⟨_,rfl,⟨_,rfl⟩,UY (zJ rfl (zJ rfl (zJ rfl (zJ (dB (xs:=[.i 0,.i 1,.i 0,.i 2,.i 0,.i 5,.i (((F k).length:Int)-2)]) (zJ rfl (zJ rfl (zJ rfl (zJ rfl (zJ rfl (zJ rfl (zJ (zl (z7 (xs:=[.s (F k)]) rfl (mj (sz5 (by have:=(hF k).1;omega)))) rfl rfl) rfl))))))) (P9 rfl)) rfl)))) (P9 rfl)⟩) (by rw[v0,S9];omega)
  refine⟨((List.range (40+r)).map F).map λz=>⟨z,1,9,[0,1,0,2,0,5,(z.length:Int)-2]⟩,by rw[v0,v0,S9];omega,λw hw'=>?_,?_⟩
  .obtain⟨z,hz,rfl⟩:=N6.mp hw';obtain⟨k,_,rfl⟩:=N6.mp hz;exact⟨by have:=(hF k).1;show(F k).length<=38;omega,rfl⟩
  .refine yV (zf ⟨pSt ns ws none none none none none none none none none,rfl,zf ⟨_,e2,zf ⟨_,(t3 _ _).trans (zf ⟨_,s4,yZ (WU (qa rfl) e5)⟩),?_⟩⟩⟩);show Out.ok (Fw.rt (PV.l _))=Out.ok (Fw.rt (PV.l _));rw[P8,P8,P8];rfl
 .rw[L7 c]at t3;exact⟨us,by omega,h1,yV (zf ⟨pSt ns ws none none none none none none none none none,rfl,zf ⟨_,e2,zf ⟨_,t3 _ _,rfl⟩⟩⟩)⟩
def f6(h:m ρ G=.ok x G)(h2:ms ρ G=.ok xs G):yo m ms ρ G=.ok (x::xs) G:=by unfold yo;rw[h];show(ms ρ G).bind _=_;rw[h2];rfl
def oF(h:m ρ G=.ok (.v (.b b)) G'):x8 m ρ G=.ok b G':=by unfold x8;rw[h];rfl
def oG(h:m ρ G=.ok b G'):x6 m ρ G=.ok (!b) G':=by unfold x6;rw[h];rfl
def Ep(h:m ρ G=.ok false G1)(h2:n ρ G1=o):hOr m n ρ G=o:=by unfold hOr;rw[h];exact h2
def sU:qK n (rW r) (rW r)=.ok (.b (xor n true)):=by
 cases r with
 |none=>show qK n (.t ([("right":Str)].map .s)) (.t ([("right":Str)].map .s))=_;rw[c7,wm]
 |some r=>
  cases r with
  |bad z=>show qK n (.t ([("name":Str),z].map .s)) (.t ([("name":Str),z].map .s))=_;rw[c7,wm]
  |two z=>show qK n (.t ([("twice":Str),z].map .s)) (.t ([("twice":Str),z].map .s))=_;rw[c7,wm]
  |num v=>show qK n (.t [.s "number",.i v]) (.t [.s "number",.i v])=_;rw[c7,kE,kE,a9,a8,L8 rfl,L8 rfl];rfl
  |many=>show qK n (.t [.s "many",.i 40]) (.t [.s "many",.i 40])=_;rw[c7,kE,kE,a9,a8,L8 rfl,L8 rfl];rfl
def uV:qK n (.t [.s z,x]) (.t [.s "right"])=.ok (.b (xor n false)):=by rw[c7,kE,xS,a9];show(match some (decide (z="right")&&false)with|some b=>Out.ok (PV.b (xor n b))|none=>.wall)=_;rw[a1K]
def Er:qK n (rW (some r)) (.t [.s "right"])=.ok (.b (xor n false)):=by cases r<;>exact uV
def F9:qK n (.t [.s "right"]) (.t [.s "right"])=.ok (.b (xor n true)):=sU (r:=none)
def F_:qK true (wsP us) (wsP us)=.ok (.b false):=by
 rw[C4,Q3 (λx hx=>by
  obtain⟨w,_,rfl⟩:=N6.mp hx;show cS (ae 6) [.s w.nm,.i w.m,.i w.d,lsP w.ls] [.s w.nm,.i w.m,.i w.d,lsP w.ls]=_;refine Q3 λx hx=>?_;simp only[List.mem_cons,List.not_mem_nil,or_false]at hx;rcases hx with rfl|rfl|rfl|rfl
  .rw[a9,L8 rfl]
  .rw[a8,L8 rfl]
  .rw[a8,L8 rfl]
  .show cS (ae 5) (w.ls.map .i) (w.ls.map .i)=_;refine Q3 λx hx=>?_;obtain⟨n,_,rfl⟩:=N6.mp hx;rw[a8,L8 rfl])]
 rfl
section
variable {ns:HY}{ws us:List Wk}{B:Int}{G:AH}
abbrev lSt(ns:HY)(ws:List Wk)(B:Int)(us:List Wk)(a b c:Option HV):wJ:=[some (.v (.sc ns)),some (.v (wsP ws)),some (.v (.i B)),some (.v (wsP us)),some (.v (wsP us)),a,b,c]
abbrev hT1:HMS:=hIf (hOr (hPT [false,false,false,true,true] (zT (mOp (qK true) (zc 3) (zc 4)))) (x6 (x8 (ZO yS (yo (jt 1) (yo (hP [true] (zh zi (zb (zc 0) (zb (mC (.i 19)) (zb (mC (.i 4)) zm))))) Ko)))))) (V0 (hP [] (mC (.b false)))) YU
abbrev hT2:HMS:=V0 (ZO yS (yo (jt 1) (yo (hP [false,false,true] (zh lK (zb (mC (.i 0)) (zb (zh gI (zb (zc 2) (zb (mOp qU (mC (.i 10)) (mC (.i 9))) zm))) zm)))) Ko)))
def Bc(h:dv ws=none)(hG:Rdy G):∃G',vp hT1 hT2 (lSt ns ws B us a b c) G=.rt (.v (.b true)) G':=by
 obtain⟨x,x1,ex⟩:=yz (ns:=ns) (ρ:=[some (.sc ns),none,none,none,none,none,none,none]) (k:=19) (m:=4) (a:=mC (.i 19)) (b:=mC (.i 4)) (by omega) (by omega) (by omega) rfl rfl rfl;obtain⟨G1,r1,e1⟩:=U5 (b:=x) h (by omega) hG;have hk:∃k:Nat,k<=1000000000/\max 0 (min B 1000000000)=(k:Int):=⟨(max 0 (min B 1000000000)).toNat,by omega,by omega⟩;obtain⟨k,k1,ek⟩:=hk;obtain⟨G2,_,e2⟩:=U5 (b:=k) h k1 r1;have s1:hT1 (lSt ns ws B us a b c) G=.nx (lSt ns ws B us a b c) G1:=(Ws (Ep (vm rfl (zW (zl rfl rfl F_))) (oG (b:=true) (oF (Zm (f6 rfl (f6 (bO rfl ex) rfl)) e1))))).trans rfl;have s2:hP [false,false,true] (zh lK (zb (mC (.i 0)) (zb (zh gI (zb (zc 2) (zb (mOp qU (mC (.i 10)) (mC (.i 9))) zm))) zm))) (lSt ns ws B us a b c) G1=.ok (.v (nI k)) G1:=by refine bO rfl (z7 (xs:=[.i 0,.i (min B 1000000000)]) (zJ rfl (zJ (z7 (xs:=[.i B,.i 1000000000]) (zJ rfl (zJ (zl rfl rfl p9) rfl)) rfl) rfl)) ?_);show Out.ok (PV.i (max 0 (min B 1000000000)))=_;rw[ek]
 exact⟨G2,zA s1 (J9 (Zm (f6 rfl (f6 s2 rfl)) e2))⟩
abbrev hA1:HMS:=oX (hgT 2 (jX (hgN 6) (jX (hgN 7) bj))) (ZO zR (yo (jt 3) (yo (jt 2) Ko)))
abbrev hC1:HMS:=hIf (hPT [false,false,false,false,false,true,true,true] (mOr (zT (mOp (qK true) (zc 6) (zc 5))) (zT (mOp (oQ true) (zc 7) (mC .n))))) (V0 (hP [] (mC (.b false)))) YU
abbrev hM1:HMS:=hIf (hPT [false,false,false,false,false,true] (zT (mOp (qK true) (zc 5) (wD (zb (mC (.s "right")) zm))))) (vp hA1 hC1) (hIf (x6 (x8 (ZO yS (yo (jt 3) (yo (jt 2) Ko))))) (V0 (hP [] (mC (.b false)))) YU)
abbrev hD1:HMS:=hIf (hPT [false,false,true,false,false,true] (lA (zT (mOp (qK false) (zc 5) (wD (zb (mC (.s "right")) zm)))) (mOr (zT (mOp pLt (zc 2) (mC (.i 0)))) (zT (mOp pGt (zc 2) (mOp qU (mC (.i 10)) (mC (.i 9)))))))) (wo 5 (EH (yo (hP [] (mC (.s "number"))) (yo (jt 2) Ko)))) YU
def dJ(h:qK true w d=.ok (.b false)):hC1 (lSt ns ws B us (some (.v d)) (some (.v w)) (some (.v .n))) G=.nx (lSt ns ws B us (some (.v d)) (some (.v w)) (some (.v .n))) G:=
 (Ws (vm rfl (YW (x:=false) (y:=false) (zW (zl rfl rfl h)) (zW (zl rfl rfl rfl))))).trans rfl
def uW(h:zR [.v (wsP us),.v (.i B)] G=.ok (.v (.t [w,.n])) G):hA1 (lSt ns ws B us a b c) G=.nx (lSt ns ws B us a (some (.v w)) (some (.v .n))) G:=by unfold hA1 oX;rw[Zm (xs:=[.v (wsP us),.v (.i B)]) rfl h];rfl
def XQ(h5:zc 5 ρ=.ok d)(h:qK n d (.t [.s "right"])=.ok (.b x)):zT (mOp (qK n) (zc 5) (wD (zb (mC (.s "right")) zm))) ρ=.ok x:=zW (zl h5 (UY (zJ rfl rfl) (P9 rfl)) h)
def Es(hz:∀w∈us,w.nm.length<=1000)(hG:Rdy G):∃a' b' c' G',Rdy G'/\∀q:HMS,vp hD1 (vp hM1 q) (lSt ns ws B us (some (.v (rW (dv us)))) b c) G=q (lSt ns ws B us a' b' c') G':=by
 have tb:∀{ρ:Sto},zc 2 ρ=.ok (.i B)->mOr (zT (mOp pLt (zc 2) (mC (.i 0)))) (zT (mOp pGt (zc 2) (mOp qU (mC (.i 10)) (mC (.i 9))))) ρ=.ok (decide (B<0\/B>1000000000)):=λ{ρ} h=>by refine(YW (nR h) (zW (zl h (zl rfl rfl p9) (show _=Out.ok (PV.b (decide (B>1000000000)))from rfl)))).trans ?_;rw[<- a1M]
 cases hd:dv us with
 |some r=>have s1:hD1 (lSt ns ws B us (some (.v (rW (some r)))) b c) G=.nx (lSt ns ws B us (some (.v (rW (some r)))) b c) G:=(Ws (vm rfl (Aw (XQ rfl Er)))).trans rfl;have s2:hM1 (lSt ns ws B us (some (.v (rW (some r)))) b c) G=.nx (lSt ns ws B us (some (.v (rW (some r)))) (some (.v (rW (some r)))) (some (.v .n))) G:=(bN (vm rfl (XQ rfl Er))).trans (zA (uW (ou hz hd)) (dJ sU));exact⟨_,_,_,G,hG,λq=>zA s1 (zA s2 rfl)⟩
 |none=>
  by_cases hb:oob B
  .have tt:=bL (XQ (ρ:=[none,none,some (.i B),none,none,some (.t [.s "right"]),none,none]) (n:=false) rfl F9) (tb rfl);rw[L8 (show B<0\/B>1000000000 from hb)]at tt;have s1:hD1 (lSt ns ws B us (some (.v (.t [.s "right"]))) b c) G=.nx (lSt ns ws B us (some (.v (.t [.s "number",.i B]))) b c) G:=(bN (vm rfl tt)).trans rfl;have s2:hM1 (lSt ns ws B us (some (.v (.t [.s "number",.i B]))) b c) G=.nx (lSt ns ws B us (some (.v (.t [.s "number",.i B]))) (some (.v (.t [.s "number",.i B]))) (some (.v .n))) G:=(bN (vm rfl (XQ rfl uV))).trans (zA (uW (ow hz hd hb)) (dJ (sU (r:=some (.num B)))));exact⟨_,_,_,G,hG,λq=>zA s1 (zA s2 rfl)⟩
  .have tt:=bL (XQ (ρ:=[none,none,some (.i B),none,none,some (.t [.s "right"]),none,none]) (n:=false) rfl F9) (tb rfl);rw[L7 (show ¬(B<0\/B>1000000000)from hb)]at tt;obtain⟨k,rfl⟩:∃k:Nat,B=(k:Int):=⟨B.toNat,by unfold oob at hb;omega⟩;obtain⟨G1,r1,e1⟩:=U5 (b:=k) hd (by unfold oob at hb;omega) hG;have s1:hD1 (lSt ns ws k us (some (.v (.t [.s "right"]))) b c) G=.nx (lSt ns ws k us (some (.v (.t [.s "right"]))) b c) G:=(Ws (vm rfl tt)).trans rfl;have s2:hM1 (lSt ns ws k us (some (.v (.t [.s "right"]))) b c) G=.nx (lSt ns ws k us (some (.v (.t [.s "right"]))) b c) G1:=(Ws (vm rfl (XQ rfl F9))).trans ((Ws (oG (b:=true) (oF (Zm (xs:=[.v (wsP us),.v (nI k)]) rfl e1)))).trans rfl);exact⟨_,_,_,G1,r1,λq=>zA s1 (zA s2 rfl)⟩
def sV(ns:HY)(_:ns.length<=k):∃G,uA [.v (.sc ns)] [.y true]=.ok (.v (.b true)) G:=by
 obtain⟨ws,dw,hw,lw,e1⟩:=A_ (ns:=ns) (ρ:=[some (.sc ns),none,none,none,none,none,none,none]) rfl rfl;obtain⟨b0,b1,e2⟩:=yz (ns:=ns) (ρ:=[some (.sc ns),none,none,none,none,none,none,none]) (k:=14) (m:=4) (a:=mC (.i 14)) (b:=mC (.i 4)) (by omega) (by omega) (by omega) rfl rfl rfl;obtain⟨y,y1,e3⟩:=yz (ns:=ns) (ρ:=[some (.sc ns),none,none,none,none,none,none,none]) (k:=15) (m:=9) (a:=mC (.i 15)) (b:=mC (.i 9)) (by omega) (by omega) (by omega) rfl rfl rfl;have s1:wo 1 (hP [true] (mLC (wj (zb (zh zi (zb (zc 0) (zb (mC (.i 13)) (zb (mC (.i 9)) zm)))) zm)) [none,some 0] Vt UT Vu)) [some (.v (.sc ns)),none,none,none,none,none,none,none] [.y true]=.nx [some (.v (.sc ns)),some (.v (wsP ws)),none,none,none,none,none,none] [.y true]:=vZ (bO rfl e1);have s2:wo 2 (hP [true] (zh zi (zb (zc 0) (zb (mC (.i 14)) (zb (mC (.i 4)) zm))))) [some (.v (.sc ns)),some (.v (wsP ws)),none,none,none,none,none,none] [.y true]=.nx [some (.v (.sc ns)),some (.v (wsP ws)),some (.v (nI b0)),none,none,none,none,none] [.y true]:=vZ (bO rfl e2);obtain⟨B,s3⟩:∃B:Int,hIf (hPT [true] (zT (mOp (qK false) (zh zi (zb (zc 0) (zb (mC (.i 15)) (zb (mC (.i 9)) zm)))) (mC (.i 1))))) (wo 2 (hP [true] (mOp pIx (Kl (zb (mUn pL (mC (.i 1))) (zb (mOp zG (mOp qU (mC (.i 10)) (mC (.i 9))) (mC (.i 1))) (zb (mOp qU (mC (.i 10)) (mC (.i 9))) (zb (mOp cN (mC (.i 0)) (mOp qU (mC (.i 10)) (mC (.i 20)))) zm))))) (zh zi (zb (zc 0) (zb (mC (.i 16)) (zb (mC (.i 4)) zm))))))) YU [some (.v (.sc ns)),some (.v (wsP ws)),some (.v (nI b0)),none,none,none,none,none] [.y true]=.nx [some (.v (.sc ns)),some (.v (wsP ws)),some (.v (.i B)),none,none,none,none,none] [.y true]:=by
  have tt:=Yr (n:=1) e3;by_cases c:(y:Int)=1
  .rw[L8 c]at tt;obtain⟨r,r1,er⟩:=yz (ns:=ns) (ρ:=[some (.sc ns),none,none,none,none,none,none,none]) (k:=16) (m:=4) (a:=mC (.i 16)) (b:=mC (.i 4)) (by omega) (by omega) (by omega) rfl rfl rfl;have p20:qU (.i 10) (.i 20)=.ok (.i 100000000000000000000):=by rw[eW (by decide) (by decide) (by decide)];rfl
   have e4:=fX (xs:=[-1,1000000001,1000000000,-100000000000000000000]) (dB (ρ:=[some (.sc ns),none,none,none,none,none,none,none]) (ms:=zb (mUn pL (mC (.i 1))) (zb (mOp zG (mOp qU (mC (.i 10)) (mC (.i 9))) (mC (.i 1))) (zb (mOp qU (mC (.i 10)) (mC (.i 9))) (zb (mOp cN (mC (.i 0)) (mOp qU (mC (.i 10)) (mC (.i 20)))) zm)))) (zJ rfl (zJ (zl (zl rfl rfl p9) rfl rfl) (zJ (zl rfl rfl p9) (zJ (zl rfl (zl rfl rfl p20) rfl) rfl)))) (P9 rfl)) er (by show r<4;omega);exact⟨_,(bN (vm rfl tt)).trans (vZ (bO rfl e4))⟩
  .rw[L7 c]at tt;exact⟨b0,(Ws (vm rfl tt)).trans rfl⟩
 obtain⟨us,lu,hu,e5⟩:=oE (ns:=ns) hw lw;have hz:∀w∈us,w.nm.length<=1000/\w.ls.length<=1000:=λw hw'=>⟨O8 (hu w hw').1 (by decide),by rw[(hu w hw').2];decide⟩;have s4:wo 3 (hP [true,true] (zh ql (zb (zc 0) (zb (zc 1) zm)))) [some (.v (.sc ns)),some (.v (wsP ws)),some (.v (.i B)),none,none,none,none,none] [.y true]=.nx [some (.v (.sc ns)),some (.v (wsP ws)),some (.v (.i B)),some (.v (wsP us)),none,none,none,none] [.y true]:=vZ (bO rfl (z7 (xs:=[.sc ns,wsP ws]) rfl e5));have e6:=Qw (g:=UU) (e:=UW) wkP wkP (λρ=>∃z,ρ=[z]) us [none] ⟨_,rfl⟩ (λw hw' ρ ⟨q,ez⟩=>by
  subst ez;exact⟨_,rfl,⟨_,rfl⟩,UY (zJ rfl (zJ rfl (zJ rfl (zJ rfl rfl)))) (P9 rfl)⟩) (by omega)
 have s5:wo 4 (hP [false,false,false,true] (mLC (qy (zc 3)) [none] UU fH UW)) [some (.v (.sc ns)),some (.v (wsP ws)),some (.v (.i B)),some (.v (wsP us)),none,none,none,none] [.y true]=.nx (lSt ns ws B us none none none) [.y true]:=vZ (bO rfl (WU (qa rfl) e6));have s6:wo 5 (hP [false,false,false,true] (zh vh (zb (zc 3) zm))) (lSt ns ws B us none none none) [.y true]=.nx (lSt ns ws B us (some (.v (rW (dv us)))) none none) [.y true]:=vZ (bO rfl (z7 (xs:=[wsP us]) rfl (Eg hz)));have s7:oX (hgT 2 (jX (hgN 6) (jX (hgN 7) bj))) (ZO zR (yo (jt 3) (yo (hP [] (mC .n)) Ko))) (lSt ns ws B us (some (.v (rW (dv us)))) none none) [.y true]=.nx (lSt ns ws B us (some (.v (rW (dv us)))) (some (.v (rW (dv us)))) (some (.v .n))) [.y true]:=by unfold oX;rw[Zm (xs:=[.v (wsP us),.v .n]) rfl (A4 λw hw'=>(hz w hw').1)];rfl
 obtain⟨a',b',c',G',r',em⟩:=Es (ns:=ns) (ws:=ws) (B:=B) (us:=us) (G:=[.y true]) (b:=some (.v (rW (dv us)))) (c:=some (.v .n)) (λw hw'=>(hz w hw').1) (.inl rfl);obtain⟨G2,et⟩:=Bc (ns:=ns) (B:=B) (us:=us) (a:=a') (b:=b') (c:=c') dw r';exact⟨G2,QO (zA s1 (zA s2 (zA s3 (zA s4 (zA s5 (zA s6 (zA s7 (zA (dJ sU) ((em _).trans et)))))))))⟩
end
end NCS
structure IsE{α:Type}(a b:α):Prop where
 e:a=b
def oH(K:Io)(Pt:Addr):Sp:=λvs H Q _=>∃(a:Addr)(ns:HY),vs=[.ref a]/\H Pt=some (.tbl #[])/\SqL K H a (ns.map V.int)/\ns.length<=63/\∀H',Q (.bl true) H'
def all_mk{l:W.OpenLaw}{w:H_}{K:Io}{h:Heap}{mg:Hv}{fa yn zD zp zB zU zC zq KR Qe WK kg Qf ki ZC wc ky jq vE YC Qd kn XW vo kh ZH YD kj ZA XX gd Yy JF JG Qa JH JB Jz KN KO dR U_ dQ:Addr}{sW:Ie}{gb:Im}{KS Y_ WL ZI Qi ZG ZE Qc kr vF vG YB Y9 ko XU vn Zy ZF Yz Zz ZK Kf gc YA JA JI Ql JD JC JE KP KU d0:Ib}{sZ:Iq}{b8 Qh ZD Qm f_:Tok}{sX:Value}(X:K.In h)(G:h.Ns mainGlobals mg)(hfa:mg "law"=some (.ref fa))
  (dr:W.nsIn K mainGlobals "LIMIT"=some (some (.int 1000000000 b8)))
  (Z8:W.nsIn K mainGlobals "NAME_SIGNS"=some (some (.str "abcdefghijklmnopqrstuvwxyz0123456789" Qh)))
  (vS:W.nsIn K mainGlobals "LONGEST_NAME"=some (some (.int 12 ZD)))
  (Z9:W.nsIn K mainGlobals "MOST_WEEKS"=some (some (.int 40 Qm)))
  (XB:W.nsIn K mainGlobals "DAYS"=some (some (.int 7 f_)))
  (Z_:NsR K "FleetError" yn)
  (Ya:NsR K "BadName" zD)
  (wO:NsR K "BadNumber" zp)
  (Ja:NsR K "TooMany" zB)
  (UR:NsR K "Twice" zU)
  (Jb:NsR K "NoNight" zC)
  (Jc:NsR K "Crowded" zq)
  (Yb:NsN K "ValueError")
  (nD:NsN K "bool")
  (fE:NsN K "dict")
  (nE:NsN K "int")
  (zV:NsN K "isinstance")
  (ZP:NsN K "len")
  (XE:NsN K "list")
  (gR:NsN K "max")
  (Ar:NsN K "min")
  (j9:NsN K "range")
  (Jd:NsN K "sorted")
  (As:NsN K "str")
  (Wa:NsN K "sum")
  (zr:DfN K "_law_draw" JX KR KS)
  (vv:DfN K "_law_spoilt" ZZ Qe Y_)
  (Je:DfN K "_law_due" V6 WK WL)
  (h8:XMk K zB kg)
  (Qj:Fun K "__init__" "TooMany.__init__" vJ kg ZI)
  (vx:DfN K "check_most" Z0 Qf Qi)
  (hV:XMk K zD ki)
  (Qg:Fun K "__init__" "BadName.__init__" vL ki ZG)
  (jR:DfN K "checked_name" vM ZC ZE)
  (sY:XMk K zU wc)
  (KQ:Fun K "__init__" "Twice.__init__" Z1 wc Qc)
  (qb:DfN K "checked_new_name" qZ ky kr)
  (b9:XMk K zp jq)
  (ZJ:Fun K "__init__" "BadNumber.__init__" j7 jq vF)
  (yf:DfN K "checked_number" j8 vE vG)
  (yW:DfN K "check_weeks" wL YC YB)
  (vy:DfN K "needs_care" Z2 Qd Y9)
  (qc:DfN K "can_be_cared_for" q_ kn ko)
  (YM:DfN K "nights" UL XW XU)
  (yp:DfN K "nights_of_needy" jv vo vn)
  (h9:XMk K zC kh)
  (Qk:Fun K "__init__" "NoNight.__init__" vN kh Zy)
  (jS:DfN K "check_served" vO ZH ZF)
  (qt:DfN K "cars_within" wM YD Yz)
  (hX:XMk K zq kj)
  (Qb:Fun K "__init__" "Crowded.__init__" vP kj Zz)
  (jT:DfN K "check_crowds" vQ ZA ZK)
  (vz:DfN K "served" UM XX Kf)
  (XF:DfN K "care" nB gd gc)
  (qu:DfN K "_law_refusal" wN Yy YA)
  (yg:DfN K "_law_asked" QB JF JA)
  (jx:DfN K "_law_needs" QC JG JI)
  (qN:DfN K "_law_number" Z3 Qa Ql)
  (wQ:DfN K "_law_crowd" QD JH JD)
  (wR:DfN K "_law_cared" QE JB JC)
  (yh:DfN K "_law_right" QF Jz JE)
  (YN:DfN K "_law_name" JY KN KP)
  (YO:DfN K "_law_week" JZ KO KU)
  (nF:DfN K "law" Aq dR d0)
  (dZ:QV K zD)
  (dP:XIs K zD)
  (dW:Catch K zD yn true)
  (K9:W.takerIn K zD "name"=some none)
  (Va:W.findIn K (.ref zD) "name"=some none)
  (U9:QV K zp)
  (U8:XIs K zp)
  (U7:Catch K zp yn true)
  (QQ:W.takerIn K zp "value"=some none)
  (QP:W.findIn K (.ref zp) "value"=some none)
  (dO:QV K zB)
  (dX:XIs K zB)
  (d6:Catch K zB yn true)
  (K_:W.takerIn K zB "most"=some none)
  (K7:W.findIn K (.ref zB) "most"=some none)
  (oK:QV K zU)
  (oM:XIs K zU)
  (oJ:Catch K zU yn true)
  (Xd:W.takerIn K zU "name"=some none)
  (Xc:W.findIn K (.ref zU) "name"=some none)
  (dS:QV K zC)
  (dU:XIs K zC)
  (dM:Catch K zC yn true)
  (K8:W.takerIn K zC "name"=some none)
  (Ve:W.findIn K (.ref zC) "name"=some none)
  (d7:QV K zq)
  (dN:XIs K zq)
  (dY:Catch K zq yn true)
  (Kc:W.takerIn K zq "first"=some none)
  (Ke:W.findIn K (.ref zq) "first"=some none)
  (Vd:W.takerIn K zq "last"=some none)
  (Vc:W.findIn K (.ref zq) "last"=some none)
  (Vf:W.takerIn K zq "cars"=some none)
  (Vb:W.findIn K (.ref zq) "cars"=some none)
  (kG:ik K zD zD)
  (kH:qR K zp zD)
  (kI:qR K zB zD)
  (kJ:qR K zU zD)
  (kK:qR K zC zD)
  (kL:qR K zq zD)
  (wV:qR K zD zU)
  (wW:qR K zp zU)
  (wX:qR K zB zU)
  (wY:ik K zU zU)
  (wZ:qR K zC zU)
  (w4:qR K zq zU)
  (jE:qR K zD zp)
  (jF:ik K zp zp)
  (jG:qR K zB zp)
  (jH:qR K zU zp)
  (jI:qR K zC zp)
  (jJ:qR K zq zp)
  (kM:qR K zD zB)
  (kN:qR K zp zB)
  (kO:ik K zB zB)
  (kQ:qR K zU zB)
  (kR:qR K zC zB)
  (kT:qR K zq zB)
  (kU:qR K zD zC)
  (kW:qR K zp zC)
  (kX:qR K zB zC)
  (kY:qR K zU zC)
  (kZ:ik K zC zC)
  (k7:qR K zq zC)
  (k8:qR K zD zq)
  (k9:qR K zp zq)
  (k_:qR K zB zq)
  (vc:qR K zU zq)
  (vd:qR K zC zq)
  (ve:ik K zq zq)
  (jb:W.kitOne K (.ref zD) (.type "ValueError")=some true)
  (jc:W.kitOne K (.ref zp) (.type "ValueError")=some true)
  (jd:W.kitOne K (.ref zB) (.type "ValueError")=some true)
  (je:W.kitOne K (.ref zU) (.type "ValueError")=some true)
  (jf:W.kitOne K (.ref zC) (.type "ValueError")=some true)
  (jg:W.kitOne K (.ref zq) (.type "ValueError")=some true)
  (Ye:W.kitOne K (.type "bool") (.type "bool")=some true)
  (QJ:W.kitOne K (.type "int") (.type "bool")=some false)
  (J7:W.kitOne K (.type "int") (.type "int")=some true)
  (QK:W.kitOne K (.type "bool") (.type "int")=some true)
  (Yf:W.kitOne K (.type "list") (.type "list")=some true)
  (Yg:W.kitOne K (.type "dict") (.type "dict")=some true)
  (fF:IsE Kf.code (.ref U_))
  (lk_tab:IsE (K.lookup U_) (some ⟨sX,sZ,.fields gb,sW⟩))
  (ix_tab:IsE (gb[11]?) (some (.ref dQ)))
  (nt_tab:W.noTabs K=true)
  : ∃(fd:Ib)(c Pt:Addr),W.tabIn K "served"=some (c,Pt)/\W.noTabs K=true/\(∀(s:Hy)(v:Value),BindsTo s fd ⟨[v],[]⟩ [("_law_script",v)])/\∀base:Heap,K.In base->base.Ns mainGlobals mg->m9 base mg c Pt->jr l.prog w K mg base (CXe l.prog w) 9 fa fd ["_law_script"] (oH K Pt):=by
 have e:dR=fa:=by have e:=hfa.symm.trans (a0J X G nF.1);injection e with e;injection e with e;exact e.symm
 subst e;have T:Txt K mg ⟨yn,zD,zp,zB,zU,zC,zq,KR,Qe,WK,kg,Qf,ki,ZC,wc,ky,jq,vE,YC,Qd,kn,XW,vo,kh,ZH,YD,kj,ZA,XX,gd,Yy,JF,JG,Qa,JH,JB,Jz,KN,KO,dR,U_,dQ,KS,Y_,WL,ZI,Qi,ZG,ZE,Qc,kr,vF,vG,YB,Y9,ko,XU,vn,Zy,ZF,Yz,Zz,ZK,Kf,gc,YA,JA,JI,Ql,JD,JC,JE,KP,KU,d0,b8,Qh,ZD,Qm,f_⟩:=⟨⟨a0J X G dr,a0J X G Z8,a0J X G vS,a0J X G Z9,a0J X G XB,a0J X G Z_,a0J X G Ya,a0J X G wO⟩,⟨a0J X G Ja,a0J X G UR,a0J X G Jb,a0J X G Jc,a0g X G Yb,a0g X G nD,a0g X G fE,a0g X G nE⟩,⟨a0g X G zV,a0g X G ZP,a0g X G XE,a0g X G gR,a0g X G Ar,a0g X G j9,a0g X G Jd,a0g X G As⟩,⟨a0g X G Wa,yP X G zr bn3,yP X G vv bn2,yP X G Je bn1,Qj,Qj.binds bn2,yP X G vx bn2,Qg⟩,⟨Qg.binds bn2,yP X G jR bn1,KQ,KQ.binds bn2,yP X G qb bn2,ZJ,ZJ.binds bn2,yP X G yf bn2⟩,⟨yP X G yW bn1,yP X G vy bn3,yP X G qc bn4,yP X G YM bn3,yP X G yp bn1,Qk,Qk.binds bn2,yP X G jS bn1⟩,⟨yP X G qt bn3,Qb,Qb.binds bn4,yP X G jT bn2,yP X G vz bn2,yP X G XF bn2,yP X G qu bn1,yP X G yg bn2⟩,⟨yP X G jx bn1,yP X G qN bn1,yP X G wQ bn5,yP X G wR bn4,yP X G yh bn2,yP X G YN bn3,yP X G YO bn2,yP X G nF bn1⟩,⟨dZ,dP,hV,dW,K9,Va,U9,U8⟩,⟨b9,U7,QQ,QP,dO,dX,h8,d6⟩,⟨K_,K7,oK,oM,sY,oJ,Xd,Xc⟩,⟨dS,dU,h9,dM,K8,Ve,d7,dN⟩,⟨hX,dY,Kc,Ke,Vd,Vc,Vf,Vb⟩,⟨kG,kH,kI,kJ,kK,kL,wV,wW⟩,⟨wX,wY,wZ,w4,jE,jF,jG,jH⟩,⟨jI,jJ,kM,kN,kO,kQ,kR,kT⟩,⟨kU,kW,kX,kY,kZ,k7,k8,k9⟩,⟨k_,vc,vd,ve,jb,jc,jd,je⟩,⟨jf,jg,Ye,QJ,J7,QK,Yf,Yg⟩,fF.e⟩;have eb:∀(s:Hy)(v:Value),BindsTo s d0 ⟨[v],[]⟩ [("_law_script",v)]:=by obtain⟨_,_,_,_,_,_,_,_,_,rfl,_,_⟩:=nF.2.ex;exact λs v=>.of_eq rfl
 have tb:W.tabIn K "served"=some (U_,dQ):=by obtain⟨_,_,_,_,_,_,_,_,_,rfl,lk,_⟩:=vz.2.ex;exact Dx vz.1 lk fF.e lk_tab.e ix_tab.e
 refine⟨_,_,_,tb,nt_tab,eb,λbase _ _ TB=>(DL T TB).imp λvs H Q E ⟨p,ns,e,hT,hS,hl,k⟩=>?_⟩;subst e;exact rQ (W:=WW K _) hT hS (sV ns hl) k
def walk{l:W.OpenLaw}{q:HQ}{loose:Hx}{XP:(Str->Option Value)->Heap->Prop}{YP:World->Heap->Prop}{d d':DefRec}{K:Params->W.Frag}(hn:l.most=some 63)(hdf:d.params.defaults=[])
  (hY:∀(w:H_)(h:Heap),YP w h->(K w.params).In h) (hy:(PyProof.Rows.recsOf q).find? (λe=>e.name==("served":Str))=some d')
  (F:∀(w:H_)(mg:Hv)(fa:Addr)(h:Heap),(K w.params).In h->h.Ns mainGlobals mg->mg d.name=some (.ref fa)->
   ∃(fd:Ib)(c Pt:Addr),W.tabIn (K w.params) "served"=some (c,Pt)/\W.noTabs (K w.params)=true/\(∀(s:Hy)(u:Value),BindsTo s fd ⟨[u],[]⟩ [("_law_script",u)])/\∀base:Heap,(K w.params).In base->base.Ns mainGlobals mg->m9 base mg c Pt->jr l.prog w (K w.params) mg base (CXe l.prog w) 9 fa fd ["_law_script"] (oH (K w.params) Pt)):
  W.WalkO q loose XP YP l.row.toRowW d [] (λf vs=>PySem.call f vs):=
 L2.rO (n:=63) (k:=9) (x:="_law_script") (CX:=λw=>CXe l.prog w) (sp:=λw=>oH (K w.params)) hn (by decide) hdf ⟨rfl,by decide,by decide⟩ hY hy F (λ_ _ H a ns hl hO hS=>⟨a,ns,rfl,hO.1,hS,hl,λ_=>rfl⟩) λ_ _ _ _ _ z=>bc z
end K48
open PySem PySem.W PyProof.Rows
namespace PySem.W.Fast
def tw15341881584535232816:=()
def tw12604759629247006998:=()
def tw6511373892879227835:=()
def tw17321691322439885542:=()
def tw16952279752871782929:=()
def tw16190833458235536021:=()
def tw3058842336860892667:=()
def tw2254550364928174918:=()
def tw9583581708805219652:=()
def tw1770417621052455779:=()
def tw11500645251971488018:=()
def tw2175647466402982837:=()
def tw17160081365029505137:=()
def tw84208607210779050:=()
def tw10114933179757664768:=()
def tw2223958210166800077:=()
def tw9874490722219638549:=()
def tw14482696659615522466:=()
def tw7552504732769973315:=()
def tw12668375853084828568:=()
end PySem.W.Fast
set_option maxRecDepth 100000 in
set_option maxHeartbeats 0 in
theorem PySem.Challenge.cw_fleetpath_k48_care_holds : PySem.Challenge.rw_fleetpath_k48_care.Holds := by
 w_on;o_law;k_head;(case hw=>w_witness2)
 k_fill
 refine K48.walk (l:=PySem.Challenge.rw_fleetpath_k48_care) rfl rfl (λw h Y=>PySem.W.km_in_of Y) rfl ?F
 case F=>
  intro w mg fa h KX G hmg;refine' K48.all_mk KX G hmg ?_ ?_ ?_ ?_ ?_ ?_ ?_ ?_ ?_ ?_ ?_ ?_ ?_ ?_ ?_ ?_ ?_ ?_ ?_ ?_ ?_ ?_ ?_ ?_ ?_ ?_ ?_ ?_ ?_ ?_ ?_ ?_ ?_ ?_ ?_ ?_ ?_ ?_ ?_ ?_ ?_ ?_ ?_ ?_ ?_ ?_ ?_ ?_ ?_ ?_ ?_ ?_ ?_ ?_ ?_ ?_ ?_ ?_ ?_ ?_ ?_ ?_ ?_ ?_ ?_ ?_ ?_ ?_ ?_ ?_ ?_ ?_ ?_ ?_ ?_ ?_ ?_ ?_ ?_ ?_ ?_ ?_ ?_ ?_ ?_ ?_ ?_ ?_ ?_ ?_ ?_ ?_ ?_ ?_ ?_ ?_ ?_ ?_ ?_ ?_ ?_ ?_ ?_ ?_ ?_ ?_ ?_ ?_ ?_ ?_ ?_ ?_ ?_ ?_ ?_ ?_ ?_ ?_ ?_ ?_ ?_ ?_ ?_ ?_ ?_ ?_ ?_ ?_ ?_ ?_ ?_ ?_ ?_ ?_ ?_ ?_ ?_ ?_ ?_ ?_ ?_ ?_ ?_ ?_ ?_ ?_ ?_ ?_ ?_ ?_
  all_goals try(first|((first|refine'⟨?_,L2.tK ?_ ?_ ?_⟩|refine' L2.tK ?_ ?_ ?_|refine' K48.DA ?_ ?_ ?_ ?_ ?_)<;>try first|k_is|kernel_rfl)|(show _=_;first|k_is|kernel_rfl)|(first|refine⟨?_,?_,?_,?_,?_⟩|refine⟨?_,?_,?_,?_⟩|refine⟨?_,?_,?_⟩)<;>first|k_is|kernel_rfl)
  all_goals try(refine K48.IsE.mk ?_;first|k_is|rfl)
#print axioms PySem.Challenge.cw_fleetpath_k48_care_holds

