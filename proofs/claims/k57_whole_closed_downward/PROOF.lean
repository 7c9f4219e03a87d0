import PyProof.Rows.All
import Wide.All
import OpenK.AllK
import Wide.FinOn
import Lean
import PyProof.EqAt
import PyProof.EqKinds
import PyProof.TupleCall
import PyProof.NeKinds
import PyProof.Rows.CountFlat
import PyProof.Rows.SumAny
import PyProof.Rows.Range3
import KE.KEqDict
import KE.KRevIter
import PyProof.DictIter
import PyProof.DictWalks
import PyProof.IsiH_list
import KE.KDictOf
import PyProof.Rows.SetFrom
import PyProof.Conv_int_bool
import PyProof.Rows.StrNews
import PyProof.CallStr
import PyProof.Rows.StrMeet
import PyProof.FitsReplace
import PyProof.MeetsStr3
import PyProof.Rows.StrSplitAre
import PyProof.StrLawsIn
import PyProof.ReprLen
import PyProof.StrLawsChain
import KE.IntTextLaws
import PyProof.Rows.StrClose5
import KE.KSortTup
import PyProof.Rows.SortKey
import KE.KLam
import PyProof.DictUpdate
import KE.KDictSum
import PyProof.WalksEnum
import PyProof.EnumMake
import PyProof.ZipIter
import PyProof.Rows.EnumRows
import PyProof.Rows.ZipForRows
import PyProof.Rows.FactsT2
import PyProof.Rows.SortStr
import PyProof.TupleIter
import PyProof.ToksMono
import PyProof.SetRoads
import PyProof.StrReplace2
import PySem.Challenge.RW_fleetpath_k57_whole_closed_downward
set_option hygiene false in
local macro_rules | `(tactic| ac_rfl)=>`(tactic| first|assumption|exact Inv.tk (by assumption)|exact Nat.le_trans (Inv.tk (by assumption)) (Nat.le_add_right _ _)|exact Nat.le_succ_of_le (Nat.le_trans (Inv.tk (by assumption)) (Nat.le_add_right _ _)))
set_option compiler.extract_closed false
set_option bootstrap.genMatcherCode false
set_option genInjectivity false
set_option genSizeOf false
set_option genSizeOfSpec false
set_option Elab.async false
set_option linter.all false
set_option maxRecDepth 100000
noncomputable section
def f8:=@PySem.wpAny_bind
def u8:=@List.mem_cons_self
def v4:=@List.length_map
def a0a:=@List.mem_cons_of_mem
def a0b:=@List.length_cons
def a0c:=@Option.map_eq_some_iff
def a0d:=@PySem.Heap.get?_push_of_some
def a0e:=@Nat.le_refl
def a0f:=@decide_eq_true
def a0g:=@List.length_append
def a0h:=@PySem.wpAny_pure
def a0i:=@PySem.Heap.lt_size
def a0j:=@List.map_cons
def a0k:=@decide_eq_false
def a0l:=@List.mem_singleton
def a0m:=@Nat.le_of_ble_eq_true
def a0n:=@List.getElem?_eq_getElem
def a0o:=@List.size_toArray
def a0p:=@List.mem_append_right
def a0q:=@Bool.false_ne_true
def a0r:=@List.mem_cons
def a0s:=@List.append_nil
def a0t:=@Nat.ne_of_lt
def a0u:=@Nat.lt_of_lt_of_le
def a0v:=@List.getElem?_eq_some_iff
def a0w:=@List.append_assoc
def a0x:=@PySem.Heap.get?_push_size
def a0y:=@Nat.le_trans
def a0z:=@List.map_append
def a0A:=@List.mem_append
def a0B:=@Option.bind_eq_some_iff
def a0C:=@Int.emod_lt_of_pos
def a0D:=@List.getElem?_map
def a0E:=@List.getElem?_set_self
def a0F:=@PySem.Heap.get?_update_other
def a0G:=@List.getElem?_set_ne
def a0H:=@Int.emod_nonneg
def a0I:=@beq_iff_eq
def a0J:=@List.mem_append_left
def a0K:=@PySem.W.mg_of
def a0L:=@List.map_map
def a0M:=@List.lookup_cons
def a0N:=@List.mem_map_of_mem
def a0O:=@congrArg
def a0P:=@PySem.wpAny_with_toks
def a0Q:=@of_decide_eq_true
def a0R:=@List.getElem?_cons_succ
def a0S:=@List.mem_map
def a0T:=@Option.some.inj
def a0U:=@Option.isSome_iff_exists
def a0V:=@List.length_set
def a0W:=@List.take_succ_eq_append_getElem
def a0X:=@List.filter_cons
def a0Y:=@Nat.zero_le
def a0Z:=@beq_eq_false_iff_ne
def a00:=@List.length_take
def a01:=@List.getD_eq_getElem?_getD
def a02:=@List.length_range
def a03:=@Int.le_refl
def a04:=@List.getElem_mem
def a05:=@Classical.choose_spec
def a06:=@PySem.sizeLine_eq
def a07:=@PySem.wpAny_mono
def a08:=@List.getElem_map
def a09:=@List.getElem?_append_left
def a1a:=@PySem.wpAny_holding
def a1b:=@List.any_cons
def a1c:=@List.length_singleton
def a1d:=@List.all_eq_true
def a1e:=@List.exists_cons_of_ne_nil
def a1f:=@List.nodup_cons
def a1g:=@PySem.Heap.get?_update_self
def a1h:=@List.cons_ne_nil
def a1i:=@Nat.lt_irrefl
def a1j:=@List.mem_filter
def a1k:=@List.nil_append
def a1l:=@List.replicate_succ
def a1m:=@Nat.le_succ
def a1n:=@PySem.W.mg_none_of
def a1o:=@List.take_length
def a1p:=@List.mem_range
def a1q:=@PySem.wpAny_Call_Name_kw
def a1r:=@PySem.F.slot_dict_get
def a1s:=@List.rel_of_pairwise_cons
def a1t:=@List.foldl_cons
def a1u:=@List.flatten_cons
def a1v:=@PySem.Heap.size_push
def a1w:=@Nat.lt_succ_self
def a1x:=@List.length_drop
def a1y:=@Sum.inr.inj
def a1z:=@PySem.tupleKind_room_in1
def a1A:=@decide_eq_true_iff
def a1B:=@PySem.wpAny_passesOwn
def a1C:=@List.length_replicate
def a1D:=@Nat.le_succ_of_le
def a1E:=@PySem.wpAny_truthy_bool
def a1F:=@List.nodup_append
def a1G:=@Bool.and_eq_true
def a1H:=@List.not_mem_nil
def a1I:=@PySem.mem_of_lookup
def a1J:=@Array.length_toList
def a1K:=@List.map_congr_left
def a1L:=@List.getElem?_replicate
def a1M:=@PySem.Paired.length
def a1N:=@PySem.wpAny_call
def a1O:=@Nat.lt_of_le_of_lt
def a1P:=@List.filter_append
def a1Q:=@PySem.F.entry_dict_get
def a1R:=@List.take_of_length_le
def a1S:=@Option.isSome_map
def a1T:=@List.pairwise_map
def a1U:=@Nat.ne_of_gt
def a1V:=@PySem.codeAny_mono
def a1W:=@Bool.and_false
def a1X:=@Bool.false_xor
def a1Y:=@PyProof.Rows.callWith_type1
def a1Z:=@List.mem_of_getElem?
def a10:=@PySem.codeAny_call_builtin
def a11:=@beq_self_eq_true
def a12:=@Nat.succ_le_succ
def a13:=@List.getLast?_concat
def a14:=@PySem.wpAny_standAt
def a15:=@List.all_cons
def a16:=@Array.getElem?_eq_some_iff
def a17:=@Bool.true_xor
def a18:=@List.map_take
def a19:=@List.cons.inj
def a2a:=@List.length_nil
def a2b:=@List.find?_cons
def a2c:=@List.drop_eq_getElem_cons
def a2d:=@List.pairwise_iff_getElem
def a2e:=@PySem.Calls.spliced_cons
def a2f:=@PySem.W.callWith_K
def a2g:=@Int.le_trans
def a2h:=@List.getElem_range
def a2i:=@PySem.wpAny_typeOf
def a2j:=@of_decide_eq_false
def a2k:=@PySem.wpAny_loadPart
def a2l:=@PySem.wpAny_newObj_type
def a2m:=@Nat.lt_succ_of_lt
def a2n:=@Int.toNat_natCast
def a2o:=@PySem.Calls.callWith_builtin
def a2p:=@List.eraseIdx_append_of_length_le
def a2q:=@PySem.wpAny_attempt
def a2r:=@List.sum_cons
def a2s:=@Nat.le_add_right
def a2t:=@PySem.wpAny_isInstance
def a2u:=@PySem.builtinLookup_eq_fast
def a2v:=@List.length_filter_le
def a2w:=@List.append_inj_left'
def a2x:=@PySem.plainObj_wpAny_Assign_Attribute
def a2y:=@Nat.le_of_lt
def a2z:=@PySem.wpAny_execs_nil
def a2A:=@Nat.le_of_eq
def a2B:=@PySem.Calls.evalArgs_plain
def a2C:=@Nat.lt_trans
def a2D:=@PySem.W.looks_findIn
def a2E:=@List.getElem?_append
def a2F:=@Nat.not_lt_zero
def a2G:=@List.mem_of_mem_take
def a2H:=@List.eq_nil_of_length_eq_zero
def a2I:=@List.filterMap_cons
def a2J:=@PySem.W.plainGet_of
def a2K:=@PySem.Heap.get?_update_ne
def a2L:=@Int.toNat_of_nonneg
def a2M:=@Array.toList_append
def a2N:=@List.nodup_nil
def a2O:=@List.dropLast_concat_getLast
def a2P:=@PySem.wpAny_field
def a2Q:=@List.pairwise_cons
def a2R:=@PySem.Calls.Name_function_global
def a2S:=@List.getElem?_append_right
def a2T:=@List.map_drop
def a2U:=@Array.perm_iff_toList_perm
def a2V:=@PyProof.Rows.listUpdate_at
def a2W:=@List.nodup_iff_pairwise_ne
def a2X:=@PySem.Within.cons
def a2Y:=@PySem.Calls.spliced_nil
def a2Z:=@PySem.codeAny_with_toks
def a20:=@Nat.le_of_succ_le
def a21:=@PySem.wpAny_pyIter_list
def a22:=@PySem.wpAny_eqBool_int
def a23:=@PySem.wpAny_lookBehind
def a24:=@PySem.pastItsLine_dict
def a25:=@PySem.call_meetsIn
def a26:=@PySem.wpAny_comprehension_free
def a27:=@List.drop_length
def a28:=@PyProof.Rows.KeyOrd.kle_trans
def a29:=@PyProof.Rows.KeyOrd.klt_asymm
def a3a:=@Array.toList_inj
def a3b:=@List.eq_of_mem_replicate
def a3c:=@List.Pairwise.imp_of_mem
def a3d:=@List.mem_of_mem_eraseIdx
def a3e:=@PySem.F.args_dict_get_2
def a3f:=@PySem.F.args_dict_get_3
def a3g:=@PySem.F.plainAttrs_dict
def a3h:=@PySem.F.plainAttrs_list
def a3i:=@List.filter_cons_of_pos
def a3j:=@List.filter_cons_of_neg
def a3k:=@List.of_mem_zip
def a3l:=@PySem.pushCells_keeps
def a3m:=@PySem.typeLookup_type
def a3n:=@PySem.wpAny_updateSeq
def a3o:=@PySem.W.cellsFrom_some
def a3p:=@PyProof.Rows.subscriptTail_builtinR
def a3q:=@PySem.W.looks_mroIn
def a3r:=@Array.getElem?_eq_none
def a3s:=@PySem.wpAny_of_eq
def a3t:=@PySem.F.type_dict_get
def a3u:=@PySem.wpAny_setField
def a3v:=@PySem.W.methodCall_KW
def a3w:=@PyProof.Rows.boot_min
def a3x:=@List.getElem?_toArray
def a3y:=@PySem.wpAny_loadName_local
def a3z:=@PySem.wpAny_load
def a3A:=@Array.mem_toList_iff
def a3B:=@PySem.call_meets
def a3C:=@Bool.and_eq_true_iff
def a3D:=@PySem.wpAny_rule
def a3E:=@PySem.Around.under_plainId
def a3F:=@Bool.true_and
def a3G:=@PySem.plainId_quiet
def a3H:=@PySem.wpAny_loadName_cell
def a3I:=@PySem.W.callWith_K0
def a3J:=@List.getElem_of_mem
def a3K:=@List.map_eq_nil_iff
def a3L:=@List.length_pos_iff
def a3M:=@PySem.SeqAt.EqAt.int_str
def a3N:=@PySem.SeqAt.EqAt.str_int
def a3O:=@Array.append_assoc
def a3P:=@List.mem_filterMap
def a3Q:=@Array.find?_toList
def a3R:=@PySem.wpAny_nsSet1
def a3S:=@PySem.seqIndex_neg
def a3T:=@List.map_nil
def a3U:=@PySem.Code.quiet_builtin
def a3V:=@PySem.wpAny_mkText
def a3W:=@Int.le_total
def a3X:=@Nat.zero_add
def a3Y:=@Nat.sub_self
def a3Z:=@Array.forIn_toList
def a30:=@Array.append_empty
def a31:=@List.singleton_inj
def a32:=@Iff.rfl
def a33:=@PySem.seqIndex_of
def a34:=@PySem.W.looks_clsIn
def a35:=@PySem.wpAny_throw
def a36:=@PySem.numAt_eq
section
open PySem PySem.Spec PyProof.Rows PySem.W
abbrev a37:=(Str->Option Value)
abbrev a38:=(List (Addr×Obj))
abbrev a39:=List Nat
abbrev a40:=List Str
abbrev a41:=(Value->Shared->Prop)
abbrev a42:=Shared
abbrev a43:=(Addr->Prop)
abbrev a44:=List Expr
abbrev a45:=Expr
abbrev a46:=List Value
abbrev a47:=List Bool
abbrev a48:=PySem.W.Frag
abbrev a49:=(Nat->Addr)
abbrev a4b:=Program
abbrev a4e:=World
abbrev a4f:=List (Option Nat)
abbrev a4i:=Around
abbrev a4j:=FuncData
abbrev a4k:=List Int
abbrev a4n:=W.Frag
abbrev a4p:=Frag
abbrev a4q:=(List (Str×Addr))
abbrev a4r:=List Stmt
abbrev a4s:=(List (Str×NameKind))
abbrev a4t:=Array (Option Value)
abbrev a4u:=Array Value
abbrev a4v:=Option Addr
abbrev a4w:=List Addr
abbrev a4x:=Array Nat
abbrev a4z:=Stmt
abbrev a4A:=(List (Str×Value))
abbrev a4D:=Option Int
abbrev a4E:=(Str->Option NameKind)
abbrev a4F:=Option Expr
abbrev a4I:=(Nat->Nat->Bool)
abbrev a4J:=(Nat->Shared->Prop)
abbrev a4K:=(Nat->Value->Prop)
abbrev a4M:=(Nat->Prop)
abbrev a4O:=(Value->Option Bool)
abbrev a4P:=(Nat->Value)
end
namespace L2
open PySem PySem.Spec PyProof.Rows
abbrev Key:=Sum Int Str
abbrev a4y:=List Key
abbrev a4B:=(List (Key×Value))
abbrev a4C:=(List (List Key×Int))
def pR:Key->Value->Bool
 |.inl k,v=>Value.isInt k v
 |.inr x,v=>Value.isStrOf x v
def zaJ(w:a4e):Key->Int
 |.inl k=>hashInt k
 |.inr x=>hashStr w x
def yR:∀{k:Key}{v:Value},pR k v=true->(∃i t,k=Sum.inl i/\v=Value.int i t)\/(∃x t,k=Sum.inr x/\v=Value.str x t)
 |.inl i,v,h=>by obtain⟨t,e⟩:=Value.isInt_shape (k:=i) (v:=v) h;exact .inl ⟨i,t,rfl,e⟩
 |.inr x,v,h=>by obtain⟨t,e⟩:=Value.isStrOf_shape (x:=x) (v:=v) h;exact .inr ⟨x,t,rfl,e⟩
def A5(i:Int)(t:Tok):pR (.inl i) (.int i t)=true:=by simp[pR,Value.isInt]
def A6(x:Str)(t:Tok):pR (.inr x) (.str x t)=true:=by simp[pR,Value.isStrOf]
def Ny(a b:Int):decide ((Sum.inl a:Key)=Sum.inl b)=(a==b):=by
 by_cases e:a=b
 .subst e;simp
 .have h:¬(Sum.inl a:Key)=Sum.inl b:=λq=>e (Sum.inl.inj q);rw[a0k h];exact(a0Z.mpr e).symm
def Nz(a b:Str):decide ((Sum.inr a:Key)=Sum.inr b)=decide (a=b):=by
 by_cases e:a=b
 .subst e;simp
 .have h:¬(Sum.inr a:Key)=Sum.inr b:=λq=>e (a1y q);rw[a0k h,a0k e]
def NB(a:Int)(b:Str):decide ((Sum.inl a:Key)=Sum.inr b)=false:=a0k (λq=>nomatch q)
def NC(a:Str)(b:Int):decide ((Sum.inr a:Key)=Sum.inl b)=false:=a0k (λq=>nomatch q)
def yG(prog:a4b)(w:a4e):PySem.KeyKind prog w Key where
 is:=pR
 hash:=zaJ w
 inj:=λv a b ha hb=>by
  rcases yR ha with⟨i,t,rfl,rfl⟩|⟨x,t,rfl,rfl⟩
  .rcases yR hb with⟨j,u,rfl,e⟩|⟨y,u,rfl,e⟩
   .injection e with e1 _;rw[e1]
   .exact nomatch e
  .rcases yR hb with⟨j,u,rfl,e⟩|⟨y,u,rfl,e⟩
   .exact nomatch e
   .injection e with e1 _;rw[e1]
 byValue:=λk v h=>by rcases yR h with⟨i,t,rfl,rfl⟩|⟨x,t,rfl,rfl⟩<;>rfl
 pyHash:=λhv h=>by
  rcases yR hv with⟨i,t,rfl,rfl⟩|⟨x,t,rfl,rfl⟩
  .exact wpAny_pyHash_int h
  .exact wpAny_pyHash_str h
 eqBool:=λhu hv h=>by
  rcases yR hu with⟨i,t,rfl,rfl⟩|⟨x,t,rfl,rfl⟩
  .rcases yR hv with⟨j,u,rfl,rfl⟩|⟨y,u,rfl,rfl⟩
   .rw[Ny]at h;exact a22 h
   .rw[NB]at h;exact a3M i t y u _ _ _ _ h
  .rcases yR hv with⟨j,u,rfl,rfl⟩|⟨y,u,rfl,rfl⟩
   .rw[NC]at h;exact a3N x t j u _ _ _ _ h
   .rw[Nz]at h;exact wpAny_eqBool_str h
 «strs»:=λk x t v h=>by
  rcases yR h with⟨i,u,rfl,e⟩|⟨y,u,rfl,e⟩
  .exact nomatch e
  .injection e with e1 _
   subst e1;cases v<;>rfl
def xG(prog:a4b)(w:a4e)(k:Key)(v:Value):(yG prog w).is k v=pR k v:=rfl
def pS(prog:a4b)(w:a4e)(i:Int)(t:Tok):(yG prog w).is (.inl i) (.int i t)=true:=A5 i t
def pT(prog:a4b)(w:a4e)(x:Str)(t:Tok):(yG prog w).is (.inr x) (.str x t)=true:=A6 x t
inductive V where
 |non|bl (b:Bool)|int (i:Int)|str (x:Str)|byt (b:Array UInt8)|flt (b:UInt64)|ref (a:Addr)|ty (n:String)
 deriving DecidableEq
abbrev a4a:=List V
abbrev a4d:=(List (Key×V))
abbrev a4o:=(List (Str×V))
abbrev a4G:=(List (List Key×V))
def RelV:V->Value->Prop
 |.non,u=>u=Value.none
 |.bl b,u=>u=Value.bool b
 |.int i,u=>∃t,u=Value.int i t
 |.str x,u=>∃t,u=Value.str x t
 |.byt b,u=>∃t,u=Value.bytes b t
 |.flt b,u=>∃t,u=Value.float b t
 |.ref a,u=>u=Value.ref a
 |.ty n,u=>u=Value.type n
abbrev Vals:List V->List Value->Prop:=Paired RelV
def Vals.length(r:Vals xs us):xs.length=us.length:=a1M r
def Vals.get:∀{b:a4a}{a:a46}{i:Nat}{x:V},Vals b a->b[i]?=some x->∃u,a[i]?=some u/\RelV x u
 |_,_,_,_,.nil,e=>by simp at e
 |_,_,0,_,.cons r _,e=>by simp at e;subst e;exact⟨_,rfl,r⟩
 |_,_,i+1,x,.cons _ t,e=>by obtain⟨u,d,c⟩:=Vals.get (i:=i) (x:=x) t (by simpa using e);exact⟨u,by simpa using d,c⟩
def Vals.set{x:V}{u:Value}(r:RelV x u):∀{a:a4a}{b:a46}(i:Nat),Vals a b->Vals (a.set i x) (b.set i u)
 |_,_,_,.nil=>.nil
 |_,_,0,.cons _ t=>.cons r t
 |_,_,i+1,.cons q t=>.cons q (Vals.set r i t)
def Vals.append:∀{b d:a4a}{c a:a46},Vals b c->Vals d a->Vals (b++d) (c++a)
 |_,_,_,_,.nil,s=>s
 |_,_,_,_,.cons r t,s=>.cons r (Vals.append t s)
def Vals.take:∀{a:a4a}{b:a46}(n:Nat),Vals a b->Vals (a.take n) (b.take n)
 |_,_,0,_=>.nil
 |_,_,_+1,.nil=>.nil
 |_,_,n+1,.cons r t=>.cons r (Vals.take n t)
def Vals.drop:∀{a:a4a}{b:a46}(n:Nat),Vals a b->Vals (a.drop n) (b.drop n)
 |_,_,0,r=>r
 |_,_,_+1,.nil=>.nil
 |_,_,n+1,.cons _ t=>Vals.drop n t
def aU:Option V->Option Value->Prop
 |some v,some u=>RelV v u
 |none,none=>True
 |_,_=>False
def KV{a:Type}:List (a×V)->List (a×Value)->Prop:=Paired λ(p:a×V) (q:a×Value)=>p.1=q.1/\RelV p.2 q.2
def kV:Key->V
 |.inl i=>.int i
 |.inr x=>.str x
inductive HO where
 |lst (xs:a4a)
 |tup (xs:a4a)
 |dK (kvs:a4d)|dT (kvs:a4G)
 |set (S:Int->Bool) (n:Nat)
 |ins (C dx:Addr) (fs:a4o)
 |own (x:Addr)
 |xd (fs:a4o)
 |met (f x:Addr)
 |rng (lo hi:Int)
 |frz (o:Obj) (u:HO)
 |tbl (ps:a4u)
 |ext (φ:Heap->Prop)
abbrev Hp:=Addr->Option HO
def upd(H:Hp)(a:Addr)(o:HO):Hp:=λb=>if b=a then some o else H b
def zl:upd H a o a=some o:=by unfold upd;rw[if_pos rfl]
def zm(h:b≠a):upd H a o b=H b:=by unfold upd;rw[if_neg h]
def bj:upd (upd H a o) a u=upd H a u:=by
 funext b;unfold upd;split<;>rfl
def Se{H:Hp}{a b:Addr}{o u:HO}(h:H a=some o)(h':H b=some u)(d:o≠u):a≠b:=by intro e;subst e;rw[h]at h';exact d (a0T h')
def zT{H:Hp}{a b:Addr}{o:HO}(h:H a=some o)(h':H b=none):a≠b:=by intro e;subst e;rw[h]at h';cases h'
section
variable (P:a4b) (w:a4e)
def qB(H:Hp)(h:Heap)(a:Addr):HO->Prop
 |.lst d=>d.length<=sizeLine/\∃(b:a46)(n:Nat),Vals d b/\h.get? a=some { cls:=.type "list",data:=.seq b.toArray n }
 |.tup d=>d.length<=sizeLine/\∃b:List Value,Vals d b/\IsTup h a b.toArray
 |.dK c=>c.length<=sizeLine/\(a==sysModules)=false/\∃r,KV c r/\h.DictOf (yG P w) a r
 |.dT c=>c.length<=sizeLine/\(a==sysModules)=false/\∃d:List (List Key×Addr×Value),
   Paired (λ(p:List Key×V) (q:List Key×Addr×Value)=>p.1=q.1/\H q.2.1=some (.tup (p.1.map kV))/\RelV p.2 q.2.2) c d/\
   ∃o m z,h.get? a=some o/\o.ExactDict/\o.data=.dict m z/\m.toList=d.map (entryOfKey (tupleKind (yG P w)))/\(d.map (·.1)).Nodup
 |.set S n=>h.SetOf (intKind P w) a S n
 |.ins C g fs=>H g=some (.own a)/\fs.length<=1000/\g≠a/\h.get? a=some (PySem.W.instObj C g)/\
   ∃e,h.Ns1 g e/\(∀f,aU (fs.lookup f) (e f))/\PySem.Within e (fs.map (·.1))
 |.own _=>∃o,h.get? a=some o
 |.xd fs=>∃e,h.Ns1 a e/\∀f,aU (fs.lookup f) (e f)
 |.rng s y=>∃t u v,h.get? a=some { cls:=.type "range",data:=.fields #[.int s t,.int y u,.int 1 v] }
 |.frz o u=>h.get? a=some o/\qB H h a u
 |.tbl A=>h.get? a=some { cls:=.none,data:=.fields A }
 |.met f x=>h.get? a=some (PySem.W.methodObj (.ref f) (.ref x))
 |.ext i=>i h/\(∃o,h.get? a=some o)/\∀l j:Heap,i l->(∀o,l.get? a=some o->j.get? a=some o)->i j
def HOk(H:Hp)(h:Heap):Prop:=∀a o,H a=some o->qB P w H h a o
end
section
variable {P:a4b}{w:a4e}{H H':Hp}{h h':Heap}{a:Addr}{o:HO}
def qB.lt(x:qB P w H h a o):a<h.objs.size:=by
 cases o with
 |lst c=>obtain⟨_,_,_,_,e⟩:=x;exact a0i e
 |tup c=>obtain⟨_,_,_,p⟩:=x;exact p.lt
 |dK b=>obtain⟨_,_,_,_,o,_,_,e,_⟩:=x;exact a0i e
 |dT b=>obtain⟨_,_,_,_,o,_,_,e,_⟩:=x;exact a0i e
 |set S n=>obtain⟨o,_,_,_,e,_⟩:=x;exact a0i e
 |ins C d fs=>obtain⟨_,_,_,e,_⟩:=x;exact a0i e
 |own y=>obtain⟨_,e⟩:=x;exact a0i e
 |xd fs=>obtain⟨_,⟨_,_,_,e,_⟩,_⟩:=x;exact a0i e
 |rng j i=>obtain⟨_,_,_,e⟩:=x;exact a0i e
 |frz ob u=>obtain⟨e,_⟩:=x;exact a0i e
 |tbl l=>exact a0i (show h.get? a=some _ from x)
 |met f y=>exact a0i (show h.get? a=some _ from x)
 |ext g=>obtain⟨_,⟨_,e⟩,_⟩:=x;exact a0i e
def Paired.Sf{e g:Type}{F G:e->g->Prop}:∀{d:List e}{c:List g},Paired F d c->(∀a b,F a b->G a b)->Paired G d c
 |_,_,.nil,_=>.nil
 |_,_,.cons r t,f=>.cons (f _ _ r) (Paired.Sf t f)
def qB.Ep(x:qB P w H h a o)(k:∀b u,(b=a\/H b=some (.own a))->h.get? b=some u->h'.get? b=some u)
  (E:∀b,H b=some (.own a)->H' b=some (.own a)) (I:∀b l,H b=some (.tup l)->H' b=some (.tup l)):qB P w H' h' a o:=by
 induction o with
 |lst l=>obtain⟨z,j,n,r,e⟩:=x;exact⟨z,j,n,r,k _ _ (.inl rfl) e⟩
 |tup l=>obtain⟨z,j,r,ob,e,c⟩:=x;exact⟨z,j,r,ob,k _ _ (.inl rfl) e,c⟩
 |dK m=>obtain⟨z,y,J,r,ob,g,i,e,c⟩:=x;exact⟨z,y,J,r,ob,g,i,k _ _ (.inl rfl) e,c⟩
 |dT m=>obtain⟨z,y,l,r,ob,g,i,e,c⟩:=x;exact⟨z,y,l,Paired.Sf r λp q z=>⟨z.1,I _ _ z.2.1,z.2.2⟩,ob,g,i,k _ _ (.inl rfl) e,c⟩
 |set S n=>obtain⟨ob,g,i,t,e,c⟩:=x;exact⟨ob,g,i,t,k _ _ (.inl rfl) e,c⟩
 |ins C O fs=>obtain⟨d,z,G,e,A,⟨s,g,i,K,c⟩,r⟩:=x;exact⟨E _ d,z,G,k _ _ (.inl rfl) e,A,⟨s,g,i,k _ _ (.inr d) K,c⟩,r⟩
 |own y=>obtain⟨ob,e⟩:=x;exact⟨ob,k _ _ (.inl rfl) e⟩
 |xd fs=>obtain⟨A,⟨s,g,i,e,c⟩,r⟩:=x;exact⟨A,⟨s,g,i,k _ _ (.inl rfl) e,c⟩,r⟩
 |rng L M=>obtain⟨t,u,v,e⟩:=x;exact⟨t,u,v,k _ _ (.inl rfl) e⟩
 |frz ob u F=>obtain⟨e,q⟩:=x;exact⟨k _ _ (.inl rfl) e,F q⟩
 |tbl B=>have e:h.get? a=some { cls:=.none,data:=.fields B }:=x;show h'.get? a=some { cls:=.none,data:=.fields B };exact k a _ (.inl rfl) e
 |met f y=>have e:h.get? a=some (PySem.W.methodObj (.ref f) (.ref y)):=x;show h'.get? a=some (PySem.W.methodObj (.ref f) (.ref y));exact k a _ (.inl rfl) e
 |ext N=>obtain⟨p,⟨o,e⟩,D⟩:=x;exact⟨D _ _ p λo q=>k _ _ (.inl rfl) q,⟨o,k _ _ (.inl rfl) e⟩,D⟩
def HOk.lt(x:HOk P w H h)(e:H a=some o):a<h.objs.size:=(x a o e).lt
def HOk.fresh(x:HOk P w H h)(e:h.objs.size<=a):H a=none:=by
 cases q:H a with
 |none=>rfl
 |some u=>exact absurd (a0u (x.lt q) e) (a1i _)
def HOk.kept(x:HOk P w H h)(k:∀b u,h.get? b=some u->h'.get? b=some u):HOk P w H h':=λa o e=>
 (x a o e).Ep (λb u _ q=>k b u q) (λ_ q=>q) λ_ _ q=>q
def HOk.laid(x:HOk P w H h)(k:∀b u,h.get? b=some u->h'.get? b=some u)(hp:h.objs.size<=a)(new:qB P w (upd H a o) h' a o):HOk P w (upd H a o) h':=λb u e=>by
 have d:=x.fresh hp;by_cases f:b=a
 .subst f;rw[zl]at e;cases e;exact new
 .rw[zm f]at e;exact(x b u e).Ep (λc v _ q=>k c v q) (λc q=>by rw[zm (zT q d)];exact q) λc g q=>by rw[zm (zT q d)];exact q
end
def Rd(H:Hp)(a:Addr)(u:HO):Prop:=H a=some u\/∃o,H a=some (.frz o u)
def Rd.ok(r:Rd H a u)(x:HOk P w H h):qB P w H h a u:=by
 rcases r with r|⟨o,r⟩
 .exact x a u r
 .obtain⟨_,q⟩:=x a _ r;exact q
def Mut:Option HO->Prop
 |some (.lst _)=>True
 |some (.dK _)=>True
 |some (.dT _)=>True
 |some (.set _ _)=>True
 |some (.ins _ _ _)=>True
 |some (.ext _)=>True
 |_=>False
def HOk.write(ok:HOk P w H h)(l:Mut (H x))(he:e=x\/H e=some (.own x))(k:∀b u,b≠e->h.get? b=some u->h'.get? b=some u)(m:∃u,h'.get? e=some u)
  (new:qB P w (upd H x o') h' x o'):HOk P w (upd H x o') h':=λb u q=>by
 have d:∀c y,H c=some (.own y)->c≠x:=λc y r z=>by subst z;rw[r]at l;exact l
 have f:∀c i,H c=some (.tup i)->c≠x:=λc i r z=>by subst z;rw[r]at l;exact l
 by_cases g:b=x
 .subst g;rw[zl]at q;cases q;exact new
 .rw[zm g]at q;by_cases a:b=e
  .have n:H b=some (.own x):=by
    rcases he with z|z
    .exact absurd (a.trans z) g
    .rw[a];exact z
   rw[q]at n;cases n;obtain⟨v,o⟩:=m;exact⟨v,by rw[a];exact o⟩
  .refine(ok b u q).Ep (λc v j r=>k c v ?_ r) (λc r=>by rw[zm (d c b r)];exact r) λc i r=>by rw[zm (f c i r)];exact r
   rcases j with rfl|j
   .exact a
   .rintro rfl
    rcases he with z|z
    .exact d c b j z
    .rw[j]at z;cases z;exact g rfl
structure Un(fs ex:a4w)(H H':Hp)(h h':Heap):Prop where
 keep:∀b o,h.get? b=some o->H b=none->b∉fs->b∉ex->h'.get? b=some o
 slot:∀b o,h.get? b=some o->H b=none->b∈fs->b∉ex->∃sl,h'.get? b=some { o with slots:=sl }
 free:∀b o,h.get? b=some o->H b=none->b∉ex->H' b=none
 there:∀b o,h.get? b=some o->b∉ex->∃o',h'.get? b=some o'
 CO:∀b xs,H b=some (.tup xs)->H' b=some (.tup xs)
 GB:∀b o u,H b=some (.frz o u)->H' b=some (.frz o u)
 IB:∀b ps,H b=some (.tbl ps)->∃more,H' b=some (.tbl (ps++more))
section
variable {fs ex:a4w}{H H1:Hp}{h h1 h':Heap}{a x e:Addr}{o:HO}
def Un.any(u:Un fs ex H H1 h h1)(q:h.get? b=some ob)(n:H b=none)(d:b∉ex):∃f,h1.get? b=some { ob with slots:=f }:=by
 by_cases c:b∈fs
 .exact u.slot b ob q n c d
 .exact⟨ob.slots,u.keep b ob q n c d⟩
def Un.kept(k:∀b u,h.get? b=some u->h'.get? b=some u):Un fs ex H H h h':=
 ⟨λb ob q _ _ _=>k b ob q,λb ob q _ _ _=>⟨ob.slots,k b ob q⟩,λ_ _ _ n _=>n,λb ob q _=>⟨ob,k b ob q⟩,λ_ _ q=>q,λ_ _ _ q=>q,λ_ c q=>⟨#[],by rw[q];simp⟩⟩
def Un.refl:Un fs ex H H h h:=Un.kept λ_ _ q=>q
def Un.laid(k:∀b u,h.get? b=some u->h'.get? b=some u)(hp:h.objs.size<=a)(c:H a=none):Un fs ex H (upd H a o) h h' where
 keep:=λb u q _ _ _=>k b u q
 slot:=λb u q _ _ _=>⟨u.slots,k b u q⟩
 free:=λb u q n _=>by rw[zm (a0t (a0u (a0i q) hp))];exact n
 there:=λb u q _=>⟨u,k b u q⟩
 CO:=λb d q=>by rw[zm (zT q c)];exact q
 GB:=λb u d q=>by rw[zm (zT q c)];exact q
 IB:=λb f q=>⟨#[],by rw[zm (zT q c),q];simp⟩
def Un.write(d:Mut (H x))(he:e=x\/H e=some (.own x))(k:∀b u,b≠e->h.get? b=some u->h'.get? b=some u)(g:∃u,h'.get? e=some u):Un fs ex H (upd H x o) h h':=by
 have j:∀b,H b=none->b≠x:=λb n z=>by subst z;rw[n]at d;exact d
 have i:∀b,H b=none->b≠e:=λb n z=>by
  subst z;rcases he with r|r
  .exact j b n r
  .rw[n]at r;cases r
 have f:∀b u,H b=some u->¬Mut (some u)->b≠x:=λb u q l z=>by subst z;rw[q]at d;exact l d
 refine⟨λb u q n _ _=>k b u (i b n) q,λb u q n _ _=>⟨u.slots,k b u (i b n) q⟩,λb u q n _=>by rw[zm (j b n)];exact n,λb u q _=>?_,
  λb m q=>by rw[zm (f b _ q λz=>z)];exact q,λb u m q=>by rw[zm (f b _ q λz=>z)];exact q,λb p q=>⟨#[],by rw[zm (f b _ q λz=>z),q];simp⟩⟩
 by_cases c:b=e
 .subst c;exact g
 .exact⟨u,k b u c q⟩
end
def trk(h:Heap)(H:Hp):List Addr:=(List.range h.objs.size).filter λa=>(H a).isSome
def EA(h:Heap)(H:Hp):Heap:=PySem.W.hideAll h (trk h H)
def A7(h:Heap)(H:Hp):(EA h H).objs.size=h.objs.size:=PySem.W.hideAll_size _ _
def EB(e:h.get? b=some o)(n:H b=none):(EA h H).get? b=some o:=
 PySem.W.hideAll_get _ e λa=>by have q:(H b).isSome=true:=(a1j.mp a).2;rw[n]at q;simp at q
def IC(e:(EA h H).get? b=some o):h.get? b=some o/\H b=none:=by
 have a:h.get? b=some o:=PySem.W.of_hideAll (trk h H) e;refine⟨a,?_⟩;cases q:H b with
 |none=>rfl
 |some x=>have c:b∈trk h H:=a1j.mpr ⟨a1p.mpr (a0i a),by simp[q]⟩;have z:(EA h H).get? b=none:=PySem.W.hideAll_none (trk h H) c;rw[z]at e;cases e
structure Mod(K:a48)(mg:a37)(base:Heap):Prop where
 kin:K.In base
 glob:base.Ns mainGlobals mg
 blt:∃mb,base.Ns builtinsNs mb/\∀x:Str,x≠"__name__"->mb x=bootBuiltins x
 nolimit:base.NoLimit
structure Cx where
 prog:Program
 w:World
 K:PySem.W.Frag
 mg:Str->Option Value
 base:Heap
 A:Around
 N:List Str
 s₀:Shared
 H₀:Hp
 env:Env
 outer:List Env
 stack:List Env
 ex:List Addr
 fn:Str->Bool
 calm:Bool
 pn:List (Addr×Obj)
 xe:Value->Shared->Prop
 m:Nat:=0
abbrev a4R(X:Cx):=model X.prog X.w
def frs(l:List Env):List Addr:=l.filterMap (·.frame)
abbrev Cx.fs(X:Cx):List Addr:=frs X.outer
def Vis(a:Scope)(x:Str):Prop:=a.names.lookup x=some .local\/a.names.lookup x=some .cell\/a.names.lookup x=some .free
def Loc(a:Scope)(x:Str):Prop:=a.names.lookup x=some .local\/a.names.lookup x=some .cell
def Look(env:Env)(h:Heap)(m:a37)(x:Str)(u:Value):Prop:=
 (env.kindOf x=some .local/\m x=some u)\/((env.kindOf x=some .cell\/env.kindOf x=some .free)/\∃c,env.cells.lookup x=some c/\h.IsCell c (some u))
structure Cx.Ok(X:Cx):Prop where
 mod:Mod X.K X.mg X.base
 kind:X.env.scope.kind=.function
 glob:X.env.globals=mainGlobals
 blt:X.env.builtins=builtinsNs
 above:X.s₀.heap.objs.size<=X.env.locals
 inj:∀x y c,X.env.cells.lookup x=some c->X.env.cells.lookup y=some c->x=y
 has:∀x,(X.env.kindOf x=some .cell\/X.env.kindOf x=some .free)->∃c,X.env.cells.lookup x=some c
 cab:∀x c,X.fn x=true->X.env.cells.lookup x=some c->X.s₀.heap.objs.size<=c
 hd:X.calm=true->X.A.handled=none
 frames:X.A.frames=some X.stack
 stk:X.stack=X.outer\/(X.stack=X.env::X.outer/\X.env.frame=some X.env.locals)
 exf:∀b∈X.ex,b≠X.env.locals/\∀x c,X.env.cells.lookup x=some c->c≠b
 bs:∀b o,X.base.get? b=some o->X.s₀.heap.get? b=some o/\X.H₀ b=none
 bsz:X.base.objs.size<=X.s₀.heap.objs.size
 RB:∀b o,X.base.get? b=some o->b∉X.ex
 RD:∀b∈X.ex,b∉X.fs
 tO:X.s₀.heap.FunFrames X.base X.outer
 frf:∀b∈X.fs,X.H₀ b=none
structure Inv(X:Cx)(pins:a38)(σ:List (Option V))(H:Hp)(s:a42):Prop where
 ok:X.Ok
 os:s.os=X.s₀.os
 bare:AllBare s.gens
 base:Un X.fs X.ex X.H₀ H X.s₀.heap s.heap
 loc:∃m,s.heap.Ns X.env.locals m/\∀(i:Nat)(x:Str)(v:V),X.N[i]?=some x->σ[i]?=some (some v)->Vis X.env.scope x->∃u,RelV v u/\Look X.env s.heap m x u
 cell:∀x c,X.env.cells.lookup x=some c->∃v,s.heap.IsCell c v
 free:H X.env.locals=none
 e_:∀x c,X.env.cells.lookup x=some c->H c=none
 pin:∀p∈X.pn++pins,s.heap.get? p.1=some p.2/\H p.1=none/\p.1≠X.env.locals/\p.1∉X.fs/\∀v,p.2.data≠.cell v
 hok:HOk X.prog X.w H s.heap
 len:σ.length=X.N.length
 tk:X.m<=s.toks
section
variable {X:Cx}{pins:a38}{σ:List (Option V)}{H H':Hp}{s:a42}{h':Heap}
def Cx.Ok.zaK(ok:X.Ok)(e:X.base.get? b=some o):b∉X.fs:=λa=>by have:=(ok.tO.mem a).1;rw[e]at this;cases this
def Inv.bs(I:Inv X pins σ H s):∀b o,X.base.get? b=some o->s.heap.get? b=some o/\H b=none:=λb o e=>
 ⟨I.base.keep b o (I.ok.bs b o e).1 (I.ok.bs b o e).2 (I.ok.zaK e) (I.ok.RB b o e),I.base.free b o (I.ok.bs b o e).1 (I.ok.bs b o e).2 (I.ok.RB b o e)⟩
def Inv.bk(I:Inv X pins σ H s):∀b o,X.base.get? b=some o->s.heap.get? b=some o:=λb o e=>(I.bs b o e).1
def Inv.mod(I:Inv X pins σ H s):Mod X.K X.mg X.base:=I.ok.mod
def Inv.kIn(I:Inv X pins σ H s):X.K.In s.heap:=I.ok.mod.kin.keeps I.bk
def Inv.lt(I:Inv X pins σ H s):X.env.locals<s.heap.objs.size:=let⟨_,hn,_⟩:=I.loc;hn.lt
def Inv.sz(I:Inv X pins σ H s):X.s₀.heap.objs.size<=s.heap.objs.size:=a0y I.ok.above (a2y I.lt)
def Inv.zaL(I:Inv X pins σ H s)(h:s.heap.objs.size<=a):a∉X.fs:=λb=>by obtain⟨_,o,c,_⟩:=I.ok.tO.mem b;exact absurd (a0u (a0i c) (a0y I.sz h)) (a1i _)
def Inv.cne(I:Inv X pins σ H s):∀x c,X.env.cells.lookup x=some c->c≠X.env.locals:=λx c e z=>by obtain⟨v,o,f,d⟩:=I.cell x c e;obtain⟨m,⟨g,h,i,a,b,_⟩,_⟩:=I.loc;rw[z,a]at f;cases f;rw[b]at d;cases d
def Inv.tO(I:Inv X pins σ H s):s.heap.FunFrames X.base X.outer:=by
 have all:∀(l:List Env),(∀b∈frs l,b∈X.fs)->X.s₀.heap.FunFrames X.base l->s.heap.FunFrames X.base l:=by
  intro l
  induction l with
  |nil=>intro _ _;trivial
  |cons h r g=>intro d i;obtain⟨j,⟨L,o,hf,n,f,m⟩,p⟩:=i;have c:L∈X.fs:=d L (by unfold frs;rw[a2I,hf];exact u8);obtain⟨q,e⟩:=I.base.slot L o f (I.ok.frf L c) c λz=>I.ok.RD L z c;exact⟨j,⟨L,_,hf,n,e,m⟩,g (λb a=>d b (by unfold frs;rw[a2I,hf];exact a0a _ a)) p⟩
 exact all X.outer (λ_ a=>a) I.ok.tO
def Inv.stack(I:Inv X pins σ H s):s.heap.FunFrames X.base X.stack:=by
 rcases I.ok.stk with e|⟨e,hf⟩
 .rw[e];exact I.tO
 .rw[e];obtain⟨m,a,_⟩:=I.loc;refine .cons (by rw[I.ok.kind];decide) hf a ?_ I.tO;exact Heap.get?_none_of_le (a0y I.ok.bsz I.ok.above)
def Inv.fH(I:Inv X pins σ H s):∀b∈frs X.stack,b∈X.env.locals::X.fs:=λb a=>by
 rcases I.ok.stk with e|⟨e,hf⟩
 .rw[e]at a;exact a0a _ a
 .rw[e]at a;unfold frs at a;rw[a2I,hf]at a;exact a
def Inv.gS(I:Inv X pins σ H s):∀b∈frs X.stack,H b=none:=λb a=>by
 rcases a0r.mp (I.fH b a)with e|a
 .rw[e];exact I.free
 .obtain⟨_,o,c,_⟩:=I.ok.tO.mem a;exact I.base.free b o c (I.ok.frf b a) λz=>I.ok.RD b z a
def Inv.step{g':Array GenState}{t':Nat}{d':Drawn}{ch:a4w}(I:Inv X pins σ H s)
  (j:∀b∈ch,(b∈X.ex\/X.s₀.heap.objs.size<=b)/\b≠X.env.locals/\(∀x c,X.env.cells.lookup x=some c->c≠b)/\∀p∈X.pn++pins,p.1≠b)
  (keep:∀b o,b≠X.env.locals->b∉X.fs->b∉ch->s.heap.get? b=some o->H b=none->h'.get? b=some o)
  (A:∀b o,b≠X.env.locals->b∈X.fs->b∉ch->s.heap.get? b=some o->H b=none->∃O,h'.get? b=some { o with slots:=O }) (f:∀b o,b∉ch->s.heap.get? b=some o->H b=none->H' b=none)
  (C:∀b o,b∉ch->s.heap.get? b=some o->∃F,h'.get? b=some F)
  (CO:∀b B,H b=some (.tup B)->H' b=some (.tup B)) (Y:∀b o u,H b=some (.frz o u)->H' b=some (.frz o u)) (W:∀b L,H b=some (.tbl L)->∃J,H' b=some (.tbl (L++J)))
  (ns:∀m,s.heap.Ns X.env.locals m->h'.Ns X.env.locals m) (M:HOk X.prog X.w H' h') (U:AllBare g') (Z:X.m<=t':=by ac_rfl):
  Inv X pins σ H' { s with heap:=h',gens:=g',drawn:=d',toks:=t' }:=by
 have G:∀b o,X.s₀.heap.get? b=some o->b≠X.env.locals:=λb o e=>a0t (a0u (a0i e) I.ok.above);have w:∀b o,X.s₀.heap.get? b=some o->b∉X.ex->b∉ch:=λb o e a D=>by
  rcases(j b D).1 with z|z
  .exact a z
  .exact absurd (a0u (a0i e) z) (a1i _)
 have h:∀x c,X.env.cells.lookup x=some c->∀v,s.heap.IsCell c v->h'.IsCell c v:=λx c e v ⟨o,E,P⟩=>by
  have g:c∉ch:=λz=>(j c z).2.2.1 x c e rfl;by_cases S:c∈X.fs
  .obtain⟨O,q⟩:=A c o (I.cne x c e) S g E (I.e_ x c e);exact⟨_,q,P⟩
  .exact⟨o,keep c o (I.cne x c e) S g E (I.e_ x c e),P⟩
 refine⟨I.ok,I.os,U,⟨λb o e n D a=>?_,λb o e n D a=>?_,λb o e n a=>?_,λb o e a=>?_,λb B e=>CO b B (I.base.CO b B e),λb o B e=>Y b o B (I.base.GB b o B e),λb L e=>?_⟩,?_,λx c e=>?_,?_,λx c e=>?_,λp hp=>?_,M,I.len,Z⟩
 .exact keep b o (G b o e) D (w b o e a) (I.base.keep b o e n D a) (I.base.free b o e n a)
 .obtain⟨O,y⟩:=I.base.slot b o e n D a;obtain⟨N,K⟩:=A b _ (G b o e) D (w b o e a) y (I.base.free b o e n a);exact⟨N,K⟩
 .obtain⟨F,y⟩:=I.base.there b o e a;exact f b F (w b o e a) y (I.base.free b o e n a)
 .obtain⟨F,y⟩:=I.base.there b o e a;exact C b F (w b o e a) y
 .obtain⟨m1,y⟩:=I.base.IB b L e;obtain⟨T,K⟩:=W b _ y;exact⟨m1++T,by rw[K,a3O]⟩
 .obtain⟨m,hn,hl⟩:=I.loc;refine⟨m,ns m hn,λi x v y K e3=>?_⟩;obtain⟨u,r,l⟩:=hl i x v y K e3;refine⟨u,r,?_⟩;rcases l with l|⟨k,c,e,z⟩
  .exact .inl l
  .exact .inr ⟨k,c,e,h x c e _ z⟩
 .obtain⟨v,z⟩:=I.cell x c e;exact⟨v,h x c e v z⟩
 .obtain⟨m,⟨o,_,_,E,_⟩,_⟩:=I.loc;exact f _ o (λz=>(j _ z).2.1 rfl) E I.free
 .obtain⟨v,o,E,P⟩:=I.cell x c e;exact f c o (λz=>(j c z).2.2.1 x c e rfl) E (I.e_ x c e)
 .obtain⟨e,n,R,Q,d⟩:=I.pin p hp;have g:p.1∉ch:=λz=>(j p.1 z).2.2.2 p hp rfl;exact⟨keep p.1 p.2 R Q g e n,f p.1 p.2 g e n,R,Q,d⟩
def Inv.un(I:Inv X pins σ H s)(u:Un X.fs [] H H' s.heap h')(c:HOk X.prog X.w H' h')(x:X.m<=t':=by ac_rfl):Inv X pins σ H' { s with heap:=h',toks:=t' }:=by
 obtain⟨m,⟨o,q,v,h,r⟩,_⟩:=id I.loc;obtain⟨w,l⟩:=u.any h I.free (by simp);exact I.step (g':=s.gens) (d':=s.drawn) (ch:=[]) (λ_ z=>nomatch z) (λb o _ g _ e n=>u.keep b o e n g (by simp)) (λb o _ g _ e n=>u.slot b o e n g (by simp)) (λb o _ e n=>u.free b o e n (by simp)) (λb o _ e=>u.there b o e (by simp)) u.CO u.GB u.IB (λy j=>by
  obtain⟨p,f,d,a,i⟩:=j;rw[h]at a;cases a;exact⟨_,f,d,l,i⟩) c I.bare
def Inv.call(I:Inv X pins σ H s)(u:Un (frs X.stack) ch H H' s.heap h')(g:HOk X.prog X.w H' h')(q:AllBare g')
  (d:∀b∈ch,(b∈X.ex\/X.s₀.heap.objs.size<=b)/\b≠X.env.locals/\(∀x c,X.env.cells.lookup x=some c->c≠b)/\∀p∈X.pn++pins,p.1≠b) (E:X.m<=t':=by ac_rfl):
  Inv X pins σ H' { s with heap:=h',gens:=g',drawn:=d',toks:=t' }:=by
 obtain⟨m,⟨o,B,C,l,r⟩,_⟩:=id I.loc;obtain⟨D,j⟩:=u.any l I.free λz=>(d _ z).2.1 rfl;exact I.step (ch:=ch) d (λb o j w a e n=>u.keep b o e n (λz=>(a0r.mp (I.fH b z)).elim j w) a) (λb o _ _ a e n=>u.any e n a) (λb o a e n=>u.free b o e n a) (λb o a e=>u.there b o e a) u.CO u.GB u.IB (λF y=>by
  obtain⟨A,i,h,f,v⟩:=y;rw[l]at f;cases f;exact⟨_,i,h,j,v⟩) g q
def Inv.turned(I:Inv X pins σ H s)(k:∀b o,b≠it->s.heap.get? b=some o->h'.get? b=some o)(A:H it=none)(f:it≠X.env.locals)
  (i:it∈X.ex\/X.s₀.heap.objs.size<=it) (h:∀x c,X.env.cells.lookup x=some c->c≠it) (l:∀p∈X.pn++pins,p.1≠it) (C:X.m<=t':=by ac_rfl):Inv X pins σ H { s with heap:=h',toks:=t' }:=by
 have d:∀b u,H b=some u->b≠it:=λb u e z=>by rw[z,A]at e;cases e
 refine I.step (g':=s.gens) (d':=s.drawn) (ch:=[it]) (λb y=>?_) (λb o _ _ a e _=>k b o (λz=>a (by simp[z])) e) (λb o _ _ a e _=>⟨o.slots,k b o (λz=>a (by simp[z])) e⟩) (λ_ _ _ _ n=>n)
  (λb o a e=>⟨o,k b o (λz=>a (by simp[z])) e⟩) (λ_ _ e=>e) (λ_ _ _ e=>e) (λb D e=>⟨#[],by rw[e];simp⟩) (λm B=>?_) (λb u e=>?_) I.bare
 .have e:b=it:=by simpa using y
  subst e;exact⟨i,f,h,l⟩
 .obtain⟨o,j,w,g,r⟩:=B;exact⟨o,j,w,k _ o (Ne.symm f) g,r⟩
 .refine(I.hok b u e).Ep (λc v a q=>k c v ?_ q) (λ_ q=>q) λ_ _ q=>q;rcases a with z|z
  .rw[z];exact d b u e
  .exact d c _ z
def Inv.tok(I:Inv X pins σ H s)(t:Nat)(a:X.m<=t:=by ac_rfl):Inv X pins σ H { s with toks:=t }:=I.un (h':=s.heap) (t':=t) Un.refl I.hok
def Inv.kept(I:Inv X pins σ H s)(k:∀b u,s.heap.get? b=some u->h'.get? b=some u)(a:X.m<=t':=by ac_rfl):Inv X pins σ H { s with heap:=h',toks:=t' }:=I.un (Un.kept k) (I.hok.kept k)
def Inv.laid(I:Inv X pins σ H s)(k:∀b u,s.heap.get? b=some u->h'.get? b=some u)(hp:s.heap.objs.size<=a)(new:qB X.prog X.w (upd H a o) h' a o)(c:X.m<=t':=by ac_rfl):
  Inv X pins σ (upd H a o) { s with heap:=h',toks:=t' }:=I.un (Un.laid k hp (I.hok.fresh hp)) (I.hok.laid k hp new)
def Inv.write(I:Inv X pins σ H s)(c:Mut (H x))(he:e=x\/H e=some (.own x))(k:∀b u,b≠e->s.heap.get? b=some u->h'.get? b=some u)(a:∃u,h'.get? e=some u)
  (new:qB X.prog X.w (upd H x o) h' x o) (d:X.m<=t':=by ac_rfl):Inv X pins σ (upd H x o) { s with heap:=h',toks:=t' }:=I.un (Un.write c he k a) (I.hok.write c he k a new)
def Inv.gU(I:Inv X pins σ H s)(h:∀p∈pins',s.heap.get? p.1=some p.2/\H p.1=none/\p.1≠X.env.locals/\p.1∉X.fs/\∀v,p.2.data≠.cell v):Inv X pins' σ H s:=
 ⟨I.ok,I.os,I.bare,I.base,I.loc,I.cell,I.free,I.e_,λp hp=>(a0A.mp hp).elim (λz=>I.pin p (a0J _ z)) (h p),I.hok,I.len,I.tk⟩
def tQ{N:a40}(e:N.Nodup){i j:Nat}{x:Str}(a:N[i]?=some x)(b:N[j]?=some x):i=j:=by obtain⟨g,d⟩:=a0v.mp a;obtain⟨f,c⟩:=a0v.mp b;exact(List.getElem_inj e).mp (d.trans c.symm)
def mB(I:Inv X pins σ H s)(hN:X.N.Nodup)(O:X.N[i]?=some x)(B:Loc X.env.scope x)(r:RelV v u)
  (h:∀s',Inv X pins (σ.set i (some v)) H s'->(∃a,Heap.SameBut a s.heap s'.heap/\(a=X.env.locals\/X.env.cells.lookup x=some a))->Q () s') (hf:X.fn x=true\/X.env.scope.names.lookup x=some .local:=by first|exact .inl rfl|exact .inr rfl|assumption):wpAny M A (storeName X.env x u) Q E s:=by
 obtain⟨m,hn,hl⟩:=id I.loc;have N:(X.env.scope.kind == .class||(X.env.scope.kind == .module&&X.env.locals != X.env.globals))=false:=by rw[I.ok.kind];rfl
 have F:i<σ.length:=by rw[I.len];exact(a0v.mp O).1
 have cne:=I.cne;have g:∀{a:Addr}{h':Heap},(∃o,s.heap.get? a=some o/\H a=none)->Heap.SameBut a s.heap h'->HOk X.prog X.w H h':=λ{a h'} ha f b ob e=>by
  obtain⟨_,_,C⟩:=ha;refine(I.hok b ob e).Ep (λc Y w q=>(f.2 c ?_).trans q) (λ_ q=>q) λ_ _ q=>q
  rintro rfl
  rcases w with rfl|w
  .rw[C]at e;cases e
  .rw[C]at w;cases w
 rcases B with G|G
 .refine wpAny_storeName_local G hn (λh' hn' f=>?_) N;obtain⟨oL,_,_,hoL,_⟩:=id hn;refine h _ ⟨I.ok,I.os,I.bare,⟨λb o e n J B=>?_,λb o e n J B=>?_,I.base.free,λb o e B=>?_,I.base.CO,I.base.GB,I.base.IB⟩,⟨_,hn',λj y v' l D e3=>?_⟩,λy c e=>?_,I.free,I.e_,λp hp=>?_,g ⟨oL,hoL,I.free⟩ f,by simpa using I.len,a1D I.tk⟩ ⟨_,f,.inl rfl⟩
  .exact(f.2 b (a0t (a0u (a0i e) I.ok.above))).trans (I.base.keep b o e n J B)
  .obtain⟨sl,l⟩:=I.base.slot b o e n J B;exact⟨sl,(f.2 b (a0t (a0u (a0i e) I.ok.above))).trans l⟩
  .obtain⟨o',l⟩:=I.base.there b o e B;exact⟨o',(f.2 b (a0t (a0u (a0i e) I.ok.above))).trans l⟩
  .by_cases L:j=i
   .subst L;rw[O]at l;cases l;rw[a0E F]at D;cases D;exact⟨u,r,.inl ⟨G,by simp⟩⟩
   .rw[a0G (Ne.symm L)]at D;obtain⟨u',r',q⟩:=hl j y v' l D e3;refine⟨u',r',?_⟩;rcases q with⟨k,e⟩|⟨k,c,e,z⟩
    .refine .inl ⟨k,?_⟩;have:y≠x:=λe=>L (tQ hN l (e▸O));simp[this,e]
    .exact .inr ⟨k,c,e,z.sameBut f (cne y c e)⟩
  .obtain⟨Y,z⟩:=I.cell y c e;exact⟨Y,z.sameBut f (cne y c e)⟩
  .obtain⟨e,n,W,Z,d⟩:=I.pin p hp;exact⟨(f.2 p.1 W).trans e,n,W,Z,d⟩
 .have K:X.fn x=true:=by
   rcases hf with z|z
   .exact z
   .rw[z]at G;cases G
  obtain⟨c,w⟩:=I.ok.has x (.inl G);obtain⟨Y,z⟩:=I.cell x c w;refine wpAny_storeName_cell I.ok.kind G w z (λh' T f=>?_);obtain⟨oc,R,S⟩:=id z;refine h { s with heap:=h' } ⟨I.ok,I.os,I.bare,⟨λb o e n J B=>?_,λb o e n J B=>?_,I.base.free,λb o e B=>?_,I.base.CO,I.base.GB,I.base.IB⟩,⟨m,hn.sameBut f (Ne.symm (cne x c w)),λj y v' l D e3=>?_⟩,λy U e=>?_,I.free,I.e_,λp hp=>?_,g ⟨oc,R,I.e_ x c w⟩ f,by simpa using I.len,I.tk⟩ ⟨c,f,.inr w⟩
  .exact(f.2 b (a0t (a0u (a0i e) (I.ok.cab x c K w)))).trans (I.base.keep b o e n J B)
  .obtain⟨sl,l⟩:=I.base.slot b o e n J B;exact⟨sl,(f.2 b (a0t (a0u (a0i e) (I.ok.cab x c K w)))).trans l⟩
  .obtain⟨o',l⟩:=I.base.there b o e B;exact⟨o',(f.2 b (a0t (a0u (a0i e) (I.ok.cab x c K w)))).trans l⟩
  .by_cases L:j=i
   .subst L;rw[O]at l;cases l;rw[a0E F]at D;cases D;exact⟨u,r,.inr ⟨.inl G,c,w,T⟩⟩
   .rw[a0G (Ne.symm L)]at D;obtain⟨u',r',q⟩:=hl j y v' l D e3;refine⟨u',r',?_⟩;rcases q with q|⟨k,U,e,z'⟩
    .exact .inl q
    .refine .inr ⟨k,U,e,z'.sameBut f ?_⟩
     rintro rfl
     exact L (tQ hN l (I.ok.inj _ _ _ e w▸O))
  .by_cases P:U=c
   .subst P;exact⟨_,T⟩
   .obtain⟨w2,z2⟩:=I.cell y U e;exact⟨w2,z2.sameBut f P⟩
  .obtain⟨e,n,W,Z,d⟩:=I.pin p hp;refine⟨(f.2 p.1 ?_).trans e,n,W,Z,d⟩;intro q;rw[q,R]at e;have q':oc=p.2:=a0T e;exact d Y (by rw[<- q'];exact S)
def gX(I:Inv X pins σ H s)(d:X.N.Nodup)(b:X.N[i]?=some x)(e:Loc X.env.scope x)(r:RelV v u)
  (h:∀a,Inv X pins (σ.set i (some v)) H a->Q () a) (hf:X.fn x=true\/X.env.scope.names.lookup x=some .local:=by first|exact .inl rfl|exact .inr rfl|assumption):wpAny M A (storeName X.env x u) Q E s:=
 mB I d b e r (λa c _=>h a c) hf
def Inv.ND(I:Inv X pins σ H s)(l:s'.os=s.os)(u:Un (frs X.stack) ch H H' s.heap s'.heap)(d:HOk X.prog X.w H' s'.heap)(m:AllBare s'.gens)
  (a:∀b∈ch,(b∈X.ex\/X.s₀.heap.objs.size<=b)/\b≠X.env.locals/\(∀x c,X.env.cells.lookup x=some c->c≠b)/\∀p∈X.pn++pins,p.1≠b) (j:X.m<=s'.toks:=by ac_rfl):Inv X pins σ H' s':=by
 obtain⟨h',f,g,h,i⟩:=s';have e:i=s.os:=l;subst e;exact I.call (g':=f) (t':=h) (d':=g) u d m a j
end
abbrev XK:=Value->Option Addr->Hp->Prop
abbrev St:=List (Option V)
abbrev VK:=V->Hp->Prop
abbrev TE:=St->Hp->VK->Prop
abbrev TT:=St->Hp->(Bool->Hp->Prop)->Prop
abbrev TA:=St->Hp->(List V->Hp->Prop)->Prop
structure Ends where
 nx:St->Hp->Prop
 rt:VK
 bk:St->Hp->Prop:=λ_ _=>False
 ct:St->Hp->Prop:=λ_ _=>False
abbrev TS:=Ends->St->Hp->Prop
def EP(X:Cx)(pins:a38)(σ:St)(Q:VK)(u:Value)(b:a42):Prop:=∃v a,Inv X pins σ a b/\RelV v u/\Q v a
def TP(X:Cx)(pins:a38)(σ:St)(Q:Bool->Hp->Prop)(b:Bool)(c:a42):Prop:=∃a,Inv X pins σ a c/\Q b a
def AP(X:Cx)(pins:a38)(σ:St)(Q:List V->Hp->Prop)(us:a46)(c:a42):Prop:=∃a b,Inv X pins σ b c/\Vals a us/\Q a b
def SP(X:Cx)(pins:a38)(D:Ends)(f:Flow)(c:a42):Prop:=
 match f with
 |.next=>∃a b,Inv X pins a b c/\D.nx a b
 |.brk=>∃a b,Inv X pins a b c/\D.bk a b
 |.cont=>∃a b,Inv X pins a b c/\D.ct a b
 |.ret u=>∃v a b,Inv X pins a b c/\RelV v u/\D.rt v b
def PE(X:Cx)(e:a45)(t:TE):Prop:=
 ∀(a:a38)(s:a42)(b:St)(H:Hp)(Q:VK),Inv X a b H s->t b H Q->wpAny (a4R X) X.A (eval e X.env) (EP X a b Q) X.xe s
def PT(X:Cx)(e:a45)(t:TT):Prop:=
 ∀(a:a38)(s:a42)(b:St)(H:Hp)(Q:Bool->Hp->Prop),Inv X a b H s->t b H Q->wpAny (a4R X) X.A (isTrue e X.env (eval e X.env)) (TP X a b Q) X.xe s
def PW(X:Cx)(e:a45)(t:TT):Prop:=
 ∀(b:Sem Value)(a:a38)(s:a42)(c:St)(H:Hp)(Q:Bool->Hp->Prop),Inv X a c H s->t c H Q->wpAny (a4R X) X.A (isTrue e X.env b) (TP X a c Q) X.xe s
def PW.pt(h:PW X e t):PT X e t:=h _
def PA(X:Cx)(es:a44)(t:TA):Prop:=
 ∀(b:Pos)(a:a38)(s:a42)(c:St)(H:Hp)(Q:List V->Hp->Prop),Inv X a c H s->t c H Q->wpAny (a4R X) X.A (spliced (backTo b (starEach es X.env))) (AP X a c Q) X.xe s
def PS(X:Cx)(st:a4z)(t:TS):Prop:=
 ∀(a:a38)(s:a42)(b:St)(H:Hp)(D:Ends),Inv X a b H s->t D b H->wpAny (a4R X) X.A (exec st X.env) (SP X a D) X.xe s
def PSs(X:Cx)(st:a4r)(t:TS):Prop:=
 ∀(a:a38)(s:a42)(b:St)(H:Hp)(D:Ends),Inv X a b H s->t D b H->wpAny (a4R X) X.A (execs st X.env) (SP X a D) X.xe s
def thn{c:Type}{t:Sem c}{Q b:c->Shared->Prop}(h:wpAny M A t Q E s)(d:∀a s,Q a s->b a s):wpAny M A t b E s:=a07 h d λ_ _ x=>x
section
variable {X:Cx}
def tR(i:Nat):TE:=λa H Q=>∃v,a[i]?=some (some v)/\Q v H
def tC(v:V):TE:=λ_ H Q=>Q v H
def NF(z:X.N[i]?=some x)(p:Vis X.env.scope x)(g:(x==("__debug__":Str))=false:=by decide)(j:(x==("__classdict__":Str))=false:=by decide):PE X (.Name x pos) (tR i):=by
 intro f s o H Q I h;obtain⟨v,e,h⟩:=h;obtain⟨m,w,q⟩:=I.loc;obtain⟨u,r,l⟩:=q i x v z e p;have b:EP X f o Q u s:=⟨v,H,I,r,h⟩;rcases l with⟨d,y⟩|⟨d,c,n,a⟩
 .exact wpAny_Name (a3y I.ok.kind d w y b) g
 .rcases d with d|d
  .exact wpAny_Name (a3H I.ok.kind d n a b) g
  .exact wpAny_Name (wpAny_loadName_free I.ok.kind d n a b j) g
def NG{i j pos}:PE X (.Constant (.int i) j pos) (tC (.int i)):=λ_ _ _ H _ I h=>wpAny_Constant_int ⟨.int i,H,I.tok _,⟨_,rfl⟩,h⟩
def QP{b j pos}:PE X (.Constant (.bool b) j pos) (tC (.bl b)):=λ_ _ _ H _ I h=>Constant_bool ⟨.bl b,H,I,rfl,h⟩
def Wz{j pos}:PE X (.Constant .none j pos) (tC .non):=λ_ _ _ H _ I h=>Constant_none ⟨.non,H,I,rfl,h⟩
def jJ{x j pos}:PE X (.Constant (.str x) j pos) (tC (.str x)):=λ_ _ _ H _ I h=>Calls.Constant_str ⟨.str x,H,I.tok _,⟨_,rfl⟩,h⟩
def Gl(X:Cx)(x:Str):Prop:=X.env.kindOf x=some .globalImplicit
def bo(I:Inv X pins σ H s)(b:Gl X x)(c:X.mg x=some u)(h:Q u s)
  (a:(x==("__debug__":Str))=false:=by decide):wpAny (a4R X) X.A (eval (.Name x pos) X.env) Q E s:=
 a2R I.ok.kind b (Calls.loadGlobal_global (by rw[I.ok.glob];exact I.mod.glob.keeps I.bk) c h) a
def fI(I:Inv X pins σ H s)(f:Gl X x)(d:X.mg x=none)(b:bootBuiltins x=some u)(h:Q u s)
  (c:x≠"__name__":=by decide) (a:(x==("__debug__":Str))=false:=by decide):wpAny (a4R X) X.A (eval (.Name x pos) X.env) Q E s:=by
 obtain⟨i,g,e⟩:=I.mod.blt;exact a2R I.ok.kind f (Calls.loadGlobal_builtin (by rw[I.ok.glob];exact I.mod.glob.keeps I.bk) d (by rw[I.ok.blt];exact g.keeps I.bk) ((e x c).trans b) h) a
def zy(c:Gl X x)(b:X.mg x=some u)(r:RelV v u)(a:(x==("__debug__":Str))=false:=by decide):PE X (.Name x pos) (tC v):=
 λ_ _ _ H _ I h=>bo I c b ⟨v,H,I,r,h⟩ a
def ID(e:Gl X x)(d:X.mg x=none)(b:bootBuiltins x=some u)(r:RelV v u)(c:x≠"__name__":=by decide)(a:(x==("__debug__":Str))=false:=by decide):PE X (.Name x pos) (tC v):=
 λ_ _ _ H _ I h=>fI I e d b ⟨v,H,I,r,h⟩ c a
variable {a b:a45}{ta tb:TE}{pos:Pos}
def gY(b:a45)(h:op≠.In)(e:op≠.NotIn):behindInMarks op b=false:=by
 have c:(op==CmpOp.In)=false:=by cases op<;>first|rfl|exact absurd rfl h
 have d:(op==CmpOp.NotIn)=false:=by cases op<;>first|rfl|exact absurd rfl e
 cases b<;>simp[behindInMarks,c,d]
def tB(t:TE):TT:=λe H Q=>t e H λx d=>∃c,x=.bl c/\Q c d
def NH(h:PE X e t)(he:∀c,isTrue e X.env c=(do let v<-c;standAt e.pos;holding [v] (truthy v)):=by intro _;rfl):PT X e (tB t):=by intro f s l H Q I g;refine isTrue_plain (thn (h f s l H _ I g) λv o ⟨x,j,m,n,i⟩=>?_) (he _);obtain⟨d,rfl,q⟩:=i;cases n;exact a1E ⟨j,m,q⟩
variable {tA tB':TT}{rest:a44}
def zaM(t u:TT):TT:=λe H Q=>t e H λc d=>if c=true then u e d Q else Q false d
def tOr(t u:TT):TT:=λe H Q=>t e H λc d=>if c=true then Q true d else u e d Q
def zaN(t:TT):TT:=λe H Q=>t e H λc d=>Q (!c) d
def pw_and1(f:PT X a tA):PW X (.BoolOp .And [a] pos) tA:=by
 intro i d s g H Q I h;refine isTrue_and (thn (f d s g H Q I h) λc j e=>?_);cases c with
 |true=>exact isTrue_and_nil e
 |false=>exact e
def pw_or1(f:PT X a tA):PW X (.BoolOp .Or [a] pos) tA:=by
 intro i d s g H Q I h;refine isTrue_or (thn (f d s g H Q I h) λc j e=>?_);cases c with
 |false=>exact isTrue_or_nil e
 |true=>exact e
def pw_and(l:PT X a tA)(j:PW X (.BoolOp .And (b::rest) pos) tB'):PW X (.BoolOp .And (a::b::rest) pos) (zaM tA tB'):=by
 intro m d s g H Q I h;refine isTrue_and (thn (l d s g H _ I h) λc n ⟨f,i,e⟩=>?_);cases c with
 |true=>exact j m d n g f Q i e
 |false=>exact⟨f,i,e⟩
def pw_or(l:PT X a tA)(j:PW X (.BoolOp .Or (b::rest) pos) tB'):PW X (.BoolOp .Or (a::b::rest) pos) (tOr tA tB'):=by
 intro m d s g H Q I h;refine isTrue_or (thn (l d s g H _ I h) λc n ⟨f,i,e⟩=>?_);cases c with
 |true=>exact⟨f,i,e⟩
 |false=>exact j m d n g f Q i e
def NI(f:PT X a tA):PT X (.UnaryOp .Not a pos) (zaN tA):=by intro d s g H Q I h;exact isTrue_not (f d s g H (λc e=>Q (!c) e) I h)
def Sh(ta tb:TE):TE:=λe H Q=>ta e H λx d=>∃c,x=.bl c/\if c=true then tb e d Q else Q (.bl false) d
def zaO(ta tb:TE):TE:=λe H Q=>ta e H λx d=>∃c,x=.bl c/\if c=true then Q (.bl true) d else tb e d Q
def NJ{op}(h:PE X a t):PE X (.BoolOp op [a] pos) t:=λc s e H Q I d=>BoolOp_one (h c s e H Q I d)
def NK(l:PE X a ta)(j:PE X (.BoolOp .And (b::rest) pos) tb):PE X (.BoolOp .And (a::b::rest) pos) (Sh ta tb):=by
 intro d s i H Q I h;refine BoolOp_and (thn (l d s i H _ I h) λv m ⟨x,f,g,n,e⟩=>?_);obtain⟨c,rfl,e⟩:=e;cases n;refine a1E ?_;cases c with
 |true=>exact j d m i f Q g e
 |false=>exact⟨.bl false,f,g,rfl,e⟩
def Sj(l:PE X a ta)(j:PE X (.BoolOp .Or (b::rest) pos) tb):PE X (.BoolOp .Or (a::b::rest) pos) (zaO ta tb):=by
 intro d s i H Q I h;refine BoolOp_or (thn (l d s i H _ I h) λv m ⟨x,f,g,n,e⟩=>?_);obtain⟨c,rfl,e⟩:=e;cases n;refine a1E ?_;cases c with
 |false=>exact j d m i f Q g e
 |true=>exact⟨.bl true,f,g,rfl,e⟩
end
def SqL(K:a48)(H:Hp)(a:Addr)(xs:a4a):Prop:=
 Rd H a (.lst xs)\/
  ∃(o:Obj)(b:a4u)(n:Nat),K.lookup a=some o/\o.cls=.type "list"/\o.dict=none/\o.data=.seq b n/\b.size<=sizeLine/\Vals xs b.toList
def SqT(K:a48)(H:Hp)(a:Addr)(xs:a4a):Prop:=
 Rd H a (.tup xs)\/
  ∃(o:Obj)(b:a4u)(n:Nat),K.lookup a=some o/\o.cls=.type "tuple"/\o.data=.seq b n/\b.size<=sizeLine/\Vals xs b.toList
def zaP:Value->Option V
 |.none=>some .non
 |.bool b=>some (.bl b)
 |.int i _=>some (.int i)
 |.str x _=>some (.str x)
 |.bytes b _=>some (.byt b)
 |.float b _=>some (.flt b)
 |.ref a=>some (.ref a)
 |.type n=>some (.ty n)
 |_=>none
def RelV.abs(r:RelV x u):zaP u=some x:=by
 cases x with
 |non=>cases r;rfl
 |bl _=>cases r;rfl
 |int _=>obtain⟨t,rfl⟩:=r;rfl
 |str _=>obtain⟨t,rfl⟩:=r;rfl
 |byt _=>obtain⟨t,rfl⟩:=r;rfl
 |flt _=>obtain⟨t,rfl⟩:=r;rfl
 |ref _=>cases r;rfl
 |ty _=>cases r;rfl
def RelV.inj(r:RelV x u)(q:RelV y u):x=y:=a0T (r.abs.symm.trans q.abs)
def Vals.inj:∀{a c:a4a}{b:a46},Vals a b->Vals c b->a=c
 |_,_,_,.nil,.nil=>rfl
 |_,_,_,.cons r t,.cons e d=>by rw[r.inj e,Vals.inj t d]
def SqL.of{K:a48}(h:H a=some (.lst xs)):SqL K H a xs:=.inl (.inl h)
def SqT.of{K:a48}(h:H a=some (.tup xs)):SqT K H a xs:=.inl (.inl h)
def Inv.list(I:Inv X pins σ H s)(h:SqL X.K H a xs):∃b:List Value,Vals xs b/\PlainL s.heap a b.toArray/\xs.length<=sizeLine:=by
 rcases h with h|⟨o,b,n,f,g,c,d,hz,r⟩
 .obtain⟨z,b,n,r,e⟩:=h.ok I.hok;exact⟨b,r,⟨_,n,e,rfl,rfl,rfl⟩,z⟩
 .refine⟨b.toList,r,⟨o,n,I.kIn a o f,g,c,by simpa using d⟩,?_⟩;have e:=r.length;simp only[Array.length_toList]at e;omega
def Inv.tuple(I:Inv X pins σ H s)(h:SqT X.K H a xs):∃b:List Value,Vals xs b/\IsTup s.heap a b.toArray/\xs.length<=sizeLine:=by
 rcases h with h|⟨o,b,n,d,f,c,hz,r⟩
 .obtain⟨z,b,r,p⟩:=h.ok I.hok;exact⟨b,r,p,z⟩
 .refine⟨b.toList,r,⟨o,I.kIn a o d,f,n,by simpa using c⟩,?_⟩;have e:=r.length;simp only[Array.length_toList]at e;omega
def Inv.EC(I:Inv X pins σ H s)(h:SqL X.K H a xs)(h':SqL X.K H a ys):xs=ys:=by
 obtain⟨c,r,⟨o,n,e,_,_,d⟩,_⟩:=I.list h;obtain⟨b,i,⟨j,l,g,_,_,f⟩,_⟩:=I.list h';rw[e]at g;cases g;rw[d]at f;injection f with d1 _
 have:c=b:=by simpa using a0O Array.toList d1
 subst this;exact r.inj i
def Inv.mD(I:Inv X pins σ H s)(h:SqT X.K H a xs)(h':SqT X.K H a ys):xs=ys:=by
 obtain⟨c,r,⟨o,e,_,n,d⟩,_⟩:=I.tuple h;obtain⟨b,i,⟨j,g,_,l,f⟩,_⟩:=I.tuple h';rw[e]at g;cases g;rw[d]at f;injection f with d1 _
 have:c=b:=by simpa using a0O Array.toList d1
 subst this;exact r.inj i
abbrev Cx.mE(X:Cx)(E:a41):Cx:={ X with xe:=E }
abbrev Cx.nox(X:Cx):Cx:=X.mE λ_ _=>False
def Cx.Ok.mE{X:Cx}(ok:X.Ok)(E:a41):(X.mE E).Ok:=
 ⟨ok.mod,ok.kind,ok.glob,ok.blt,ok.above,ok.inj,ok.has,ok.cab,ok.hd,ok.frames,ok.stk,ok.exf,ok.bs,ok.bsz,ok.RB,ok.RD,ok.tO,ok.frf⟩
def Cx.Ok.KD{X:Cx}{E:a41}(ok:(X.mE E).Ok):X.Ok:=
 ⟨ok.mod,ok.kind,ok.glob,ok.blt,ok.above,ok.inj,ok.has,ok.cab,ok.hd,ok.frames,ok.stk,ok.exf,ok.bs,ok.bsz,ok.RB,ok.RD,ok.tO,ok.frf⟩
def Inv.mE(I:Inv X pins σ H s)(E:a41):Inv (X.mE E) pins σ H s:=⟨I.ok.mE E,I.os,I.bare,I.base,I.loc,I.cell,I.free,I.e_,I.pin,I.hok,I.len,I.tk⟩
def Inv.KD(I:Inv (X.mE E) pins σ H s):Inv X pins σ H s:=⟨I.ok.KD,I.os,I.bare,I.base,I.loc,I.cell,I.free,I.e_,I.pin,I.hok,I.len,I.tk⟩
def SP.KD(h:SP (X.mE E) pins D f s'):SP X pins D f s':=by
 cases f with
 |next=>obtain⟨a,b,I,q⟩:=h;exact⟨a,b,I.KD,q⟩
 |brk=>obtain⟨a,b,I,q⟩:=h;exact⟨a,b,I.KD,q⟩
 |cont=>obtain⟨a,b,I,q⟩:=h;exact⟨a,b,I.KD,q⟩
 |ret u=>obtain⟨v,a,b,I,r,q⟩:=h;exact⟨v,a,b,I.KD,r,q⟩
section
variable {X:Cx}{st:a4z}{rest:a4r}{t u:TS}{e:a45}{te:TE}{pos:Pos}
def Sk:TS:=λD a H=>D.nx a H
def Sl(t u:TS):TS:=λD a H=>t { D with nx:=u D } a H
def IE:PSs X [] Sk:=λ_ _ a H _ I h=>a2z ⟨a,H,I,h⟩
def aV(l:PS X st t)(d:PSs X rest u):PSs X (st::rest) (Sl t u):=by
 intro a s j H D I h;refine wpAny_execs_cons (thn (l a s j H { D with nx:=u D } I h) λf i q=>?_);cases f with
 |next=>obtain⟨b,c,g,q⟩:=q;exact d a i b c D g q
 |ret v=>exact q
 |brk=>exact q
 |cont=>exact q
def j_(c:PS X st t):PSs X [st] t:=by
 intro a s b H D I h;refine wpAny_execs_cons (thn (c a s b H D I h) λf d q=>?_);cases f with
 |next=>exact a2z q
 |ret v=>exact q
 |brk=>exact q
 |cont=>exact q
def Inv.quiet(I:Inv X pins σ H s):interactive X.env=false:=by simp[interactive,I.ok.kind]
def Sm(te:TE):TS:=λD a H=>te a H λ_ b=>D.nx a b
def gZ(he:PE X e te)(d:swapsWith e none pos.line X.env=pure false:=by rfl):PS X (.Expr e pos) (Sm te):=by intro a s b H D I h;exact wpAny_Expr_any (thn (he a s b H _ I h) λv i ⟨x,f,g,j,c⟩=>⟨b,f,g,c⟩) I.quiet d
def zaQ(te:TE):TS:=λD a H=>te a H D.rt
def A8(he:PE X e te):PS X (.Return (some e) pos) (zaQ te):=by intro a s b H D I h;exact wpAny_Return_some (thn (he a s b H _ I h) λv i ⟨x,d,f,g,c⟩=>⟨x,b,d,f,g,c⟩)
def zaR(c:TT)(t u:TS):TS:=λD a H=>c a H λb d=>if b=true then t D a d else u D a d
def Sn(p:PT X c tc)(o:PSs X a t)(n:PSs X b u):PS X (.If c a b pos) (zaR tc t u):=by
 intro f s g H D I h;refine wpAny_If (thn (p f s g H _ I h) λd l ⟨j,m,i⟩=>?_);cases d with
 |true=>exact o f l g j D m i
 |false=>exact n f l g j D m i
end
abbrev TG:=V->St->Hp->(St->Hp->Prop)->Prop
abbrev TGs:=List V->St->Hp->(St->Hp->Prop)->Prop
def PG(X:Cx)(a:a45)(t:TG):Prop:=
 ∀(b:a38)(s:a42)(e:St)(H:Hp)(v:V)(u:Value)(Q:St->Hp->Prop),Inv X b e H s->RelV v u->t v e H Q->
  wpAny (a4R X) X.A (assign a X.env u) (λ_ f=>∃c d,Inv X b c d f/\Q c d) X.xe s
def PGs(X:Cx)(g:a44)(t:TGs):Prop:=
 ∀(a:a38)(s:a42)(f:St)(H:Hp)(e:a4a)(d:a46)(Q:St->Hp->Prop),Inv X a f H s->Vals e d->t e f H Q->
  wpAny (a4R X) X.A (assignInOrder ((assignEach g X.env).map (·.2)) d) (λ_ h=>∃b c,Inv X a b c h/\Q b c) X.xe s
abbrev zac:=V->V->V->Hp->(Hp->Prop)->Prop
def zad(X:Cx)(t:zac):Prop:=
 ∀(a:a38)(s:a42)(e:St)(H:Hp)(o i v:V)(c d u:Value)(Q:Hp->Prop),Inv X a e H s->RelV o c->RelV i d->RelV v u->t o i v H Q->
  wpAny (a4R X) X.A (setItem c d u) (λ_ f=>∃b,Inv X a e b f/\Q b) X.xe s
abbrev TIp:=V->V->Hp->VK->Prop
def PIp(X:Cx)(c:Operator)(t:TIp):Prop:=
 ∀(a:a38)(s:a42)(b:St)(H:Hp)(x y:V)(v u:Value)(Q:VK),Inv X a b H s->RelV x v->RelV y u->t x y H Q->
  wpAny (a4R X) X.A (inplaceOp c v u) (EP X a b Q) X.xe s
section
variable {X:Cx}{pos:Pos}
def xH(i:Nat):TG:=λv a H Q=>Q (a.set i (some v)) H
def A9(d:X.N.Nodup)(b:X.N[i]?=some x)(e:Loc X.env.scope x)(hf:X.fn x=true\/X.env.scope.names.lookup x=some .local:=by first|exact .inl rfl|exact .inr rfl|assumption):PG X (.Name x pos) (xH i):=by intro a s g H v u Q I r h;exact wpAny_assign_Name (gX I d b e r (λf c=>⟨_,H,c,h⟩) hf)
def zaS:TGs:=λa b H Q=>a=[]/\Q b H
def So(t:TG)(u:TGs):TGs:=λc d H Q=>∃v r,c=v::r/\t v d H λa b=>u r a b Q
def IF:PGs X [] zaS:=by intro a s b H d c Q I r h;obtain⟨e,h⟩:=h;subst e;cases r;exact assignInOrder_nil ⟨b,H,I,h⟩
def ED(g:PG X e t)(c:PGs X es u)
  (i:(assignEach (e::es) X.env).map (·.2)=assign e X.env::(assignEach es X.env).map (·.2):=by rfl):PGs X (e::es) (So t u):=by
 intro a s f H p w Q I r h;obtain⟨v,q,o,h⟩:=h;subst o;cases r with
 |cons r l=>rw[i];refine assignInOrder_cons (thn (g a s f H _ _ _ I r h) λ_ d ⟨b,j,n,m⟩=>?_);exact c a d b j _ _ Q n l m
def zaT(K:a48)(n:Nat)(t:TGs):TG:=λv c H Q=>∃a b,v=.ref a/\SqT K H a b/\b.length=n/\t b c H Q
def NL(p:X.calm=true)(h:PGs X es t)
  (y:(assignEach es X.env).length=n:=by rfl) (d:(assignEach es X.env).findIdx? (·.1)=none:=by rfl):PG X (.Tuple es k pos) (zaT X.K n t):=by
 intro c s g H v u Q I r f;obtain⟨a,z,B,m,x,f⟩:=f;subst B;cases r;obtain⟨j,i,w,hz⟩:=I.tuple m;refine assign_Tuple_tuple (I.ok.hd p) w (by simp[y,<- x,i.length]) d λl q=>?_;have A:Inv X c g H { s with heap:=l }:=I.kept (t':=s.toks) λb o e=>q b o (a0t (a0i e)) e;exact h c _ g H z _ Q A (by simpa using i) f
def zaU(f b:TE)(t:zac):TG:=λv a H Q=>f a H λo e=>b a e λi c=>t o i v c λd=>Q a d
def NM(e:PE X o to)(n:PE X i ti)(z:zad X t)
  (p:∀v,assign (.Subscript o i pos) X.env v=(do
   let b<-holding [v] (eval o X.env)
   let c<-holding [v,b] (eval i X.env)
   standAt pos
   holding [v,b,c] (setItem b c v)
   release [v,b,c] []):=by intro _;rfl):PG X (.Subscript o i pos) (zaU to ti t):=by
 intro a s d H v u Q I r h;rw[p];refine f8 (a1a (thn (e a s d H _ I h) λb j ⟨x,A,F,q,E⟩=>?_));refine f8 (a1a (thn (n a j d A _ F E) λc B ⟨y,D,C,l,f⟩=>?_));refine f8 (a14 (f8 (a1a (thn (z a B d D x y v b c u _ C q l r f) λ_ G ⟨m,g,w⟩=>?_))));exact wpAny_release ⟨d,m,g,w⟩
def NO(b:TE)(g:TG):TS:=λD a H=>b a H λx c=>g x a c D.nx
def NP(he:PE X e te)(f:PG X tg g)(l:swapsWithSole [tg] e pos.line X.env=pure false:=by rfl)(j:swappedStores [tg] e X.env=pure none:=by rfl)
  (d:(assignEach [tg] X.env).map (·.2)=[assign tg X.env]:=by rfl):PS X (.Assign [tg] e pos) (NO te g):=by
 intro a s b H D I h;refine wpAny_Assign_stores (thn (he a s b H _ I h) λv c ⟨x,m,o,i,n⟩=>?_) l j;rw[d];exact thn (f a c b m x v _ o i n) λ_ p q=>q
def GS(o:X.N.Nodup)(c:X.N[i]?=some x)(d:Loc X.env.scope x)(he:PE X e te)(g:swapsWith e (some (.Name x pos')) pos.line X.env=pure false:=by rfl)(hf:X.fn x=true\/X.env.scope.names.lookup x=some .local:=by first|exact .inl rfl|exact .inr rfl|assumption):
  PS X (.Assign [.Name x pos'] e pos) (NO te (xH i)):=by
 intro a s b H D I h;refine wpAny_Assign_Name (thn (he a s b H _ I h) λv p ⟨y,j,n,f,m⟩=>?_) g;exact gX n o c d f (λq l=>⟨_,j,l,m⟩) hf
def zaV(i:Nat)(d:TE)(b:TIp):TS:=λD a H=>∃x,a[i]?=some (some x)/\d a H λy e=>b x y e λz c=>D.nx (a.set i (some z)) c
def NQ(T:X.N.Nodup)(p:X.N[i]?=some x)(n:Loc X.env.scope x)(he:PE X e te)(A:PIp X op ti)(hf:X.fn x=true\/X.env.scope.names.lookup x=some .local:=by first|exact .inl rfl|exact .inr rfl|assumption):
  PS X (.AugAssign (.Name x pos') op e pos) (zaV i te ti):=by
 intro a s o H D I h;obtain⟨v,S,h⟩:=h;obtain⟨m,P,L⟩:=I.loc;have j:Vis X.env.scope x:=by rcases n with k|k;exact .inl k;exact .inr (.inl k)
 obtain⟨u,r,l⟩:=L i x v p S j;refine wpAny_AugAssign_Name ?_;have q:wpAny (a4R X) X.A (eval e X.env) (λw f=>wpAny (a4R X) X.A (inplaceOp op u w) (λr g=>wpAny (a4R X) X.A (storeName X.env x r) (λ_=>SP X a D .next) X.xe g) X.xe f) X.xe s:=by refine thn (he a s o H _ I h) λw E ⟨y,K,R,J,O⟩=>?_;refine thn (A a E o K v y u w _ R r J O) λz U ⟨Y,N,M,F,B⟩=>?_;exact gX M T p n F (λW C=>⟨_,N,C,B⟩) hf
 rcases l with⟨b,Q⟩|⟨b,c,G,d⟩
 .exact a3y I.ok.kind b P Q q
 .rcases b with b|b
  .exact a3H I.ok.kind b G d q
  .rcases n with k|k
   .have:X.env.scope.names.lookup x=some .free:=b;rw[k]at this;cases this
   .have:X.env.scope.names.lookup x=some .free:=b;rw[k]at this;cases this
def ipI(f:Int->Int->Int):TIp:=λx y H Q=>∃i j,x=.int i/\y=.int j/\Q (.int (f i j)) H
def GU:PIp X .Add (ipI λi j=>i+j):=by intro a s f H x y v u Q I c b h;obtain⟨i,j,e,d,q⟩:=h;subst e;subst d;obtain⟨t,rfl⟩:=c;obtain⟨g,rfl⟩:=b;exact iadd_int ⟨.int _,H,I.tok _,⟨_,rfl⟩,q⟩
def GV(c:TT)(tb:TS):TS:=λD a H=>∃W:Nat->St->Hp->Prop,(∃m,W m a H)/\∀m a H,W m a H->
 c a H λb f=>if b=true then ∃N:St->Hp->Prop,(∀d e,N d e->∃g,g<m/\W g d e)/\tb { D with nx:=N,ct:=N,bk:=D.nx } a f else D.nx a f
def EE(hp:PassesOwn (a4R X) X.A X.env X.xe)(E:PT X c tc)(F:PSs X body tb):PS X (.While c body [] pos) (GV tc tb):=by
 intro a s C H D I h;obtain⟨W,⟨K,J⟩,g⟩:=h;refine wpAny_While (codeAny_whileLoop (λn M=>∃j w,Inv X a j w M/\W n j w) ?_ K ⟨C,H,I,J⟩)
 rintro n B ⟨e,x,O,L⟩
 refine a1B hp (thn (E a B e x _ O (g n e x L)) λb G ⟨z,y,l⟩=>?_);cases b with
 |true=>
  obtain⟨N,A,l⟩:=l;rw[if_pos rfl];refine a1B hp (thn (F a G e z _ y l) λf P m=>?_);cases f with
  |next=>obtain⟨d,i,p,q⟩:=m;obtain⟨r,u,o⟩:=A d i q;exact⟨r,u,d,i,p,o⟩
  |cont=>obtain⟨d,i,p,q⟩:=m;obtain⟨r,u,o⟩:=A d i q;exact⟨r,u,d,i,p,o⟩
  |brk=>exact m
  |ret v=>exact m
 |false=>rw[if_neg a0q];exact a2z ⟨e,z,y,l⟩
end
structure It where
 go:Nat->Hp->Prop
 yld:Nat->Hp->V->Hp->Prop
 stop:Nat->Hp->Prop
def xI(X:Cx)(pins:a38)(H:Hp)(b:Addr):Prop:=
 H b=none/\b≠X.env.locals/\b∉X.fs/\(b∈X.ex\/X.s₀.heap.objs.size<=b)/\(∀x c,X.env.cells.lookup x=some c->c≠b)/\∀p∈X.pn++pins,p.1≠b
def Inv.Ni(I:Inv X pins σ H s)(a:s.heap.objs.size<=b)(d:H' b=none):xI X pins H' b:=by
 refine⟨d,a1U (a0u I.lt a),I.zaL a,.inr (a0y I.sz a),λx c e z=>?_,λp hp z=>?_⟩
 .obtain⟨v,q⟩:=I.cell x c e;exact absurd (a0u q.lt (by rw[z];exact a)) (a1i _)
 .exact absurd (a0u (a0i (I.pin p hp).1) (by rw[z];exact a)) (a1i _)
structure Turn(P:a4b)(w:a4e)(K:a48)(tg:a45)(J:It)(fp:a4w)(it:Addr)(tn:Nat->Heap->Prop):Prop where
 mem:it∈fp
 obj:∀i h,tn i h->∀b∈fp,∃o,h.get? b=some o/\∀v,o.data≠.cell v
 keep:∀i h h',tn i h->(∀b∈fp,∀o,h.get? b=some o->h'.get? b=some o)->tn i h'
 item:∀(X:Cx),X.prog=P->X.w=w->X.K=K->X.calm=true->∀(i:Nat)(pins:a38)(s:a42)(σ:St)(H:Hp)(E:a41),Inv X pins σ H s->(∀b∈fp,xI X pins H b)->tn i s.heap->J.go i H->
  wpAny (model P w) X.A (pyNext (.ref it)) (λr s1=>∃u,r=some u/\
   wpAny (model P w) X.A (letOwnedTupleGo tg (.ref it) u) (λ_ s2=>∃x H',Inv X pins σ H' s2/\RelV x u/\J.yld i H x H'/\tn (i+1) s2.heap/\∀b∈fp,H' b=none) E s1) E s
 done:∀(X:Cx),X.prog=P->X.w=w->X.K=K->X.calm=true->∀(i:Nat)(pins:a38)(s:a42)(σ:St)(H:Hp)(E:a41),Inv X pins σ H s->(∀b∈fp,xI X pins H b)->tn i s.heap->J.stop i H->
  wpAny (model P w) X.A (pyNext (.ref it)) (λr s1=>r=none/\Inv X pins σ H s1) E s
 self:∀(A:a4i)(i:Nat)(s:a42)(Q:a41)(E:a41),tn i s.heap->Q (.ref it) s->wpAny (model P w) A (pyIter (.ref it)) Q E s
abbrev TI:=St->Hp->(It->Hp->Prop)->Prop
def PIE(X:Cx)(pins:a38)(σ:St)(h:a45)(R:It->Hp->Prop)(a:Value)(e:a42):Prop:=
 ∃(f:Addr)(g:a4w)(d:Nat->Heap->Prop)(J:It)(c:Hp),a=.ref f/\Inv X pins σ c e/\Turn X.prog X.w X.K h J g f d/\d 0 e.heap/\(∀b∈g,xI X pins c b)/\R J c
def PI(X:Cx)(c f:a45)(d:TI):Prop:=
 ∀(a:a38)(s:a42)(b:St)(H:Hp)(R:It->Hp->Prop),Inv X a b H s->d b H R->
  wpAny (a4R X) X.A (eval f X.env) (λv e=>wpAny (a4R X) X.A (pyIter v) (PIE X a b c R) X.xe e) X.xe s
def IG(d:s.heap.get? it=some o)(e:o.cls=.type n)(b:o.data=.fields vs)
    (c:["enumerate","zip","dict_itemiterator","dict_reverseitemiterator","odict_iterator","itertools.zip_longest","itertools.pairwise"].contains n=false) (a:Q () s):wpAny M A (letOwnedTupleGo tg (.ref it) u) Q E s:=by
  unfold letOwnedTupleGo;cases tg<;>first
    |exact a0h a
    | (cases u<;>first
        |exact a0h a
        | (refine f8 (a3z d ?_)
           rw[e,b];show wpAny M A (if(["enumerate","zip","dict_itemiterator","dict_reverseitemiterator","odict_iterator","itertools.zip_longest","itertools.pairwise"].contains n&&vs[0]?==some (rawInt _))=true then _ else _) Q E s;rw[if_neg (by intro h;rw[c,Bool.false_and]at h;cases h)];exact a0h a))
def Itl(K:a48)(a:Addr):It:=
 ⟨λi H=>∃b x,SqL K H a b/\b[i]?=some x,λi H x c=>c=H/\∀b,SqL K H a b->b[i]?=some x,λi H=>∃b,SqL K H a b/\b.length<=i⟩
def Itt(K:a48)(a:Addr):It:=
 ⟨λi H=>∃b x,SqT K H a b/\b[i]?=some x,λi H x c=>c=H/\∀b,SqT K H a b->b[i]?=some x,λi H=>∃b,SqT K H a b/\b.length<=i⟩
def Itr(b:Int)(n:Nat):It:=⟨λi _=>i<n,λi H x a=>a=H/\x=.int (b+i),λi _=>n<=i⟩
def A_{P:a4b}{w:a4e}{K:a48}{R:a45}(a j:Addr):Turn P w K R (Itl K a) [j] j (λi h=>h.IsListIter j a i)where
 mem:=by simp
 obj:=λi h f b l=>by
  have e:b=j:=by simpa using l
  subst e;obtain⟨o,e,c,d⟩:=f;exact⟨o,e,λv z=>by rw[d]at z;cases z⟩
 keep:=λi h n f k=>f.at λo e=>k j (by simp) o e
 item:=by intro X hP F G O i g s N H E I hf f C;subst hP F G;obtain⟨Z,x,q,D⟩:=C;obtain⟨r,J,p,hz⟩:=I.list q;obtain⟨u,Y,U⟩:=J.get D;obtain⟨A,y,Q,M,B,L⟩:=hf j (by simp);refine wpAny_pyNext_list_item f p.isList (x:=u) (by simpa using Y) λn m S=>?_;have I1:Inv X g N H { s with heap:=n }:=I.turned (t':=s.toks) (λb o l e=>(S.2 b l).trans e) A y M B L;obtain⟨o,e,c,d⟩:=id m;exact⟨u,rfl,IG (s:={ s with heap:=n }) e c d (by decide) ⟨x,H,I1,U,⟨rfl,λys T=>by rw[I.EC T q];exact D⟩,m,λb l=>(hf b l).1⟩⟩
 done:=by intro X hP F G O i g s N H E I hf f C;subst hP F G;obtain⟨Z,q,D⟩:=C;obtain⟨r,J,p,hz⟩:=I.list q;obtain⟨A,y,Q,M,B,L⟩:=hf j (by simp);have hl:=J.length;exact wpAny_pyNext_list_end (I.ok.hd O) f p.isList (by simp;omega) λn W=>⟨rfl,I.turned (t':=s.toks) (λb o l e=>W b o l e) A y M B L⟩
 self:=λ_ _ _ _ _ f h=>wpAny_pyIter_listiter f h
def xJ{P:a4b}{w:a4e}{K:a48}{R:a45}(a l:Addr):Turn P w K R (Itt K a) [l] l (λi h=>h.IsTupleIter l a i)where
 mem:=by simp
 obj:=λi h f b m=>by
  have e:b=l:=by simpa using m
  subst e;obtain⟨o,e,c,d⟩:=f;exact⟨o,e,λv z=>by rw[d]at z;cases z⟩
 keep:=λi h q f k=>f.at λo e=>k l (by simp) o e
 item:=by intro X hP F G O i g s N H E I hf f C;subst hP F G;obtain⟨Z,x,r,D⟩:=C;obtain⟨j,J,p,hz⟩:=I.tuple r;obtain⟨u,Y,U⟩:=J.get D;obtain⟨A,y,Q,M,B,L⟩:=hf l (by simp);refine wpAny_pyNext_tuple_item f (show s.heap.IsTuple a j.toArray from p) (x:=u) (by simpa using Y) λq n S=>?_;have I1:Inv X g N H { s with heap:=q }:=I.turned (t':=s.toks) (λb o m e=>(S.2 b m).trans e) A y M B L;obtain⟨o,e,c,d⟩:=id n;exact⟨u,rfl,IG (s:={ s with heap:=q }) e c d (by decide) ⟨x,H,I1,U,⟨rfl,λys T=>by rw[I.mD T r];exact D⟩,n,λb m=>(hf b m).1⟩⟩
 done:=by intro X hP F G O i g s N H E I hf f C;subst hP F G;obtain⟨Z,r,D⟩:=C;obtain⟨j,J,p,hz⟩:=I.tuple r;obtain⟨A,y,Q,M,B,L⟩:=hf l (by simp);have hl:=J.length;exact wpAny_pyNext_tuple_end (I.ok.hd O) f (show s.heap.IsTuple a j.toArray from p) (by simp;omega) λq W=>⟨rfl,I.turned (t':=s.toks) (λb o m e=>W b o m e) A y M B L⟩
 self:=λ_ _ _ _ _ f h=>wpAny_pyIter_tupleiter f h
def xK{P:a4b}{w:a4e}{K:a48}{G:a45}(d:Addr)(j:Int)(n:Nat):Turn P w K G (Itr j n) [d] d (λi h=>IsRangeIter h d (j+(i:Nat)*1) ((n:Int)-(i:Nat)) 1)where
 mem:=by simp
 obj:=λi h a b f=>by
  have e:b=d:=by simpa using f
  subst e;exact⟨_,a,λv z=>by
   have M:Data.fields _=Data.cell v:=z;cases M⟩
 keep:=λi h l a k=>k d (by simp) _ a
 item:=by
  intro X hP x y u i c s D H E I hf a r;subst hP x y;obtain⟨p,m,F,B,q,A⟩:=hf d (by simp);have W:=Walks.range (prog:=X.prog) (w:=X.w) (I.ok.hd u) d j 1 n;refine a0P (n:=X.m) I.tk<|W.item i s _ _ r a λv l C L g kk O=>?_
  obtain⟨t,rfl⟩:=L;have N:Inv X c D H { s with heap:=l,toks:=C }:=I.turned (λb o f e=>kk b o (by simpa using f) e) p m B q A;refine⟨_,rfl,IG (s:={ s with heap:=l,toks:=C }) (n:="range_iterator") g rfl rfl (by decide) ⟨.int (j+i),H,N,⟨t,?_⟩,⟨rfl,rfl⟩,g,λb f=>(hf b f).1⟩⟩;rw[Int.mul_one]
 done:=by intro X hP x y u i c s D H E I hf a r;subst hP x y;obtain⟨p,m,F,B,q,A⟩:=hf d (by simp);exact wpAny_pyNext_range_end (I.ok.hd u) a (by have:n<=i:=r;omega) λl J=>⟨rfl,I.turned (t':=s.toks) (λb o f e=>J b o f e) p m B q A⟩
 self:=λ_ _ _ _ _ a h=>wpAny_pyIter_rangeiter a h
section
variable {X:Cx}{tg:a45}
def EF{pins:a38}{σ:St}{H:Hp}{s:a42}{R:It->Hp->Prop}{E:a41}{a c:Int}{t u v:Tok}{tk:Nat}(I:Inv X pins σ H s)(m:-(2 ^ 62)<=a)(i:a<2 ^ 62)(g:-(2 ^ 62)<=c)(f:c<2 ^ 62)
  (q:R (Itr a (c-a).toNat) H) (n:X.m<=tk:=by ac_rfl):wpAny (a4R X) X.A (pyIter (.ref s.heap.objs.size)) (PIE X pins σ tg R) E { s with heap:=s.heap.push { cls:=.type "range",data:=.fields #[.int a t,.int c u,.int 1 v] },toks:=tk }:=by
 refine wpAny_pyIter_range (IsRange.new ..) (small_one m i g f) ?_;have d:Inv X pins σ H { s with heap:=s.heap.push { cls:=.type "range",data:=.fields #[.int a t,.int c u,.int 1 v] },toks:=tk }:=I.kept λb o e=>a0d _ e;refine⟨(s.heap.push { cls:=.type "range",data:=.fields #[.int a t,.int c u,.int 1 v] }).objs.size,[(s.heap.push { cls:=.type "range",data:=.fields #[.int a t,.int c u,.int 1 v] }).objs.size],_,_,H,rfl,
  d.kept (t':=tk) λb o e=>a0d _ e,xK _ a (c-a).toNat,?_,λb h=>?_,q⟩
 .have j:a+((0:Nat):Int)*1=a:=by simp
  have l:(((c-a).toNat:Nat):Int)-((0:Nat):Int)=Builtin.Range.rangeSize a c 1:=by rw[rangeSize_one];split<;>omega
  show IsRangeIter _ _ (a+((0:Nat):Int)*1) ((((c-a).toNat:Nat):Int)-((0:Nat):Int)) 1;rw[j,l];exact a0x _ rfl
 .have e:b=(s.heap.push { cls:=.type "range",data:=.fields #[.int a t,.int c u,.int 1 v] }).objs.size:=by simpa using h
  subst e;exact d.Ni (a0e _) (d.hok.fresh (a0e _))
def Sq(a:TA):TI:=λd H R=>a d H λc b=>∃j:Int,c=[.int j]/\-(2 ^ 62)<=j/\j<2 ^ 62/\R (Itr 0 j.toNat) b
def Ba(i:Gl X "range")(o:X.mg "range"=none)(g:PA X [a] ta)(m:starEach [a] X.env=[(false,eval a X.env)]:=by rfl):PI X tg (.Call (.Name "range" p) [a] [] pos) (Sq ta):=by
 intro b s f H R I h;refine Call_ (fI I i o boot_range (a1Y (thn (g pos b s f H _ I h) λy v ⟨x,w,u,l,c⟩=>?_) m rfl));obtain⟨j,e,c,d,q⟩:=c;subst e;cases l with
 |cons r n=>cases n;obtain⟨t,rfl⟩:=r;exact call_range_1 (EF u (by omega) (by omega) c d (by simpa using q))
def RM(h:TI)(g:TG)(tb:TS):TS:=λD a H=>h a H λJ j=>∃W:Nat->Nat->St->Hp->Prop,(∃m,W 0 m a j)/\∀i m a H,W i m a H->
 (J.stop i H/\D.nx a H)\/(J.go i H/\∃N:St->Hp->Prop,(∀c b,N c b->∃e,e<m/\W (i+1) e c b)/\∀x b,J.yld i H x b->g x a b λd f=>tb { D with nx:=N,ct:=N,bk:=D.nx } d f)
def mF(a:a4w)(h:Heap):List (Addr×Obj):=a.filterMap λb=>(h.get? b).map λo=>(b,o)
def Kl(a:b∈fp)(e:h.get? b=some o):(b,o)∈mF fp h:=a3P.mpr ⟨b,a,by rw[e];rfl⟩
def Bb(hp:p∈mF fp h):p.1∈fp/\h.get? p.1=some p.2:=by
 obtain⟨b,a,e⟩:=a3P.mp hp;cases q:h.get? b with
 |none=>rw[q]at e;cases e
 |some o=>rw[q]at e;have c:(b,o)=p:=a0T e;subst c;exact⟨a,q⟩
def Inv.pinned(I:Inv X pins σ H s)(hf:∀b∈fp,xI X pins H b)(g:∀b∈fp,∃o,s.heap.get? b=some o/\∀v,o.data≠.cell v):Inv X (pins++mF fp s.heap) σ H s:=
 I.gU λp hp=>(a0A.mp hp).elim (λz=>I.pin p (a0p _ z)) λz=>by obtain⟨a,e⟩:=Bb z;obtain⟨i,h,f,_⟩:=hf p.1 a;obtain⟨o,c,d⟩:=g p.1 a;rw[e]at c;cases c;exact⟨e,i,h,f,d⟩
def Inv.Zf(I:Inv X (pins++pl) σ H s):Inv X pins σ H s:=I.gU λp hp=>I.pin p (a0p _ (a0J _ hp))
def GW(hp:PassesOwn (a4R X) X.A X.env X.xe)(hc:X.calm=true)(hi:PI X tg jI wi)(hg:PG X tg g)(j:PSs X body tb)
  (hs:∀x,foldedSetIterable jI X.env x=pure x:=by intro _;rfl):PS X (.For tg jI body [] pos) (RM wi g tb):=by
 intro c s σ H D I h;refine wpAny_For (thn (hi c s σ H _ I h) λv s1 h1=>thn h1 λitv s2 h2=>?_) hs;obtain⟨it,K,tn,J,H2,e,I2,T,S,Z,W,⟨m0,w0⟩,M⟩:=h2;subst e
 -- what stays true of the iterator's objects through the loop
 have q:∀{A:Hp},(∀b∈K,A b=none)->∀b∈K,xI X c A b:=λhn b j=>⟨hn b j,(Z b j).2⟩;refine codeAny_forLoop_any (λn s'=>∃i y A,Inv X c y A s'/\tn i s'.heap/\(∀b∈K,A b=none)/\W i n y A) ?_ m0 ⟨0,σ,H2,I2,S,λb j=>(Z b j).1,w0⟩
 rintro n s3 ⟨i,l,O,I3,E,G,w3⟩
 rcases M i n l O w3 with⟨F,qn⟩|⟨go,N,hN,step⟩
 .refine a1B hp (thn (T.done X rfl rfl rfl hc i c s3 l O X.xe I3 (q G) E F) λr s4 ⟨R,I4⟩=>?_);subst R;exact a2z ⟨l,O,I4,qn⟩
 .refine a1B hp (thn (T.item X rfl rfl rfl hc i c s3 l O X.xe I3 (q G) E go) λr s4 ⟨u,R,h4⟩=>?_);subst R;refine a1B hp (thn h4 λ_ s5 ⟨x,H5,I5,r5,y5,C,Q⟩=>?_);have P:=I5.pinned (q Q) (T.obj _ _ C);refine a1B hp (thn (hg _ s5 l H5 x u _ P r5 (step x H5 y5)) λ_ s6 ⟨Y,H6,I6,q6⟩=>?_);refine a1B hp (thn (j _ s6 Y H6 _ I6 q6) λf U B=>?_);have z:∀{a:St}{w:Hp},Inv X (c++mF K s5.heap) a w U->N a w->∃m,m<n/\∃i y A,Inv X c y A U/\tn i U.heap/\(∀b∈K,A b=none)/\W i m y A:=λ{a w} p L=>by obtain⟨m',hm,w7⟩:=hN a w L;refine⟨m',hm,i+1,a,w,p.Zf,T.keep _ _ _ C λb j o e=>(p.pin (b,o) (a0p _ (a0p _ (Kl j e)))).1,λb j=>?_,w7⟩;obtain⟨o,e,d⟩:=T.obj _ _ C b j;exact(p.pin (b,o) (a0p _ (a0p _ (Kl j e)))).2.1
  cases f with
  |next=>obtain⟨a,w,p,L⟩:=B;exact z p L
  |cont=>obtain⟨a,w,p,L⟩:=B;exact z p L
  |brk=>obtain⟨a,w,p,B⟩:=B;exact⟨a,w,p.Zf,B⟩
  |ret v=>obtain⟨x7,a,w,p,r7,B⟩:=B;exact⟨x7,a,w,p.Zf,r7,B⟩
end
abbrev R2:=V->V->Hp->VK->Prop
def OpR(X:Cx)(f:Value->Value->Sem Value)(r:R2):Prop:=
 ∀(a:a38)(s:a42)(b:St)(H:Hp)(x y:V)(v u:Value)(Q:VK),Inv X a b H s->RelV x v->RelV y u->r x y H Q->
  wpAny (a4R X) X.A (f v u) (EP X a b Q) X.xe s
def UnR(X:Cx)(f:Value->Sem Value)(r:V->Hp->VK->Prop):Prop:=
 ∀(a:a38)(s:a42)(b:St)(H:Hp)(x:V)(v:Value)(Q:VK),Inv X a b H s->RelV x v->r x H Q->
  wpAny (a4R X) X.A (f v) (EP X a b Q) X.xe s
def ZS(X:Cx)(f:Value)(r:List V->Hp->VK->Prop):Prop:=
 ∀(a:a38)(s:a42)(d:St)(H:Hp)(c:a4a)(b:a46)(Q:VK),Inv X a d H s->Vals c b->r c H Q->
  wpAny (a4R X) X.A (call f b) (EP X a d Q) X.xe s
def tOp(r:R2)(b tb:TE):TE:=λa H Q=>b a H λx d=>tb a d λy c=>r x y c Q
def tUn(r:V->Hp->VK->Prop)(a:TE):TE:=λc H Q=>a c H λx b=>r x b Q
def rI(C:Int->Int->Prop)(g:Int->Int->V):R2:=λx y H Q=>∃i j,x=.int i/\y=.int j/\C i j/\Q (g i j) H
def rI0(g:Int->Int->V):R2:=λx y H Q=>∃i j,x=.int i/\y=.int j/\Q (g i j) H
def rU(g:Int->V):V->Hp->VK->Prop:=λx H Q=>∃i,x=.int i/\Q (g i) H
section
variable {X:Cx}{a b:a45}{ta tb:TE}{pos:Pos}
def Sr(o:PE X a ta)(q:PE X b tb){pins:a38}{s:a42}{σ:St}{H:Hp}{R:V->V->Hp->Prop}(I:Inv X pins σ H s)
  (h:ta σ H λx j=>tb σ j λy d=>R x y d) {Q:a41}{f:Value->Value->Sem Value}
  (hf:∀v u i x y d,Inv X pins σ d i->RelV x v->RelV y u->R x y d->wpAny (a4R X) X.A (f v u) Q X.xe i):
  wpAny (a4R X) X.A (eval a X.env) (λv g=>wpAny (a4R X) X.A (eval b X.env) (λu e=>wpAny (a4R X) X.A (f v u) Q X.xe e) X.xe g) X.xe s:=by
 refine thn (o pins s σ H _ I h) λv m ⟨x,j,z,p,w⟩=>?_;refine thn (q pins m σ j _ z w) λu i ⟨y,d,r,n,l⟩=>?_;exact hf v u i x y d r p n l
def NR(e:OpR X (binaryOp op) r)(j:PE X a ta)(l:PE X b tb):PE X (.BinOp a op b pos) (tOp r ta tb):=by intro d s g H Q I h;exact wpAny_BinOp (Sr j l I h λv u m x y o n f i q=>e d m g o x y v u Q n f i q)
def Ss(i:UnR X (unaryOp op) r)(j:PE X a ta):PE X (.UnaryOp op a pos) (tUn r ta):=by intro d s e H Q I h;exact UnaryOp_ (thn (j d s e H _ I h) λv l ⟨x,g,m,n,f⟩=>i d l e g x v Q m n f)
def opI{f:Value->Value->Sem Value}{C:Int->Int->Prop}{g:Int->Int->Int}
  (d:∀(i j:Int)(t u:Tok)(s:a42)(Q:a41)(E:a41),C i j->Q (.int (g i j) s.toks) { s with toks:=s.toks+1 }->wpAny (a4R X) X.A (f (.int i t) (.int j u)) Q E s):
  OpR X f (rI C λi j=>.int (g i j)):=by
 intro e s p H x y v u Q I l m h;obtain⟨i,j,rfl,rfl,n,q⟩:=h;obtain⟨t,rfl⟩:=l;obtain⟨o,rfl⟩:=m;exact d i j t o s _ _ n ⟨.int (g i j),H,I.tok _,⟨_,rfl⟩,q⟩
def zae{f:Value->Value->Sem Value}{g:Int->Int->Int}
  (d:∀(i j:Int)(t u:Tok)(s:a42)(Q:a41)(E:a41),Q (.int (g i j) s.toks) { s with toks:=s.toks+1 }->wpAny (a4R X) X.A (f (.int i t) (.int j u)) Q E s):
  OpR X f (rI0 λi j=>.int (g i j)):=by
 intro e s o H x y v u Q I l m h;obtain⟨i,j,rfl,rfl,q⟩:=h;obtain⟨t,rfl⟩:=l;obtain⟨n,rfl⟩:=m;exact d i j t n s _ _ ⟨.int (g i j),H,I.tok _,⟨_,rfl⟩,q⟩
def RN{f:Value->Value->Sem Value}{g:Int->Int->Bool}
  (d:∀(i j:Int)(t u:Tok)(s:a42)(Q:a41)(E:a41),Q (.bool (g i j)) s->wpAny (a4R X) X.A (f (.int i t) (.int j u)) Q E s):
  OpR X f (rI0 λi j=>.bl (g i j)):=by
 intro e s o H x y v u Q I l m h;obtain⟨i,j,rfl,rfl,q⟩:=h;obtain⟨t,rfl⟩:=l;obtain⟨n,rfl⟩:=m;exact d i j t n s _ _ ⟨.bl (g i j),H,I,rfl,q⟩
def Nj(i j:Int):Prop:=0<j/\j<1073741824
def NS(i j:Int):Prop:=0<=j/\j<=1000000/\i.natAbs<2 ^ 64
def GX(i j:Int):Prop:=(-(2 ^ 64)<i/\i<2 ^ 64)\/(-(2 ^ 64)<j/\j<2 ^ 64)
def GX.ok(h:GX i j):IntMulOk i j:=by
 rcases h with⟨d,e⟩|⟨d,e⟩
 .exact .of_left (intBits_le_64 d e)
 .exact .of_right (intBits_le_64 d e)
def NT:OpR X (binaryOp .Add) (rI0 λi j=>.int (i+j)):=zae λ_ _ _ _ _ _ _ q=>add_int q
def jK:OpR X (binaryOp .Sub) (rI0 λi j=>.int (i-j)):=zae λ_ _ _ _ _ _ _ q=>sub_int q
def NU:OpR X (binaryOp .Mult) (rI GX λi j=>.int (i*j)):=opI λ_ _ _ _ _ _ _ d q=>mul_int q d.ok
def IH:OpR X (binaryOp .FloorDiv) (rI Nj λi j=>.int (i / j)):=opI λi j _ _ _ _ _ d q=>by have f:(0:Int)<j:=d.1;have e:j<1073741824:=d.2;exact floordiv_int (by omega) (by rw[Int.fdiv_eq_ediv_of_nonneg i (by omega)];exact q) (.inl (PyProof.noPylong_small (by omega)))
def NV:OpR X (binaryOp .Mod) (rI (λ_ j=>0<j) λi j=>.int (i % j)):=opI λi j _ _ _ _ _ d q=>by have e:(0:Int)<j:=d;exact mod_int' (by omega) (by rw[Int.fmod_eq_emod_of_nonneg i (by omega)];exact q)
def II:OpR X (binaryOp .Mod) (rI (λ_ j=>j≠0) λi j=>.int (i.fmod j)):=opI λ_ _ _ _ _ _ _ d q=>mod_int' d q
def mG:OpR X (binaryOp .Pow) (rI NS λi j=>.int (i ^ j.toNat)):=opI λ_ _ _ _ _ _ _ d q=>pow_int_small d.1 d.2.1 d.2.2 q
def unI{f:Value->Sem Value}{g:Int->Int}
  (d:∀(i:Int)(t:Tok)(s:a42)(Q:a41)(E:a41),Q (.int (g i) s.toks) { s with toks:=s.toks+1 }->wpAny (a4R X) X.A (f (.int i t)) Q E s):
  UnR X f (rU λi=>.int (g i)):=by
 intro e s l H x v Q I j h;obtain⟨i,rfl,q⟩:=h;obtain⟨t,rfl⟩:=j;exact d i t s _ _ ⟨.int (g i),H,I.tok _,⟨_,rfl⟩,q⟩
def WA:UnR X (unaryOp .USub) (rU λi=>.int (-i)):=unI λ_ _ _ _ _ q=>neg_int q
end
section
variable {X:Cx}{a b c:a45}{ta tb tc:TE}{pos:Pos}
def Bc(I:Inv X pins σ H s)(q:Q (.bl k) H)(e:k=k'):EP X pins σ Q (.bool k') s:=by subst e;exact⟨.bl k,H,I,rfl,q⟩
def g5:OpR X (compareOp .Lt) (rI0 λi j=>.bl (decide (i<j))):=RN λ_ _ _ _ _ _ _ q=>lt_int q
def g6:OpR X (compareOp .LtE) (rI0 λi j=>.bl (decide (i<=j))):=RN λ_ _ _ _ _ _ _ q=>le_int q
def g7:OpR X (compareOp .Gt) (rI0 λi j=>.bl (decide (j<i))):=RN λ_ _ _ _ _ _ _ q=>gt_int q
def IJ:OpR X (compareOp .GtE) (rI0 λi j=>.bl (decide (j<=i))):=RN λ_ _ _ _ _ _ _ q=>ge_int q
def Bd:OpR X (compareOp .In) (λx y H Q=>∃i j,x=.str i/\y=.str j/\Q (.bl (!(Builtin.Str.occurrences j i 0 j.length 1).isEmpty)) H):=by intro d s l H x y v u Q I e f h;obtain⟨i,j,rfl,rfl,q⟩:=h;obtain⟨t,rfl⟩:=e;obtain⟨g,rfl⟩:=f;exact in_str (Bc I q rfl)
def tS:OpR X (compareOp .Is) (λx y H Q=>y=.non/\Q (.bl (decide (x=.non))) H):=by
 intro e s g H x y v u Q I d f h;obtain⟨rfl,q⟩:=h;cases f;refine is_none_gen (Bc I q ?_);cases x<;>first
  | (cases d;rfl)
  | (obtain⟨t,rfl⟩:=d;rfl)
def Be:OpR X (compareOp .IsNot) (λx y H Q=>y=.non/\Q (.bl (!decide (x=.non))) H):=by
 intro e s g H x y v u Q I d f h;obtain⟨rfl,q⟩:=h;cases f;refine isnot_none_gen (Bc I q ?_);cases x<;>first
  | (cases d;rfl)
  | (obtain⟨t,rfl⟩:=d;rfl)
def OpR.or(h:OpR X f r)(h':OpR X f r'):OpR X f (λx y H Q=>r x y H Q\/r' x y H Q):=by
 intro d s g H x y v u Q I e i q;rcases q with q|q
 .exact h d s g H x y v u Q I e i q
 .exact h' d s g H x y v u Q I e i q
def yt(b:a45)(h:op≠.In:=by decide)(f:op≠.NotIn:=by decide):behindInMarks op b=false:=by
 have d:(op==CmpOp.In)=false:=by cases op<;>first|rfl|exact absurd rfl h
 have e:(op==CmpOp.NotIn)=false:=by cases op<;>first|rfl|exact absurd rfl f
 cases b<;>simp[behindInMarks,d,e]
def IK(e:OpR X (compareOp op) r)(j:PE X a ta)(l:PE X b tb)(p:behindInMarks op b=false):PE X (.Compare a [op] [b] pos) (tOp r ta tb):=by intro d s g H Q I h;exact wpAny_Compare1 (Sr j l I h λv u m x y o n f i q=>e d m g o x y v u Q n f i q) p
def IL(t:TE):TT:=λe H Q=>t e H λx d=>∃k,x=.bl k/\Q k d
def pV(g:OpR X (compareOp op) r)(o:PE X a ta)(w:PE X b tb)(G:behindInMarks op b=false):PT X (.Compare a [op] [b] pos) (IL (tOp r ta tb)):=by
 intro d s f H Q I h;refine wpAny_isTrue_Compare1 (thn (o d s f H _ I h) λv l ⟨x,A,J,p,F⟩=>thn (w d l f A _ J F) λu B ⟨y,E,D,m,i⟩=>
  thn (g d B f E x y v u _ D p m i) λc K ⟨z,n,j,C,k,e,q⟩=>?_) G
 subst e;cases C;exact a1E ⟨n,j,q⟩
def GY(r j:R2)(ta tb tc:TE):TE:=λd H Q=>ta d H λx g=>tb d g λy f=>r x y f λz e=>∃k,z=.bl k/\
 (if k=true then tc d e λh i=>j y h i Q else Q (.bl false) e)
def EG(p:OpR X (compareOp op) r)(i:OpR X (compareOp op') r')(C:PE X a ta)(L:PE X b tb)(F:PE X c tc)
  (hm:lastMarks [op,op'] [b,c]=false:=by with_unfolding_all rfl):PT X (.Compare a [op,op'] [b,c] pos) (IL (GY r r' ta tb tc)):=by
 intro f s g H Q I h;refine isTrue_chain (thn (C f s g H _ I h) λv A ⟨x,N,I1,G,Z⟩=>test_link (thn (L f A g N _ I1 Z) λu O ⟨y,Y,T,l,q⟩=>
  thn (p f O g Y x y v u _ T G l q) λd S ⟨z,m,j,P,k,e,n⟩=>?_)) hm
 subst e;cases P;refine a1E ?_;cases k with
 |false=>obtain⟨k',D,J⟩:=n;cases D;exact ite_ff ⟨m,j,J⟩
 |true=>refine ite_tt (test_last (thn (F f S g m _ j n) λR E ⟨z',w,I4,K,M⟩=>thn (i f E g w y z' u R _ I4 l K M) λd' s5 ⟨z2,H5,U,B,k2,W,o⟩=>?_));subst W;cases B;exact a1E ⟨H5,U,o⟩
def mH:(sizeLine:Nat)<2 ^ 63:=by rw[a06];decide
def xM:OpR X (binaryOp .Add) (λx y H Q=>∃i j,x=.str i/\y=.str j/\i.length+j.length<=sizeLine/\Q (.str (i++j)) H):=by intro pins s σ H x y v u Q I rx ry h;obtain⟨i,j,rfl,rfl,hz,q⟩:=h;obtain⟨t,rfl⟩:=rx;obtain⟨t',rfl⟩:=ry;exact a0P (n:=X.m) I.tk<|add_str (λt' tk hn=>⟨.str (i++j),H,I.tok _ hn,⟨_,rfl⟩,q⟩) hz
def vals1(r:Vals [x] us):∃u,us=[u]/\RelV x u:=by
 cases r with
 |cons e d=>cases d;exact⟨_,rfl,e⟩
def vals2(r:Vals [x,y] us):∃u d,us=[u,d]/\RelV x u/\RelV y d:=by
 cases r with
 |cons h f=>
  cases f with
  |cons g e=>cases e;exact⟨_,_,rfl,h,g⟩
def Bf(hc:X.calm=true):ZS X (.builtin "max") (λxs H Q=>∃i j,xs=[.int i,.int j]/\Q (.int (if j>i then j else i)) H):=by
 intro pins s σ H xs us Q I r h;obtain⟨i,j,rfl,q⟩:=h;obtain⟨u,w',rfl,⟨t,rfl⟩,⟨t',rfl⟩⟩:=vals2 r;refine a0P (n:=X.m) I.tk<|max_two_ints (I.ok.hd hc) λh' tk k hn=>⟨_,H,I.kept k hn,?_,q⟩
 by_cases hj:j>i
 .rw[if_pos hj,if_pos hj];exact⟨_,rfl⟩
 .rw[if_neg hj,if_neg hj];exact⟨_,rfl⟩
def Bg(hc:X.calm=true):ZS X (.builtin "min") (λxs H Q=>∃i j,xs=[.int i,.int j]/\Q (.int (if j<i then j else i)) H):=by
 intro pins s σ H xs us Q I r h;obtain⟨i,j,rfl,q⟩:=h;obtain⟨u,w',rfl,⟨t,rfl⟩,⟨t',rfl⟩⟩:=vals2 r;refine a0P (n:=X.m) I.tk<|min_two_ints (I.ok.hd hc) λh' tk k hn=>⟨_,H,I.kept k hn,?_,q⟩
 by_cases hj:j<i
 .rw[if_pos hj,if_pos hj];exact⟨_,rfl⟩
 .rw[if_neg hj,if_neg hj];exact⟨_,rfl⟩
def zaf(K:a48)(x:V)(H:Hp)(n:Nat):Prop:=
 match x with
 |.str y=>y.length<=sizeLine/\n=y.length
 |.byt y=>y.size<=sizeLine/\n=y.size
 |.ref p=>(∃d,SqL K H p d/\n=d.length)\/∃d,SqT K H p d/\n=d.length
 |_=>False
def EH:ZS X (.builtin "len") (λd H Q=>∃x n,d=[x]/\zaf X.K x H n/\Q (.int n) H):=by
 intro v s z H d C Q I r h;obtain⟨x,n,rfl,e,q⟩:=h;obtain⟨u,rfl,j⟩:=vals1 r;have B:=mH;have A:sizeLine=16777216:=a06;cases x with
 |str y=>obtain⟨t,rfl⟩:=j;obtain⟨w,g⟩:y.length<=sizeLine/\n=y.length:=e;subst g;exact len_str (by omega) ⟨.int _,H,I.tok _,⟨_,rfl⟩,q⟩
 |byt y=>obtain⟨t,rfl⟩:=j;obtain⟨w,g⟩:y.size<=sizeLine/\n=y.size:=e;subst g;exact PySem.W.len_bytes (by omega) ⟨.int _,H,I.tok _,⟨_,rfl⟩,q⟩
 |ref p=>
  cases j;have g:(∃d,SqL X.K H p d/\n=d.length)\/∃d,SqT X.K H p d/\n=d.length:=e;rcases g with⟨d,o,g⟩|⟨d,o,g⟩
  .subst g;obtain⟨i,m,l,hz⟩:=I.list o;have f:=m.length;exact Calls.call_len_list l.isList (by simp only[List.size_toArray];omega) ⟨.int d.length,H,I.tok _,⟨_,by simp only[List.size_toArray];rw[f]⟩,q⟩
  .subst g;obtain⟨i,m,l,hz⟩:=I.tuple o;have f:=m.length;exact len_tuple l (by simp only[List.size_toArray];omega) ⟨.int d.length,H,I.tok _,⟨_,by simp only[List.size_toArray];rw[f]⟩,q⟩
 |_=>exact(show False from e).elim
end
structure IP(h:Heap)(x dx C:Addr)(mA:a37):Prop where
 obj:h.get? x=some (PySem.W.instObj C dx)
 ns:h.Ns1 dx mA
 ne:dx≠x
def bp{h:Heap}{i:Addr}{g:a37}(n:h.Ns1 i g):∃f,h.get? i=some f/\∀b,PySem.W.lookIn b f=some (g b):=by
 obtain⟨o,d,u,j,p,m,_,r⟩:=n;refine⟨o,j,λb=>?_⟩;have e:=r b;unfold nsFind findBy at e;rw[<- a3Q]at e;unfold PySem.W.lookIn;rw[p];dsimp only;split
 .rename_i y q;rw[q]at e;exact a0O some e
 .rename_i q;rw[q]at e;have a:d.toList.any (·.refKey)=false:=by rw[List.any_eq_false];intro y l;obtain⟨z,t,c⟩:=m y (a3A.mp l);simp[DictEntry.refKey,c]
  have s:¬d.toList.any (·.refKey)=true:=by rw[a];exact a0q
  rw[if_neg s];exact a0O some e
def IP.look(I:IP h x dx C mA):∃b,PySem.W.InstAt h x (PySem.W.instObj C dx) C (some b)/\∀a,PySem.W.lookIn a b=some (mA a):=
 let⟨b,ho,hl⟩:=bp I.ns
 ⟨b,⟨I.obj,rfl,rfl,ho⟩,hl⟩
section
variable {prog:a4b}{w:a4e}{A:a4i}{E:a41}{s:a42}{K:a48}{x dx C f:Addr}{mA:a37}{name:Str}{v:Value}
def get_map(X:K.In s.heap)(I:IP s.heap x dx C mA)(g:PySem.W.plainGet K C name=true)(c:PySem.W.hasDictIn K C=true)
  (e:PySem.W.findIn K (.ref C) name=some none) (b:mA name=some v) (a:PySem.W.handedIn v=true) (h:Q v { s with toks:=s.toks+1 }):
  wpAny (model prog w) A (getAttr (.ref x) name expr) Q E s:=by
 obtain⟨i,J,d⟩:=I.look;exact PySem.W.get_value X J (a2J g).1 (PySem.W.findObj_own c e rfl (by rw[d,b])) a h
def EI(X:K.In s.heap)(I:IP s.heap x dx C mA)(a:PySem.W.plainGet K C name=true)
  (hf:PySem.W.findIn K (.ref C) name=some (some (.ref f))) (c:PySem.W.isFn K (.ref f)=true) (b:mA name=none) (h:Q (.ref f,[.ref x]) s):
  wpAny (model prog w) A (getMethod (.ref x) name pl) Q E s:=by
 obtain⟨e,J,d⟩:=I.look;exact PySem.W.method_fn X J (a2J a).1 (a2J a).2 hf (a0I.mp c) (by show(PySem.W.lookIn name e).map (·.isSome)=some false;rw[d,b];rfl) h
def IQ(X:K.In s.heap)(I:IP s.heap x dx C mA)
  (B:PySem.W.findIn K (.ref C) "__setattr__"=some (some (.builtin "object.__setattr__"))) (hp:PySem.W.plainOver K C=true) (z:PySem.W.takerIn K C name=some none) (m:PySem.W.hasDictIn K C=true)
  (u:PySem.Within mA ns) (hsz:ns.length<=sizeLine)
  (h:∀e,IP e x dx C (λy=>if y=name then some v else mA y)->Heap.SameBut dx s.heap e->Q () { s with heap:=e,toks:=s.toks+2 }):
  wpAny (model prog w) A (setAttr (.ref x) name v) Q E s:=by
 obtain⟨D,J,F⟩:=I.look;refine PySem.W.set_plain X J B (PySem.W.osa_open (s:={ s with toks:=s.toks+1 }) (r:=none) X J hp z λb=>?_);obtain⟨cd,n,l⟩:=PySem.W.any_some m;have p:s.heap.get? x=some ⟨.ref C,some dx,.plain,#[]⟩:=I.obj;refine f8 (a0h (f8 (f8 (a2k p (f8 (PySem.W.Looks.here (s:={ s with toks:=s.toks+1 }) (PySem.W.looks_clsIn X n) ?_))))));rw[l];refine a0h (a:=some dx) (f8 (a0h (f8 ?_)));refine a3R (s:={ s with toks:=s.toks+1 }) I.ns λe d c=>?_;obtain⟨G,o,q,j,g,i⟩:=d.count (a2X name v u);refine f8 (a23 j (by rw[g];exact a24 (a0y i (by rw[a0b];omega))) ?_);exact a0h (h _ ⟨(c.2 _ (Ne.symm I.ne)).trans I.obj,d,I.ne⟩ c)
def EJ(X:K.In s.heap)(c:PySem.W.makesIn K C=true)
  (b:PySem.W.findIn K (.ref C) "__init__"=some (some (.ref f))) (hf:PySem.W.typeIn K (.ref f)=some (.type "function"))
  (h:codeAny (model prog w) (A.under (.builtin "type.__call__" ⟨.ref C::vs,kw⟩)) (.call (.ref f) ⟨.ref (s.heap.objs.size+1)::vs,kw⟩) (PySem.W.InitBack (s.heap.objs.size+1) R)
   { s with heap:=(s.heap.push PySem.W.emptyDict).push (PySem.W.instObj C s.heap.objs.size) }):
  codeAny (model prog w) A (.call (.ref C) ⟨vs,kw⟩) R s:=by
 obtain⟨e,g,d,t,i⟩:=s;exact PySem.W.make_core (PySem.W.makes_of X c) (PySem.W.looks_findIn X b) (λa=>PySem.W.bind_fn X a hf) (.inl rfl) h
end
def WB(f:Str)(v:V):List (Str×V)->List (Str×V)
 |[]=>[(f,v)]
 | (g,x)::r=>if g=f then(g,v)::r else(g,x)::WB f v r
theorem VX(f g:Str)(v:V):∀fs:List (Str×V),(WB f v fs).lookup g=if g=f then some v else fs.lookup g
 |[]=>by
  show List.lookup g [(f,v)]=_;by_cases h:g=f
  .have a:(g==f)=true:=a0I.mpr h;simp only[List.lookup,a,if_pos h]
  .have a:(g==f)=false:=a0Z.mpr h;simp only[List.lookup,a,if_neg h]
 | (k,x)::r=>by
  have c:=VX f g v r;rw[show WB f v ((k,x)::r)=(if k=f then(k,v)::r else(k,x)::WB f v r)from rfl];by_cases b:k=f
  .rw[if_pos b];by_cases h:g=k
   .have a:(g==k)=true:=a0I.mpr h;simp only[List.lookup,a,if_pos (h.trans b)]
   .have a:(g==k)=false:=a0Z.mpr h;simp only[List.lookup,a,if_neg (λe:g=f=>h (e.trans b.symm))]
  .rw[if_neg b];by_cases h:g=k
   .have a:(g==k)=true:=a0I.mpr h;simp only[List.lookup,a,if_neg (λe:g=f=>b (h.symm.trans e))]
   .have a:(g==k)=false:=a0Z.mpr h;simp only[List.lookup,a];exact c
theorem QV(f:Str)(v:V):∀fs:List (Str×V),f∈(WB f v fs).map (·.1)/\∀g,g∈fs.map (·.1)->g∈(WB f v fs).map (·.1)
 |[]=>⟨by simp[WB],λg h=>by simp at h⟩
 | (k,x)::r=>by
  obtain⟨c,b⟩:=QV f v r;rw[show WB f v ((k,x)::r)=(if k=f then(k,v)::r else(k,x)::WB f v r)from rfl];by_cases a:k=f
  .rw[if_pos a];subst a;exact⟨by simp,λg h=>by simpa using h⟩
  .rw[if_neg a];refine⟨?_,λg h=>?_⟩
   .rw[a0j];exact a0a _ c
   .rw[a0j]at h ⊢;rcases a0r.mp h with e|e
    .exact a0r.mpr (.inl e)
    .exact a0a _ (b g e)
theorem VY(f:Str)(v:V):∀fs:List (Str×V),(WB f v fs).length<=fs.length+1
 |[]=>by simp[WB]
 | (k,x)::r=>by
  have b:=VY f v r;rw[show WB f v ((k,x)::r)=(if k=f then(k,v)::r else(k,x)::WB f v r)from rfl];by_cases a:k=f
  .rw[if_pos a,a0b,a0b];omega
  .rw[if_neg a,a0b,a0b];omega
def aU.some_of(r:aU (some v) o):∃u,o=some u/\RelV v u:=by
 cases o with
 |none=>exact(show False from r).elim
 |some u=>exact⟨u,rfl,r⟩
def aU.none_of(r:aU none o):o=none:=by
 cases o with
 |none=>rfl
 |some u=>exact(show False from r).elim
def Bh(r:RelV v u):PySem.W.handedIn u=true:=by
 cases v with
 |non=>cases(show u=Value.none from r);rfl
 |bl b=>cases(show u=Value.bool b from r);rfl
 |int i=>obtain⟨t,e⟩:=(show ∃t,u=Value.int i t from r);cases e;rfl
 |str x=>obtain⟨t,e⟩:=(show ∃t,u=Value.str x t from r);cases e;rfl
 |byt b=>obtain⟨t,e⟩:=(show ∃t,u=Value.bytes b t from r);cases e;rfl
 |flt b=>obtain⟨t,e⟩:=(show ∃t,u=Value.float b t from r);cases e;rfl
 |ref a=>cases(show u=Value.ref a from r);rfl
 |ty n=>cases(show u=Value.type n from r);rfl
def g8(c:HOk P w H h)(e:H a=some (.ins C dx fs)):∃b,IP h a dx C b/\(∀f,aU (fs.lookup f) (b f))/\PySem.Within b (fs.map (·.1))/\fs.length<=1000/\H dx=some (.own a):=by obtain⟨d,z,g,ob,b,n,r,q⟩:=(show qB P w H h a (.ins C dx fs)from c a _ e);exact⟨b,⟨ob,n,g⟩,r,q,z,d⟩
structure Cls(K:a48)(C:Addr):Prop where
 pg:PySem.W.plainGet K C Str.empty=true
 hd:PySem.W.hasDictIn K C=true
 po:PySem.W.plainOver K C=true
 sa:PySem.W.findIn K (.ref C) "__setattr__"=some (some (.builtin "object.__setattr__"))
def Cls.get{K:a48}{C:Addr}(c:Cls K C)(f:Str):PySem.W.plainGet K C f=true:=c.pg
def qC(K:a48)(C:Addr)(f:Str):Prop:=PySem.W.findIn K (.ref C) f=some none
def qC.Su{K:a48}{C:Addr}{f:Str}(n:qC K C f):PySem.W.takerIn K C f=some none:=by unfold PySem.W.takerIn;rw[show PySem.W.findIn K (.ref C) f=some none from n];rfl
structure Meth(K:a48)(C:Addr)(m:Str)(f:Addr):Prop where
 at_:PySem.W.findIn K (.ref C) m=some (some (.ref f))
 fn:PySem.W.isFn K (.ref f)=true
 kp:PySem.W.keepIn K (.ref f)=true
def xN(I:Inv X pins σ H s)(e:H a=some (.ins C dx fs))(c:Cls X.K C)(n:qC X.K C f)(l:fs.lookup f=some v)
  (h:∀u g,Inv X pins σ H g->RelV v u->Q u g):wpAny (a4R X) A (getAttr (.ref a) f b) Q E s:=by
 obtain⟨i,O,r,_,_,_⟩:=g8 I.hok e;obtain⟨u,j,d⟩:=aU.some_of (v:=v) (o:=i f) (by rw[<- l];exact r f);exact get_map I.kIn O (c.get f) c.hd n j (Bh d) (h u _ (I.tok _) d)
def fJ(I:Inv X pins σ H s)(e:H a=some (.ins C dx fs))(c:Cls X.K C)(k:Meth X.K C m g)(l:fs.lookup m=none)
  (h:Q (.ref g,[.ref a]) s):wpAny (a4R X) A (getMethod (.ref a) m pl) Q E s:=by
 obtain⟨b,O,r,_,_,_⟩:=g8 I.hok e;have d:b m=none:=aU.none_of (by rw[<- l];exact r m);exact EI I.kIn O (c.get m) k.at_ k.fn d h
def xO(I:Inv X pins σ H s)(e:H a=some (.ins C dx fs))(c:Cls X.K C)(n:qC X.K C f)(G:fs.length<1000)(w:RelV y u)
  (h:∀m,Inv X pins σ (upd H a (.ins C dx (WB f y fs))) m->Q () m):wpAny (a4R X) A (setAttr (.ref a) f u) Q E s:=by
 obtain⟨j,O,r,l,_,i⟩:=g8 I.hok e;have hz:(fs.map (·.1)).length<=sizeLine:=by rw[v4,a06];omega
 refine IQ I.kIn O c.sa c.po n.Su c.hd l hz λv d p=>h _ ?_;have F:∃o,v.get? dx=some o:=let⟨o,_,_,e',_⟩:=d.ns;⟨o,e'⟩
 refine I.write (x:=a) (e:=dx) (by rw[e];exact True.intro) (.inr i) (λb q D z=>(p.2 b D).trans z) F ?_;refine⟨by rw[zm O.ne];exact i,?_,O.ne,d.obj,_,d.ns,λg=>?_,λg B=>?_⟩
 .have:=VY f y fs;omega
 .show aU ((WB f y fs).lookup g) (if g=f then some u else j g);rw[VX];by_cases q:g=f
  .rw[if_pos q,if_pos q];exact w
  .rw[if_neg q,if_neg q];exact r g
 .by_cases q:g=f
  .rw[q];exact(QV f y fs).1
  .refine(QV f y fs).2 g (l g λz=>B ?_);show(if g=f then some u else j g)=none;rw[if_neg q];exact z
def Inv.made(I:Inv X pins σ H s):Inv X pins σ (upd (upd H s.heap.objs.size (.own (s.heap.objs.size+1))) (s.heap.objs.size+1) (.ins C s.heap.objs.size []))
  { s with heap:=(s.heap.push PySem.W.emptyDict).push (PySem.W.instObj C s.heap.objs.size) }:=by
 have c:(s.heap.push PySem.W.emptyDict).get? s.heap.objs.size=some PySem.W.emptyDict:=a0x s.heap rfl;have i:((s.heap.push PySem.W.emptyDict).push (PySem.W.instObj C s.heap.objs.size)).get? (s.heap.objs.size+1)=some (PySem.W.instObj C s.heap.objs.size):=by
  have:=a0x (s.heap.push PySem.W.emptyDict) (o:=PySem.W.instObj C s.heap.objs.size) rfl
  rwa [a1v]at this
 have g:(s.heap.push PySem.W.emptyDict).Ns s.heap.objs.size (λ_=>none):=⟨PySem.W.emptyDict,#[],_,c,rfl,(λe f=>absurd f (by simp)),λ_=>rfl⟩;have h:=I.laid (a:=s.heap.objs.size) (o:=.own (s.heap.objs.size+1)) (h':=s.heap.push PySem.W.emptyDict) (t':=s.toks) (λb u q=>a0d _ q) (a0e _) ⟨_,c⟩;refine h.laid (a:=s.heap.objs.size+1) (o:=.ins C s.heap.objs.size []) (t':=s.toks) (λb u q=>a0d _ q) (a2A (a1v _ _)) ?_;have d:s.heap.objs.size≠s.heap.objs.size+1:=a0t (a1w _);refine⟨by rw[zm d,zl],a0Y _,d,i,λ_=>none,(Heap.Ns1.of_empty g).at λo q=>a0d _ q,λ_=>True.intro,λy j=>absurd rfl j⟩
def IS(b:attributeBase e f env (eval e env)=eval e env)
  (h:wpAny (model prog w) A (eval e env) (λo a=>wpAny (model prog w) A (getAttr o f true) Q E a) E s):wpAny (model prog w) A (eval (.Attribute e f pos) env) Q E s:=
 Attribute_any_ h (by rw[arm_eval_Attribute,b])
def zaW(K:a48)(d:TE)(f:Str):TE:=λe H Q=>d e H λx b=>∃a C c fs v,x=.ref a/\b a=some (.ins C c fs)/\Cls K C/\qC K C f/\fs.lookup f=some v/\Q v b
def zaX(K:a48)(e h:TE)(f:Str):TS:=λD b H=>h b H λy g=>e b g λx d=>∃a C c fs,x=.ref a/\d a=some (.ins C c fs)/\Cls K C/\qC K C f/\fs.length<1000/\
 D.nx b (upd d a (.ins C c (WB f y fs)))
def GZ(he:PE X e ta)(o:attributeBase e f X.env (eval e X.env)=eval e X.env):PE X (.Attribute e f pos) (zaW X.K ta f):=by intro b s g H Q I h;refine IS o (thn (he b s g H _ I h) λu y ⟨x,p,w,d,a,C,A,fs,v,m,j,c,n,l,q⟩=>?_);subst m;obtain rfl:u=Value.ref a:=d;exact xN w j c n l λB z r i=>⟨v,p,r,i,q⟩
def G0(r:PE X o ta)(w:PE X value tv)(A:swapsWith value (some (.Attribute o f pos')) pos.line X.env=pure false):PS X (.Assign [.Attribute o f pos'] value pos) (zaX X.K ta tv f):=by intro b s d H D I h;refine a2x (thn (w b s d H _ I h) λu i ⟨y,B,F,m,q⟩=>thn (r b i d B _ F q) λz G ⟨x,L,E,j,a,C,K,fs,v,p,c,n,l,e⟩=>?_) A;subst v;obtain rfl:z=Value.ref a:=j;exact xO E p c n l m λJ g=>⟨d,_,g,e⟩
section
variable {H:Hp}
inductive AQ(K:a48)(H:Hp):V->Value->Prop where
 |non:AQ K H .non (.type "NoneType")
 |bl (x:Bool):AQ K H (.bl x) (.type "bool")
 |int (i:Int):AQ K H (.int i) (.type "int")
 |str (x:Str):AQ K H (.str x) (.type "str")
 |flt (x:UInt64):AQ K H (.flt x) (.type "float")
 |lst {a:Addr}{xs:a4a}(e:H a=some (.lst xs)):AQ K H (.ref a) (.type "list")
 |frz {a:Addr}{o:Obj}{xs:a4a}(e:H a=some (.frz o (.lst xs))):AQ K H (.ref a) (.type "list")
 |tup {a:Addr}{xs:a4a}(e:H a=some (.tup xs)):AQ K H (.ref a) (.type "tuple")
 |dK {a:Addr}{kvs:a4d}(e:H a=some (.dK kvs)):AQ K H (.ref a) (.type "dict")
 |dT {a:Addr}{kvs:a4G}(e:H a=some (.dT kvs)):AQ K H (.ref a) (.type "dict")
 |ins {a C dx:Addr}{fs:a4o}(e:H a=some (.ins C dx fs)) (cl:Cls K C) (ha:PySem.W.findIn K (.ref C) "__class__"=some (some (.builtin "object.__class__")))
   (hn:PySem.W.specialIn K (.builtin "object.__class__") "__get__"=some (some (.builtin "getset_descriptor.__get__"))) (htk:PySem.W.takesIn K (.builtin "object.__class__")=some true)
   (hm:PySem.W.mroIn K C (.type "object")=some true):AQ K H (.ref a) (.ref C)
end
structure v8(k:Nat)(A:a4i):Prop where
 hd:A.handled=none
 dp:A.depth+3*k+5<recursionLimit
 un:A.units+16*k+200<cLine
def v8.mono(r:v8 k A)(h:j<=k):v8 j A:=⟨r.hd,by have:=r.dp;omega,by have:=r.un;omega⟩
def v8.deeper(r:v8 (k+1) A)(env:Env):v8 k (A.deeper env):=
 ⟨r.hd,by have:=r.dp;show A.depth+1+3*k+5<_;omega,by have:=r.un;show A.units+3+16*k+200<_;omega⟩
def v8.in1(r:v8 (k+1) A):v8 k A.in1:=
 ⟨r.hd,by have:=r.dp;show A.depth+3*k+5<_;omega,by have:=r.un;show A.units+1+16*k+200<_;omega⟩
def xP{A:a4i}{C:Addr}{us:a46}{a:a4A}:(A.under (.builtin "type.__call__" ⟨.ref C::us,a⟩)).depth=A.depth+1:=by
 first|rfl|simp[Around.under,Code.weight,Code.isCreation,Code.isGuard,Code.isCaller,Code.frames,Code.isFrame,guardIds]
def xQ{A:a4i}{C:Addr}{us:a46}{a:a4A}:(A.under (.builtin "type.__call__" ⟨.ref C::us,a⟩)).units=A.units+1:=by
 first|rfl|simp[Around.under,Code.cUnits,Code.frames,Code.isFrame]
def v8.make(r:v8 (k+1) A)(C:Addr)(us:a46)(a:a4A):v8 k (A.under (.builtin "type.__call__" ⟨.ref C::us,a⟩)):=
 ⟨r.hd,by have:=r.dp;rw[xP];omega,by have:=r.un;rw[xQ];omega⟩
def v8.depth(r:v8 k A):A.depth<recursionLimit:=by have:=r.dp;omega
def v8.units(r:v8 k A):A.units+64<cLine:=by have:=r.un;omega
def Sv:TA:=λ_ H Q=>Q [] H
def NW(b:TE)(d:TA):TA:=λa H Q=>b a H λx e=>d a e λf c=>Q (x::f) c
section
variable {X:Cx}{e:a45}{es:a44}{te:TE}{t:TA}{pos:Pos}
def fK:PA X [] Sv:=λ_ _ _ _ H Q I h=>a2Y ⟨[],H,I,.nil,h⟩
def QW(g:PE X e te)(q:PA X es t)(j:starEach (e::es) X.env=(false,eval e X.env)::starEach es X.env:=by rfl):PA X (e::es) (NW te t):=by intro pos a s b H Q I h;rw[j];show wpAny _ _ (spliced ((false,eval e X.env)::backTo pos (starEach es X.env))) _ _ s;refine a2e (thn (g a s b H _ I h) λu d ⟨x,l,r,i,o⟩=>?_);exact thn (q pos a d b l _ r o) λw v ⟨p,n,m,f,c⟩=>⟨x::p,n,m,.cons i f,c⟩
def zag(t:TA):TE:=λc H Q=>t c H λb a=>b.length<=sizeLine/\∀p,a p=none->Q (.ref p) (upd a p (.tup b))
def zaY(t:TA):TE:=λc H Q=>t c H λb a=>b.length<=sizeLine/\∀p,a p=none->Q (.ref p) (upd a p (.lst b))
def fL{x1}(h:PA X es t):PE X (.Tuple es x1 pos) (zag t):=by intro a s j H Q I l;refine wpAny_Tuple_spliced (thn (h pos a s j H _ I l) λg c ⟨i,d,f,r,z,q⟩=>⟨by rw[<- r.length];exact z,?_⟩);have hf:d c.heap.objs.size=none:=f.hok.fresh (a0e _);refine⟨.ref c.heap.objs.size,upd d c.heap.objs.size (.tup i),f.laid (t':=c.toks) (λb u e=>a0d _ e) (a0e _) ?_,rfl,q _ hf⟩;exact⟨z,g,r,⟨_,a0x _ rfl,rfl,_,rfl⟩⟩
def NX(h:PA X es t):PE X (.List es pos) (zaY t):=by intro a s j H Q I l;refine wpAny_List_spliced (thn (h pos a s j H _ I l) λg c ⟨i,d,f,r,z,q⟩=>⟨by rw[<- r.length];exact z,?_⟩);have hf:d c.heap.objs.size=none:=f.hok.fresh (a0e _);refine⟨.ref c.heap.objs.size,upd d c.heap.objs.size (.lst i),f.laid (t':=c.toks) (λb u e=>a0d _ e) (a0e _) ?_,rfl,q _ hf⟩;exact⟨z,g,0,r,a0x _ rfl⟩
end
abbrev Sp:=List V->Hp->VK->XK->Prop
abbrev CXT:=List Env->Hp->Shared->XK->Value->Shared->Prop
structure Er(P:a4b)(w:a4e)(K:a48)(mg:a37)(base:Heap)(A:a4i)(outer:List Env)(s:a42)(H:Hp):Prop where
 frames:A.frames=some outer
 mod:Mod K mg base
 bs:∀b o,base.get? b=some o->s.heap.get? b=some o/\H b=none
 bsz:base.objs.size<=s.heap.objs.size
 tO:s.heap.FunFrames base outer
 frf:∀b∈frs outer,H b=none
 hok:HOk P w H s.heap
 bare:AllBare s.gens
def CE(a:List Env)(P:a4b)(w:a4e)(H:Hp)(s:a42)(Q:VK)(u:Value)(b:a42):Prop:=
 ∃v c,b.os=s.os/\AllBare b.gens/\Un (frs a) [] H c s.heap b.heap/\HOk P w c b.heap/\RelV v u/\Q v c
def CR(CX:CXT)(a:List Env)(P:a4b)(w:a4e)(H:Hp)(s:a42)(Q:VK)(E:XK)(r:Result)(b:a42):Prop:=
 match r with
 |.ok (.ret u)=>CE a P w H s Q u b
 |.ok _=>False
 |.error e=>CX a H s E e b
structure yF(P:a4b)(w:a4e)(K:a48)(mg:a37)(base:Heap)(CX:CXT)(k:Nat)(f:Addr)(fd:a4j)(ps:a40)(sp:Sp):Prop where
 len:∀vs H Q E,sp vs H Q E->vs.length=ps.length
 run:∀(A:a4i)(outer:List Env)(s:a42)(H:Hp)(args:Args)(us:a46)(vs:a4a) (Q:VK) (E:XK),v8 k A->Er P w K mg base A outer s H->BindsTo s fd args (ps.zip us)->Vals vs us->sp vs H Q E->
  codeAny (model P w) A (.call (.ref f) args) (CR CX outer P w H s Q E) s
def yF.imp{P:a4b}{w:a4e}{K:a48}{g:a37}{a:Heap}{CX:CXT}{k:Nat}{f:Addr}{e:a4j}{i:a40}{sp d:Sp}(F:yF P w K g a CX k f e i sp)
  (h:∀c H Q E,d c H Q E->sp c H Q E):yF P w K g a CX k f e i d:=
 ⟨λc H Q E q=>F.len c H Q E (h _ _ _ _ q),λA b s H args p c Q E o j m l n=>F.run A b s H args p c Q E o j m l (h _ _ _ _ n)⟩
def Er.make{P:a4b}{w:a4e}{K:a48}{c:a37}{b:Heap}{A:a4i}{a:List Env}{s:a42}{H:Hp}(e:Er P w K c b A a s H)(C:Addr)(us:a46)(d:a4A):
  Er P w K c b (A.under (.builtin "type.__call__" ⟨.ref C::us,d⟩)) a s H:=⟨by first|exact e.frames|(simpa[Around.under,Code.envs,Code.isFrame,pushEnvs]using e.frames),e.mod,e.bs,e.bsz,e.tO,e.frf,e.hok,e.bare⟩
def Inv.Bi(I:Inv X pins σ H s):Er X.prog X.w X.K X.mg X.base X.A X.stack s H:=
 ⟨I.ok.frames,I.ok.mod,I.bs,a0y I.ok.bsz I.sz,I.stack,I.gS,I.hok,I.bare⟩
def Inv.after(I:Inv X pins σ H s)(h:CE X.stack X.prog X.w H s Q u s')(l:X.m<=s'.toks:=by ac_rfl):EP X pins σ Q u s':=by obtain⟨v,f,j,a,un,e,r,q⟩:=h;obtain⟨i,g,d,t,c⟩:=s';obtain rfl:c=s.os:=j;exact⟨v,f,I.call (h':=i) (g':=g) (d':=d) (t':=t) (ch:=[]) un e a (λb z=>absurd z (by simp)),r,q⟩
def Sw(sp:Sp)(dvs:a4a)(E:XK)(t:TA):TE:=λc H Q=>t c H λb a=>sp (b++dvs) a Q E
def Sx(C:Addr)(sp:Sp)(dvs:a4a)(E:XK)(t:TA):TE:=λe H Q=>t e H λd b=>∀x a,b x=none->b a=none->a≠x->
 sp (.ref x::(d++dvs)) (upd (upd b a (.own x)) x (.ins C a [])) (λv c=>v=.non/\Q (.ref x) c) E
def Binds(K:a48)(d:a4j)(c:a40)(b:a46):Prop:=
 ∀(s:a42)(a:a46),K.In s.heap->(a++b).length=c.length->BindsTo s d ⟨a,[]⟩ (c.zip (a++b))
def Binds.all{K:a48}{c:a4j}{b:a40}(h:∀a:List Value,a.length=b.length->bindArgs c ⟨a,[]⟩=pure (b.zip a)):Binds K c b []:=λs a _ d=>by rw[a0s]at d ⊢;exact .of_eq (h a d)
def Passes(CX:CXT)(X:Cx)(E:XK):Prop:=∀(a:a38)(c:St)(H:Hp)(s:a42)(e:Value)(b:a42),Inv X a c H s->CX X.stack H s E e b->X.m<=b.toks->X.xe e b
section
variable {X:Cx}{CX:CXT}{k:Nat}{f C:Addr}{fd:a4j}{ps:a40}{sp:Sp}{dvs:a4a}{ds:a46}{E:XK}{x:Str}{p pos:Pos}{e:a45}{es:a44}{t:TA}
def Bj(F:yF X.prog X.w X.K X.mg X.base CX k f fd ps sp)(hr:v8 k X.A)(hb:Binds X.K fd ps ds)(hd:Vals dvs ds)(hx:Passes CX X E)
  (I:Inv X pins σ H s) (r:Vals vs us) (h:sp (vs++dvs) H Q E):wpAny (a4R X) X.A (call (.ref f) us) (EP X pins σ Q) X.xe s:=by
 have r2:Vals (vs++dvs) (us++ds):=r.append hd;have hl:(us++ds).length=ps.length:=by rw[<- r2.length];exact F.len _ _ _ _ h
 refine a1N (a2Z (n:=X.m) I.tk<|a1V (F.run X.A X.stack s H ⟨us,[]⟩ (us++ds) (vs++dvs) Q E hr I.Bi (hb s us I.kIn hl) r2 h) λr s' hq hn=>?_);cases r with
 |error e=>exact hx pins σ H s e s' I hq hn
 |ok fl=>
  cases fl with
  |ret u=>exact I.after hq
  |next=>exact False.elim hq
  |brk=>exact False.elim hq
  |cont=>exact False.elim hq
def Bk(F:yF X.prog X.w X.K X.mg X.base CX k f fd ps sp)(w:v8 k X.A)(i:Gl X x)(v:X.mg x=some (.ref f))(n:PySem.W.keepIn X.K (.ref f)=true)(l:Binds X.K fd ps ds)(u:Vals dvs ds)(j:Passes CX X E)
  (g:PA X (e::es) t) (b:(x==("__debug__":Str))=false:=by decide) (he:starEach (e::es) X.env=(false,eval e X.env)::starEach es X.env:=by rfl) (hpl:(backTo pos (starEach es X.env)).any (·.1)=false:=by rfl):
  PE X (.Call (.Name x p) (e::es) [] pos) (Sw sp dvs E t):=by
 intro a s d H Q I h;refine a1q (bo I i v ?_ b);refine a2f (h₀:=X.base) I.ok.mod.kin n (thn (g pos a s d H _ I h) λB y ⟨A,z,c,r,q⟩=>⟨c.kIn,?_⟩) he hpl;exact Bj F w l u j c r q
structure Mk(K:a48)(C f:Addr):Prop where
 makes:PySem.W.makesIn K C=true
 init:PySem.W.findIn K (.ref C) "__init__"=some (some (.ref f))
 fn:PySem.W.isFn K (.ref f)=true
 kp:PySem.W.keepIn K (.ref C)=true
def EK(M:Mk X.K C f)(F:yF X.prog X.w X.K X.mg X.base CX k f fd ps sp)(J:v8 (k+1) X.A)(z:Binds X.K fd ps ds)(B:Vals dvs ds)
  (q:Passes CX X E) (I:Inv X pins σ H s) (r:Vals vs us)
  (h:∀x c,H x=none->H c=none->c≠x->sp (.ref x::(vs++dvs)) (upd (upd H c (.own x)) x (.ins C c [])) (λv G=>v=.non/\Q (.ref x) G) E):
  wpAny (a4R X) X.A (call (.ref C) us) (EP X pins σ Q) X.xe s:=by
 have g:=h (s.heap.objs.size+1) s.heap.objs.size (I.hok.fresh (a1m _)) (I.hok.fresh (a0e _)) (a0t (a1w _));have b:=Inv.made (C:=C) I;have j:Vals (V.ref (s.heap.objs.size+1)::(vs++dvs)) (Value.ref (s.heap.objs.size+1)::(us++ds)):=.cons rfl (r.append B);have A:(Value.ref (s.heap.objs.size+1)::us++ds).length=ps.length:=by have e:=j.length;rw[F.len _ _ _ _ g]at e;exact e.symm
 refine a1N (a2Z (n:=X.m) I.tk<|EJ (f:=f) I.kIn M.makes M.init (a0I.mp M.fn) (a1V (F.run _ X.stack _ _ ⟨Value.ref (s.heap.objs.size+1)::us,[]⟩ (Value.ref (s.heap.objs.size+1)::(us++ds)) _ _ E (J.make C us [])
  (b.Bi.make C us []) (z _ (Value.ref (s.heap.objs.size+1)::us) b.kIn A) j g) λr K a=>?_))
 cases r with
 |error e=>exact λd=>q pins σ _ _ e K b a d
 |ok w=>
  cases w with
  |ret u=>obtain⟨v,i,_,_,_,_,D,ev,_⟩:=id a;subst ev;refine⟨D,λd=>?_⟩;obtain⟨v,i,l,_,_,y⟩:=b.after a d;exact⟨V.ref (s.heap.objs.size+1),i,l,rfl,y⟩
  |next=>exact False.elim a
  |brk=>exact False.elim a
  |cont=>exact False.elim a
def Bl(M:Mk X.K C f)(F:yF X.prog X.w X.K X.mg X.base CX k f fd ps sp)(v:v8 (k+1) X.A)(i:Gl X x)(u:X.mg x=some (.ref C))(l:Binds X.K fd ps ds)(n:Vals dvs ds)(j:Passes CX X E)
  (g:PA X (e::es) t) (b:(x==("__debug__":Str))=false:=by decide) (he:starEach (e::es) X.env=(false,eval e X.env)::starEach es X.env:=by rfl) (hpl:(backTo pos (starEach es X.env)).any (·.1)=false:=by rfl):
  PE X (.Call (.Name x p) (e::es) [] pos) (Sx C sp dvs E t):=by
 intro a s d H Q I h;refine a1q (bo I i u ?_ b);refine a2f (h₀:=X.base) I.ok.mod.kin M.kp (thn (g pos a s d H _ I h) λA w ⟨z,y,c,r,q⟩=>⟨c.kIn,?_⟩) he hpl;exact EK M F v l n j c r q
end
def PK(X:Cx)(b:List Keyword)(t:TA):Prop:=
 ∀(c:Pos)(a:a38)(s:a42)(d:St)(H:Hp)(Q:List V->Hp->Prop),Inv X a d H s->t d H Q->wpAny (a4R X) X.A (evalAll ((backToKw c (keywordEach b X.env)).map (·.2))) (AP X a d Q) X.xe s
section
variable {X:Cx}{x:Str}{pos kpos:Pos}{e:a45}{kws:List Keyword}{te:TE}{t:TA}{nm:Option Str}
def NY:PK X [] Sv:=λ_ _ _ _ H Q I h=>wpAny_evalAll_nil ⟨[],H,I,.nil,h⟩
def IT(i:PE X e te)(y:PK X kws t):PK X (⟨nm,e,kpos⟩::kws) (NW te t):=by intro pos a s b H Q I h;show wpAny _ _ (evalAll ((do let v<-eval e X.env;standAt pos;pure v)::(backToKw pos (keywordEach kws X.env)).map (·.2))) _ _ s;refine wpAny_evalAll_cons (f8 (thn (i a s b H _ I h) λu d ⟨x,l,z,j,r⟩=>f8 (a14 (a0h ?_))));exact thn (y pos a d b l _ z r) λB A ⟨w,q,n,g,c⟩=>⟨x::w,q,n,.cons j g,c⟩
end
structure zo(N P:a40)(sc:Scope):Prop where
 kind:sc.kind=.function
 co:sc.isCoroutine=false
 gen:sc.isGenerator=false
 nd:N.Nodup
 pre:N.take P.length=P
 par:∀x∈P,sc.names.lookup x=some .local\/sc.names.lookup x=some .cell
 RE:∀y∈sc.names,y.2≠.free
theorem mI{a:a4E}{x:Str}:∀{binds:a4A}{m:a37},(∀v,(x,v)∉binds)->bindL a binds m x=m x
 |[],_,_=>rfl
 | (n,v)::r,m,h=>by
  unfold bindL;rw[mI λw b=>h w (a0a _ b)];split
  .have:x≠n:=by rintro rfl;exact h v u8
   simp[this]
  .rfl
theorem mJ{a:a4E}{x:Str}:∀{binds:a4A}{m:a37},(∀v,(x,v)∉binds)->bindC a binds m x=m x
 |[],_,_=>rfl
 | (n,v)::r,m,h=>by
  unfold bindC;rw[mJ λw b=>h w (a0a _ b)];split
  .rfl
  .have:x≠n:=by rintro rfl;exact h v u8
   simp[this]
theorem mK{a:a4E}{x:Str}{v:Value}:∀{P:a40}{b:a46}{i:Nat}{m:a37},P.Nodup->P[i]?=some x->b[i]?=some v->a x=some .local->
  bindL a (P.zip b) m x=some v
 |[],_,_,_,_,h,_,_=>by simp at h
 |_::_,[],_,_,_,_,h,_=>by simp at h
 |p::P,w::b,0,m,e,d,c,f=>by simp at d c;subst d;subst c;show bindL a ((p,w)::P.zip b) m p=_;unfold bindL;rw[mI λv g=>(a1f.mp e).1 (a3k g).1,if_pos f];simp
 |p::P,w::b,i+1,m,e,d,c,f=>by show bindL a ((p,w)::P.zip b) m x=_;unfold bindL;exact mK (i:=i) (a1f.mp e).2 (by simpa using d) (by simpa using c) f
theorem mL{a:a4E}{x:Str}{v:Value}:∀{P:a40}{b:a46}{i:Nat}{m:a37},P.Nodup->P[i]?=some x->b[i]?=some v->a x≠some .local->
  bindC a (P.zip b) m x=some v
 |[],_,_,_,_,h,_,_=>by simp at h
 |_::_,[],_,_,_,_,h,_=>by simp at h
 |p::P,w::b,0,m,e,d,c,f=>by simp at d c;subst d;subst c;show bindC a ((p,w)::P.zip b) m p=_;unfold bindC;rw[mJ λv g=>(a1f.mp e).1 (a3k g).1,if_neg f];simp
 |p::P,w::b,i+1,m,e,d,c,f=>by show bindC a ((p,w)::P.zip b) m x=_;unfold bindC;exact mL (i:=i) (a1f.mp e).2 (by simpa using d) (by simpa using c) f
def start(N:a40)(vs:a4a):St:=vs.map some++List.replicate (N.length-vs.length) none
def xR(CX:CXT)(P:a4b)(w:a4e)(K:a48)(h:a37)(d:Heap)(N:a40)(c:Str)(a:Scope)(f:Addr)(cd:Value)(A:a4i)(b:List Env)(s:a42)(H:Hp)(E:XK):Cx where
 prog:=P
 w:=w
 K:=K
 mg:=h
 base:=d
 A:=A.deeper (envOfC c a s.heap.objs.size f cd)
 N:=N
 s₀:=s
 H₀:=H
 env:=envOfC c a s.heap.objs.size f cd
 outer:=b
 stack:=envOfC c a s.heap.objs.size f cd::b
 ex:=[]
 calm:=true
 fn:=λ_=>true
 pn:=[]
 xe:=λe i=>wpAny (model P w) (A.deeper (envOfC c a s.heap.objs.size f cd)) (leaving (envOfC c a s.heap.objs.size f cd) e) (λ_ g=>CX b H s E e g) (λj g=>CX b H s E j g) i
def tT{a:Scope}{n:Nat}{x:Str}(h:a.names.lookup x=some .cell):∃c,(cellsFrom n a.names []).lookup x=some c:=by have q:=a3o a.names n [] (.inl h);exact a0U.mp q
def Bm{CX:CXT}{P:a4b}{w:a4e}{K:a48}{J:a37}{m:Heap}{N D:a40}{j:Str}{d:Scope}{f:Addr}{cd:Value}{A:a4i}{g:List Env}{s L:a42}{H:Hp}{E:XK}{us:a46}{vs:a4a}
  (S:zo N D d) (T:A.handled=none) (o:Er P w K J m A g s H) (Y:vs.length=D.length) (r:Vals vs us)
  (x:InCallC s s.heap.objs.size (bindL (envOfC j d s.heap.objs.size f cd).kindOf (D.zip us) λ_=>none) (cellsFrom (s.heap.objs.size+1) d.names []) (bindC (envOfC j d s.heap.objs.size f cd).kindOf (D.zip us) λ_=>none) L):
  Inv (xR CX P w K J m N j d f cd A g s H E) [] (start N vs) H L:=by
 have Q:D.length<=N.length:=by have:=a0O List.length S.pre;rw[a00]at this;omega
 obtain⟨G,W,rfl,O⟩:=x.done;have B:∀b:Addr,b∉(xR CX P w K J m N j d f cd A g s H E).ex:=λb z=>absurd (show b∈([]:List Addr)from z) (by simp);refine⟨⟨o.mod,S.kind,rfl,rfl,a0e _,λy z c G l=>?_,λy C=>?_,λy c _ h=>?_,λ_=>T,Around.frames_deeper o.frames,.inr ⟨rfl,rfl⟩,λb z=>absurd z (B b),o.bs,o.bsz,λb _ _=>B b,λb z=>absurd z (B b),o.tO,o.frf⟩,
  rfl,o.bare,Un.kept O,⟨_,x.toInCall.ns,λi y v G l X=>?_⟩,λy c h=>⟨_,x.cell y c h⟩,o.hok.fresh (a0e _),λy c h=>?_,λp hp=>absurd (show p∈([]:List (Addr×Obj))from hp) (by simp),o.hok.kept O,?_,a0Y _⟩
 .exact name_of_addr x.apart (a1I G) (a1I l)
 .have C:d.names.lookup y=some .cell\/d.names.lookup y=some .free:=C;rcases C with C|C
  .exact tT C
  .exact absurd rfl (S.RE _ (a1I C))
 .exact a2y (x.above y c (a1I h))
 .have I:i<vs.length:=by
   unfold start at l;by_cases I:i<vs.length
   .exact I
   .rw[a2S (by simpa using I)]at l;rw[a1L]at l;split at l<;>cases l
  have R:vs[i]?=some v:=by
   unfold start at l;rw[a09 (by simpa using I),a0D]at l;cases e:vs[i]? with
   |none=>rw[e]at l;cases l
   |some a=>rw[e]at l;cases l;rfl
  obtain⟨u,M,U⟩:=r.get R;have hp:D[i]?=some y:=by rw[<- S.pre,List.getElem?_take_of_lt (by omega)];exact G
  have F:D.Nodup:=by rw[<- S.pre];exact S.nd.sublist (List.take_sublist _ _)
  refine⟨u,U,?_⟩;rcases S.par y (a1Z hp)with k|k
  .exact .inl ⟨k,mK F hp M k⟩
  .obtain⟨c,e⟩:=tT (n:=s.heap.objs.size+1) k;refine .inr ⟨.inl k,c,e,?_⟩;have q:=x.cell y c e;rw[mL F hp M (by show d.names.lookup y≠_;rw[k];decide)]at q;exact q
 .exact o.hok.fresh (a2y (x.above y c (a1I h)))
 .unfold start;show _=N.length;rw[a0g,v4,a1C];omega
def Sy{CX:CXT}{P:a4b}{w:a4e}{K:a48}{L:a37}{h:Heap}{k:Nat}{f:Addr}{z d:Str}{i:Arguments}{j:a4r}{a:Scope}{dV kV F Y g ct oc:Value}{an od:a4v}
  {O:a4t}{N M:a40}{sp:Sp}(lk:K.lookup f=some ⟨oc,od,.func (PySem.W.fnOf z d i j a dV kV F Y an g ct),O⟩) (X:PySem.W.codeIn K g d=true) (S:zo N M a)
  (len:∀m H Q E,sp m H Q E->m.length=M.length)
  (AO:∀(A:a4i)(c:List Env)(s:a42)(H:Hp)(m:a4a)(Q:VK)(E:XK),v8 k (A.deeper (envOfC d a s.heap.objs.size f g))->sp m H Q E->
   ∃t,PSs (xR CX P w K L h N d a f g A c s H E) j t/\t { nx:=λ_ p=>Q .non p,rt:=Q } (start N m) H):
  yF P w K L h CX (k+1) f (PySem.W.fnOf z d i j a dV kV F Y an g ct) M sp:=by
 refine⟨len,λA c s H args us m Q E T G hb r hsp=>?_⟩;have hl:=len _ _ _ _ hsp;have Z:K.In s.heap:=G.mod.kin.keeps λb o e=>(G.bs b o e).1;have U:s.heap.NoLimit:=G.mod.nolimit.keeps λb o e=>(G.bs b o e).1;have B:∀y∈M.zip us,a.names.lookup y.1=some .local\/(a.names.lookup y.1=some .cell/\((cellsFrom (s.heap.objs.size+1) a.names []).lookup y.1).isSome=true):=λ⟨n,v⟩ hy=>by
  rcases S.par n (a3k hy).1 with q|q
  .exact .inl q
  .exact .inr ⟨q,a3o _ _ _ (.inl q)⟩
 refine codeAny_call_function T.depth (Z _ _ lk) rfl S.co S.gen rfl (PySem.W.codeRec_of Z X) (hb _ _ _ _ ?_);refine wpAny_newFunctionEnv_cells S.kind B λenv he s1 x=>?_;subst he;refine⟨U.keeps x.toInCall.keep,codeAny_func ?_⟩;obtain⟨t,ht,hq⟩:=AO A c s H m Q E (T.deeper _) hsp;have I:Inv (xR CX P w K L h N d a f g A c s H E) [] (start N m) H s1:=Bm S T.hd G hl r x;refine a07 (ht [] s1 (start N m) H _ I hq) (λfl W C=>?_) λe W C=>C;have D:∀{l:St}{p:Hp}{v:V}{u:Value},Inv (xR CX P w K L h N d a f g A c s H E) [] l p W->RelV v u->Q v p->CE c P w H s Q u W:=
  λ{l p v u} J R q=>⟨v,p,J.os,J.bare,J.base,J.hok,R,q⟩
 cases fl with
 |ret u=>obtain⟨v,l,p,J,R,q⟩:=C;exact D J R q
 |next=>obtain⟨l,p,J,q⟩:=C;exact D (v:=V.non) (u:=Value.none) J rfl q
 |brk=>obtain⟨_,_,_,q⟩:=C;exact False.elim q
 |cont=>obtain⟨_,_,_,q⟩:=C;exact False.elim q
section
variable {X:Cx}{x:Str}{p pos:Pos}{e:a45}{es:a44}{t:TA}{id T:String}{r:List V->Hp->VK->Prop}
def tCB(r:List V->Hp->VK->Prop)(t:TA):TE:=λc H Q=>t c H λb a=>r b a Q
def tU(g:ZS X (.builtin id) r)(i:Gl X x)(u:X.mg x=none)(l:bootBuiltins x=some (.builtin id))(f:PA X (e::es) t)(o:x≠"__name__":=by decide)(b:(x==("__debug__":Str))=false:=by decide)
  (he:starEach (e::es) X.env=(false,eval e X.env)::starEach es X.env:=by rfl) (hpl:(backTo pos (starEach es X.env)).any (·.1)=false:=by rfl):PE X (.Call (.Name x p) (e::es) [] pos) (tCB r t):=by
 intro a s c H Q I h;refine a1q (fI I i u l ?_ o b);exact PyProof.Rows.callWith_builtin1 (thn (f pos a s c H _ I h) λv d ⟨n,m,w,j,q⟩=>g a d c m n v Q w j q) he hpl
def Bn(g:ZS X (.type T) r)(i:Gl X x)(u:X.mg x=none)(l:bootBuiltins x=some (.type T))(f:PA X (e::es) t)(o:x≠"__name__":=by decide)(b:(x==("__debug__":Str))=false:=by decide)
  (he:starEach (e::es) X.env=(false,eval e X.env)::starEach es X.env:=by rfl) (hpl:(backTo pos (starEach es X.env)).any (·.1)=false:=by rfl):PE X (.Call (.Name x p) (e::es) [] pos) (tCB r t):=by
 intro a s c H Q I h;refine a1q (fI I i u l ?_ o b);exact a1Y (thn (f pos a s c H _ I h) λv d ⟨n,m,w,j,q⟩=>g a d c m n v Q w j q) he hpl
end
end L2
namespace HT
open PySem PyProof.Rows
section
def sIx(n d:Nat):Option Int->Nat
 |none=>d
 |some v=>if v<0 then(v+(n:Int)).toNat else min v.toNat n
end
end HT
namespace L2
open PySem PySem.Spec PyProof.Rows
abbrev TO:=St->Hp->(Option Int->Hp->Prop)->Prop
def PO(X:Cx)(e:a4F)(t:TO):Prop:=
 ∀(a:a38)(s:a42)(b:St)(H:Hp)(Q:Option Int->Hp->Prop),Inv X a b H s->t b H Q->
  wpAny (a4R X) X.A (evalPart e X.env) (λu d=>∃o c,Inv X a b c d/\IsPart u o/\Q o c) X.xe s
def IU:TO:=λ_ H Q=>Q none H
def Sz(t:TE):TO:=λb H Q=>t b H λx a=>∃i,x=.int i/\Q (some i) a
section
variable {X:Cx}{e:a45}{te:TE}{lo hi:a4F}{tl th:TO}{pos p2:Pos}
def IV:PO X none IU:=by intro a s b H Q I h;rw[evalPart_none];exact a0h ⟨none,H,I,.none,h⟩
def IW(h:PE X e te):PO X (some e) (Sz te):=by intro a s f H Q I b;rw[evalPart_some];refine thn (h a s f H _ I b) λu l ⟨x,d,g,j,c⟩=>?_;obtain⟨i,rfl,q⟩:=c;obtain⟨t,rfl⟩:=j;exact⟨some i,d,g,.int i t,q⟩
def SlR(X:Cx)(r:V->Option Int->Option Int->Hp->VK->Prop):Prop:=
 ∀(a:a38)(s:a42)(d:St)(H:Hp)(x:V)(v c f:Value)(lo hi:a4D) (b:Addr) (Q:VK),Inv X a d H s->RelV x v->s.heap.IsSliceOf b c f .none->IsPart c lo->IsPart f hi->r x lo hi H Q->
  ∃T id,typeLookup (.type T) "__getitem__"=pure (some (.builtin id))/\s.TypeIs v T/\wpAny (a4R X) X.A (getItem v (.ref b)) (EP X a d Q) X.xe s
def SlR.or(h:SlR X r)(h':SlR X r'):SlR X (λx lo hi H Q=>r x lo hi H Q\/r' x lo hi H Q):=by
 intro a s g H x v c l lo hi b Q I i f j d q;rcases q with q|q
 .exact h a s g H x v c l lo hi b Q I i f j d q
 .exact h' a s g H x v c l lo hi b Q I i f j d q
def tSl(r:V->Option Int->Option Int->Hp->VK->Prop)(te:TE)(tl th:TO):TE:=λa H Q=>te a H λx d=>tl a d λl b=>th a b λu c=>r x l u c Q
def tV(M:SlR X r)(he:PE X e te)(E:PO X lo tl)(w:PO X hi th):PE X (.Subscript e (.Slice lo hi none p2) pos) (tSl r te tl th):=by intro a s d H Q I h;refine Subscript_ (thn (he a s d H _ I h) λv o ⟨x,D,N,A,K⟩=>?_);refine wpAny_Slice (thn (E a o d D _ N K) λg F ⟨l,J,G,p,m⟩=>thn (w a F d J _ G m) λf c ⟨u,i,n,j,B⟩=>?_);rw[evalPart_none];refine a0h ?_;have L:Inv X a d i { c with heap:=c.heap.push { cls:=.type "slice",data:=.fields #[g,f,.none] } }:=n.kept (t':=c.toks) λb ob q=>a0d _ q;obtain⟨T,id,y,C,z⟩:=M a { c with heap:=c.heap.push { cls:=.type "slice",data:=.fields #[g,f,.none] } } d i x v g f l u c.heap.objs.size Q L A (Heap.IsSliceOf.new ..) p j B;show wpAny (a4R X) X.A (subscriptTail e (.Slice lo hi none p2) v (.ref c.heap.objs.size)) (EP X a d Q) X.xe { c with heap:=c.heap.push { cls:=.type "slice",data:=.fields #[g,f,.none] } };exact tail_any (ops:=[.ref c.heap.objs.size,v]) C y z (by with_unfolding_all rfl)
def G4(xs:a4a)(lo hi:a4D):List V:=(xs.drop (HT.sIx xs.length 0 lo)).take (HT.sIx xs.length xs.length hi-HT.sIx xs.length 0 lo)
def pW(xs:a4a)(lo hi:a4D):(G4 xs lo hi).length<=xs.length:=by unfold G4;rw[a00,a1x];omega
end
def ixN(n:Nat)(i:Int):Option Nat:=if 0<=i then(if i<n then some i.toNat else none)else if -(n:Int)<=i then some (i+n).toNat else none
def atI{a:Type}(xs:List a)(i:Int):Option a:=(ixN xs.length i).bind λj=>xs[j]?
def Bo(h:ixN n i=some j):seqIndex? i n=some j/\j<n/\-(n:Int)<=i/\i<n:=by
 unfold ixN at h;by_cases b:0<=i
 .rw[if_pos b]at h;by_cases a:i<n
  .rw[if_pos a]at h;have e:i.toNat=j:=a0T h;exact⟨by rw[a33 b a,e],by omega,by omega,a⟩
  .rw[if_neg a]at h;cases h
 .rw[if_neg b]at h;by_cases a:-(n:Int)<=i
  .rw[if_pos a]at h;have e:(i+n).toNat=j:=a0T h;exact⟨by rw[a3S (by omega) a,e],by omega,a,by omega⟩
  .rw[if_neg a]at h;cases h
def pX{a:Type}{xs:List a}{v:a}(h:atI xs i=some v):∃j,seqIndex? i xs.length=some j/\xs[j]?=some v/\j<xs.length/\-(xs.length:Int)<=i/\i<xs.length:=by
 unfold atI at h;cases e:ixN xs.length i with
 |none=>rw[e]at h;cases h
 |some j=>rw[e]at h;obtain⟨f,d,c,b⟩:=Bo e;exact⟨j,f,h,d,c,b⟩
def g9(b:a45):Prop:=∀o i,subscripted b false o i=operate [o,i] (getItem o i)
def IxR(X:Cx)(r:R2):Prop:=
 ∀(c a:a45)(b:a38)(s:a42)(d:St)(H:Hp)(x y:V)(v u:Value) (Q:VK),Inv X b d H s->RelV x v->RelV y u->r x y H Q->
  subscripted a false v u=operate [v,u] (getItem v u)->wpAny (a4R X) X.A (subscriptTail c a v u) (EP X b d Q) X.xe s
def MtR(X:Cx)(id:String)(r:V->List V->Hp->VK->Prop):Prop:=
 ∀(a:a38)(s:a42)(d:St)(H:Hp)(x:V)(c:a4a)(v:Value) (b:a46) (Q:VK),Inv X a d H s->RelV x v->Vals c b->r x c H Q->
  wpAny (a4R X) X.A (call (.builtin id) (v::b)) (EP X a d Q) X.xe s
section
variable {X:Cx}{a b:a45}{ta tb:TE}{pos:Pos}
def IxR.or(h:IxR X r)(h':IxR X r'):IxR X (λx y H Q=>r x y H Q\/r' x y H Q):=by
 intro c d e s i H x y v u Q I g j q f;rcases q with q|q
 .exact h c d e s i H x y v u Q I g j q f
 .exact h' c d e s i H x y v u Q I g j q f
def NZ(o:IxR X r)(g:PE X a ta)(j:PE X b tb)(i:g9 b):PE X (.Subscript a b pos) (tOp r ta tb):=by intro c s e H Q I h;exact Subscript_ (Sr g j I h λv u l x y n m d f q=>o a b c l e n x y v u Q m d f q (i _ _))
def zah(K:a48):R2:=λx y H Q=>∃p c i v,x=.ref p/\y=.int i/\SqL K H p c/\atI c i=some v/\Q v H
def zai(K:a48):R2:=λx y H Q=>∃p c i v,x=.ref p/\y=.int i/\SqT K H p c/\atI c i=some v/\Q v H
def zaj:R2:=λx y H Q=>∃z i c,x=.str z/\y=.int i/\z.length<=sizeLine/\atI z.cps.toList i=some c/\Q (.str ⟨#[c]⟩) H
def IX:IxR X (zah X.K):=by
 intro m o c s B H x y v u Q I F J h C;obtain⟨p,S,i,z,rfl,rfl,K,L,q⟩:=h;cases F;obtain⟨t,rfl⟩:=J;obtain⟨f,r,l,hz⟩:=I.list K;obtain⟨j,e,E,P,M,G⟩:=pX L;obtain⟨w,D,g⟩:=r.get E;have N:=r.length;have R:=mH;have d:EP X c B Q w s:=⟨z,H,I,g,q⟩;by_cases A:0<=i
 .have n:i.toNat=j:=by rw[a33 A G]at e;exact a0T e
  exact item_listR l.isList A (by omega) (by rw[n];simpa using D) d C
 .have n:(i+(f.toArray.size:Int)).toNat=j:=by rw[a3S (by omega) M]at e;rw[a0o,<- N];exact a0T e
  exact a3p (x:=w) l.isList.typeIs slot_list_getitem.lookup
   (wpAny_getItem_list_neg (Q:=λr O=>r=w/\EP X c B Q r O) l.isList (by omega) (by rw[a0o]<;>omega) (by omega) (by rw[n];simpa using D) ⟨rfl,d⟩) C
def N4:IxR X (zai X.K):=by
 intro f g c s l H x y v u Q I A C h F;obtain⟨p,P,i,z,rfl,rfl,D,E,q⟩:=h;cases A;obtain⟨t,rfl⟩:=C;obtain⟨n,r,m,hz⟩:=I.tuple D;obtain⟨j,B,o,N,M,L⟩:=pX E;obtain⟨w,J,e⟩:=r.get o;have G:=r.length;have O:=mH;have d:EP X c l Q w s:=⟨z,H,I,e,q⟩;exact a3p (x:=w) m.typeIs slot_tuple_getitem.lookup
  (getItem_tuple (j:=j) (Q:=λr K=>r=w/\EP X c l Q r K) m (by omega) (by omega) (by rw[a0o,<- G];exact B) (by simpa using J) ⟨rfl,d⟩) F
def N5:IxR X zaj:=by
 intro d e f s D H x y v u Q I m o h w;obtain⟨z,i,c,rfl,rfl,hz,p,q⟩:=h;obtain⟨t,rfl⟩:=m;obtain⟨G,rfl⟩:=o;obtain⟨j,g,l,E,r,n⟩:=pX p;have A:z.cps.toList.length=z.length:=by simp[Str.length]
 rw[A]at g r n;have F:=mH;exact tail_any (typeIs_str s z t) slot_str_getitem.lookup (getItem_str (c:=c) (by
  have C:decide (i < -(2 ^ 63:Int))=false:=a0k (by omega);have B:decide (i ≥ 2 ^ 63)=false:=a0k (by omega);rw[C,B,Bool.or_false]) (by rw[g];simpa using l) ⟨.str ⟨#[c]⟩,H,I.tok _,⟨_,rfl⟩,q⟩) w
def rIx(K:a48):R2:=λx y H Q=>zah K x y H Q\/zai K x y H Q\/zaj x y H Q
def N6:IxR X (rIx X.K):=IX.or (N4.or N5)
def xS(its:a46)(n j:Nat)(u:Value):Obj.mapSeq (·.setIfInBounds j u) { cls:=.type "list",data:=.seq its.toArray n }={ cls:=.type "list",data:=.seq (its.set j u).toArray n }:=by simp[Obj.mapSeq]
def Inv.lst(I:Inv X pins σ H s)(h:H p=some (.lst xs)):
  ∃(c:a46)(n:Nat),Vals xs c/\s.heap.get? p=some { cls:=.type "list",data:=.seq c.toArray n }/\xs.length<=sizeLine:=by
 obtain⟨z,c,n,r,e⟩:=I.hok p _ h;exact⟨c,n,r,e,z⟩
def Inv.N7{pins:a38}{σ:St}{H:Hp}{s:a42}{p:Addr}{xs ys:a4a}{its its':a46}{n c:Nat}{f:Obj->Obj}(I:Inv X pins σ H s)(h:H p=some (.lst xs))
  (g:s.heap.get? p=some { cls:=.type "list",data:=.seq its.toArray n }) (hf:f { cls:=.type "list",data:=.seq its.toArray n }={ cls:=.type "list",data:=.seq its'.toArray c }) (r:Vals ys its') (hz:ys.length<=sizeLine) (t:Nat) (i:X.m<=t:=by ac_rfl):
  Inv X pins σ (upd H p (.lst ys)) { s with heap:=s.heap.update p f,toks:=t }:=by
 have e:(s.heap.update p f).get? p=some { cls:=.type "list",data:=.seq its'.toArray c }:=by rw[a1g f g (by rw[hf]<;>rfl),hf]
 refine I.write (x:=p) (e:=p) (by rw[h];trivial) (.inl rfl) (λb u d q=>(a0F _ _ (Ne.symm d)).trans q) ⟨_,e⟩ ?_;exact⟨hz,its',c,r,e⟩
def SA:V->V->V->Hp->(Hp->Prop)->Prop:=λo i v H Q=>∃p c k j,o=.ref p/\i=.int k/\H p=some (.lst c)/\ixN c.length k=some j/\Q (upd H p (.lst (c.set j v)))
def set_list:zad X SA:=by
 intro d s z H o i v G J u Q I A B C h;obtain⟨p,E,k,j,rfl,rfl,hp,D,q⟩:=h;cases A;obtain⟨t,rfl⟩:=B;obtain⟨c,n,r,f,hz⟩:=I.lst hp;obtain⟨e,F,y,x⟩:=Bo D;have g:=r.length;have K:=mH;have w:Inv X d z (upd H p (.lst (E.set j v))) { s with heap:=s.heap.update p (Obj.mapSeq (·.setIfInBounds j u)) }:=
  I.N7 hp f (xS c n j u) (r.set C j) (by rw[a0V];exact hz) s.toks
 by_cases m:0<=k
 .have l:k.toNat=j:=by rw[a33 m x]at e;exact a0T e
  exact PySem.W.ki_setAt f m (by omega) (by rw[a0o,<- g];exact x) (by rw[l];exact⟨_,w,q⟩)
 .have l:(k+(c.toArray.size:Int)).toNat=j:=by rw[a3S (by omega) y]at e;rw[a0o,<- g];exact a0T e
  exact PySem.W.ki_setBack f (by omega) (by rw[a0o,<- g];exact y) (by omega) (by rw[l];exact⟨_,w,q⟩)
def mM(d c:a4D)(n:Nat):(sliceBounds d c none n).1=((HT.sIx n 0 d:Nat):Int)/\(sliceBounds d c none n).2.1=((HT.sIx n n c:Nat):Int)/\(sliceBounds d c none n).2.2=1:=by
 refine⟨?_,?_,rfl⟩
 .cases d with
  |none=>simp[sliceBounds,HT.sIx]
  |some i=>
   simp only[sliceBounds,HT.sIx,Option.getD_none,show(1:Int)>0 by decide,if_true];by_cases h:i<0
   .simp only[h,if_true]<;>omega
   .simp only[h,if_false]<;>omega
 .cases c with
  |none=>simp[sliceBounds,HT.sIx]
  |some i=>
   simp only[sliceBounds,HT.sIx,Option.getD_none,show(1:Int)>0 by decide,if_true];by_cases h:i<0
   .simp only[h,if_true]<;>omega
   .simp only[h,if_false]<;>omega
def g_(its:a46)(c d:a4D):slicePick its.toArray c d none=((its.drop (HT.sIx its.length 0 c)).take (HT.sIx its.length its.length d-HT.sIx its.length 0 c)).toArray:=by obtain⟨g,f,e⟩:=mM c d its.toArray.size;unfold slicePick;rw[g,f,e];simp only[sliceRange_one,pick_run,List.size_toArray]<;>rfl
def zaZ(K:a48):V->Option Int->Option Int->Hp->VK->Prop:=λx e d H Q=>∃a c,x=.ref a/\SqL K H a c/\∀p,H p=none->Q (.ref p) (upd H p (.lst (G4 c e d)))
def Bp:SlR X (zaZ X.K):=by intro g s w H x v A z e f y Q I m u n j h;obtain⟨a,c,rfl,p,q⟩:=h;cases m;obtain⟨l,r,i,hz⟩:=I.list p;have d:=r.length;refine⟨"list",_,slot_list_getitem.lookup,i.isList.typeIs,?_⟩;refine wpAny_getItem_list_slice i.isList u n j .none (by simp) ?_ (by rw[List.size_toArray]<;>omega);rw[g_,<- d];refine⟨.ref s.heap.objs.size,_,I.laid (t':=s.toks) (o:=.lst (G4 c e f)) (λb ob q=>a0d _ q) (a0e _) ?_,rfl,q _ (I.hok.fresh (a0e _))⟩;exact⟨a0y (pW c e f) hz,_,0,(r.drop (HT.sIx c.length 0 e)).take (HT.sIx c.length c.length f-HT.sIx c.length 0 e),a0x _ rfl⟩
def ay:V->Bool
 |.non=>true
 |.bl _=>true
 |.int _=>true
 |.str _=>true
 |_=>false
def eqV:V->V->Bool
 |.non,.non=>true
 |.bl a,.bl b=>a==b
 |.bl a,.int b=>(if a then 1 else 0)==b
 |.int a,.bl b=>a==(if b then 1 else 0)
 |.int a,.int b=>a==b
 |.str a,.str b=>a==b
 |_,_=>false
def G5(f:RelV y u)(c:RelV x v)(g:ay y=true)(e:ay x=true):SeqAt.EqAt A s u v (eqV y x):=by
 cases y with
 |non=>
  cases f;cases x with
  |non=>cases c;exact SeqAt.EqAt.same _
  |bl b=>cases c;exact SeqAt.EqAt.none_bool b
  |int b=>obtain⟨t,rfl⟩:=c;exact SeqAt.EqAt.none_int b t
  |str b=>obtain⟨t,rfl⟩:=c;exact SeqAt.EqAt.none_str b t
  |_=>exact absurd (show false=true from e) a0q
 |bl a=>
  cases f;cases x with
  |non=>cases c;exact SeqAt.EqAt.bool_none a
  |bl b=>cases c;exact SeqAt.EqAt.bool_bool a b
  |int b=>obtain⟨t,rfl⟩:=c;exact SeqAt.EqAt.bool_int a b t
  |str b=>obtain⟨t,rfl⟩:=c;exact SeqAt.EqAt.bool_str a b t
  |_=>exact absurd (show false=true from e) a0q
 |int a=>
  obtain⟨d,rfl⟩:=f;cases x with
  |non=>cases c;exact SeqAt.EqAt.int_none a d
  |bl b=>cases c;exact SeqAt.EqAt.int_bool a d b
  |int b=>obtain⟨t,rfl⟩:=c;exact SeqAt.EqAt.int_int a d b t
  |str b=>obtain⟨t,rfl⟩:=c;exact a3M a d b t
  |_=>exact absurd (show false=true from e) a0q
 |str a=>
  obtain⟨d,rfl⟩:=f;cases x with
  |non=>cases c;exact SeqAt.EqAt.str_none a d
  |bl b=>cases c;exact SeqAt.EqAt.str_bool a d b
  |int b=>obtain⟨t,rfl⟩:=c;exact a3N a d b t
  |str b=>obtain⟨t,rfl⟩:=c;exact SeqAt.EqAt.str_str a d b t
  |_=>exact absurd (show false=true from e) a0q
 |_=>exact absurd (show false=true from g) a0q
def eqU(x:V)(u:Value):Bool:=match u with
 |.none=>eqV .non x
 |.bool b=>eqV (.bl b) x
 |.int i _=>eqV (.int i) x
 |.str z _=>eqV (.str z) x
 |_=>false
def G6(r:RelV y u)(f:ay y=true):eqU x u=eqV y x:=by
 cases y with
 |non=>cases r;rfl
 |bl b=>cases r;rfl
 |int i=>obtain⟨t,rfl⟩:=r;rfl
 |str z=>obtain⟨t,rfl⟩:=r;rfl
 |_=>exact absurd (show false=true from f) a0q
theorem bq{x:V}:∀{c:a4a}{d:a46},Vals c d->c.all ay=true->d.any (eqU x)=c.any λy=>eqV y x
 |_,_,.nil,_=>rfl
 |y::c,u::d,.cons r t,f=>by rw[a15,a1G]at f;rw[a1b,a1b,G6 r f.1,bq t f.2]
theorem WC{A:a4i}{s:a42}{x:V}{v:Value}(h:RelV x v)(g:ay x=true):∀{e:a4a}{d:a46},Vals e d->e.all ay=true->∀u∈d,SeqAt.EqAt A s u v (eqU x u)
 |_,_,.nil,_=>λu c=>by cases c
 |y::e,u::d,.cons r t,f=>λi c=>by
  rw[a15,a1G]at f;rcases a0r.mp c with rfl|c
  .rw[G6 r f.1];exact G5 r h f.1 g
  .exact WC h g t f.2 i c
def inV(x:V)(xs:a4a):Bool:=xs.any λy=>eqV y x
def rIn(K:a48)(d:Bool):R2:=λx y H Q=>∃p c,y=.ref p/\(SqL K H p c\/SqT K H p c)/\ay x=true/\c.all ay=true/\Q (.bl (if d then !inV x c else inV x c)) H
def Bq:OpR X (compareOp .In) (rIn X.K false):=by
 intro i s m H x y v u Q I g l h;obtain⟨p,n,rfl,d,j,fs,q⟩:=h;cases l;rcases d with d|d
 .obtain⟨c,r,e,hz⟩:=I.list d;refine SeqAt.in_listAt (eqU x) e.isList (λw f=>WC g j r fs w (by simpa using f)) ⟨.bl _,H,I,rfl,?_⟩;rw[show c.toArray.any (eqU x)=c.any (eqU x) by simp,bq r fs];exact q
 .obtain⟨c,r,e,hz⟩:=I.tuple d;refine SeqAt.in_tupleAt (eqU x) e (λw f=>WC g j r fs w (by simpa using f)) ⟨.bl _,H,I,rfl,?_⟩;rw[show c.toArray.any (eqU x)=c.any (eqU x) by simp,bq r fs];exact q
def mN:OpR X (compareOp .NotIn) (rIn X.K true):=by
 intro i s m H x y v u Q I g l h;obtain⟨p,n,rfl,d,j,fs,q⟩:=h;cases l;rcases d with d|d
 .obtain⟨c,r,e,hz⟩:=I.list d;refine SeqAt.notIn_listAt (eqU x) e.isList (λw f=>WC g j r fs w (by simpa using f)) ⟨.bl _,H,I,rfl,?_⟩;rw[show c.toArray.any (eqU x)=c.any (eqU x) by simp,bq r fs];exact q
 .obtain⟨c,r,e,hz⟩:=I.tuple d;refine SeqAt.notIn_tupleAt (eqU x) e (λw f=>WC g j r fs w (by simpa using f)) ⟨.bl _,H,I,rfl,?_⟩;rw[show c.toArray.any (eqU x)=c.any (eqU x) by simp,bq r fs];exact q
def mO:OpR X (compareOp .NotIn) (λx y H Q=>∃i j,x=.str i/\y=.str j/\Q (.bl (!(!(Builtin.Str.occurrences j i 0 j.length 1).isEmpty))) H):=by intro c s g H x y v u Q I d e h;obtain⟨i,j,rfl,rfl,q⟩:=h;obtain⟨t,rfl⟩:=d;obtain⟨f,rfl⟩:=e;exact notIn_str ⟨.bl _,H,I,rfl,q⟩
def ZS.or(h:ZS X f r)(h':ZS X f r'):ZS X f (λd H Q=>r d H Q\/r' d H Q):=by
 intro c s g H d i Q I e q;rcases q with q|q
 .exact h c s g H d i Q I e q
 .exact h' c s g H d i Q I e q
def mP:ZS X (.type "list") (λD H Q=>∃p g,D=[.ref p]/\(SqL X.K H p g\/SqT X.K H p g)/\∀l,H l=none->Q (.ref l) (upd H l (.lst g))):=by
 intro m s F H D G Q I r h;obtain⟨p,g,rfl,v,q⟩:=h;obtain⟨u,rfl,E⟩:=vals1 r;cases E;have j:∀(c:a46),Vals g c->g.length<=sizeLine->∀(d:Heap)(f:Nat),(∀b C,s.heap.get? b=some C->d.get? b=some C)->
   d.get? s.heap.objs.size=some { cls:=.type "list",dict:=none,data:=.seq c.toArray f,slots:=#[] }->EP X m F Q (.ref s.heap.objs.size) { s with heap:=d }:=λc i hz d f w e=>
  ⟨.ref s.heap.objs.size,_,I.laid (t':=s.toks) w (a0e _) (show qB X.prog X.w _ d _ (.lst g)from⟨hz,c,f,i,e⟩),rfl,q _ (I.hok.fresh (a0e _))⟩
 rcases v with v|v
 .obtain⟨c,i,z,hz⟩:=I.list v;have x:=i.length;obtain⟨o,y,A,n,B⟩:=z.isList;exact call_list_seq p (.inl rfl) y A B (λd f w e=>j c i hz d f w e) (by simp only[List.size_toArray]<;>omega)
 .obtain⟨c,i,z,hz⟩:=I.tuple v;have x:=i.length;obtain⟨o,y,A,n,B⟩:=z;exact call_list_seq p (.inr rfl) y A B (λd f w e=>j c i hz d f w e) (by simp only[List.size_toArray]<;>omega)
def tyV(K:a48)(T:String)(x:V)(H:Hp):Prop:=match x with
 |.str _=>T="str"
 |.int _=>T="int"
 |.ref p=>(T="list" /\ ∃d,SqL K H p d)\/(T="tuple" /\ ∃o,K.lookup p=some o/\o.cls=.type "tuple"/\o.dict=none)\/
   (T="dict"/\((∃c,H p=some (.dK c))\/∃c,H p=some (.dT c)))\/(T="set" /\ ∃S n,H p=some (.set S n))
 |_=>False
def N8(I:Inv X pins σ H s)(r:RelV x v)(g:tyV X.K T x H):
  s.TypeIs v T/\∀a,v=.ref a->∃ob,s.heap.get? a=some ob/\ob.dict=none:=by
 cases x with
 |str z=>obtain⟨t,rfl⟩:=r;cases(show T="str" from g);exact⟨typeIs_str s z t,λ_ e=>nomatch e⟩
 |int i=>obtain⟨t,rfl⟩:=r;cases(show T="int" from g);exact⟨typeIs_int s i t,λ_ e=>nomatch e⟩
 |ref p=>
  cases r;rcases g with⟨rfl,y,u⟩|⟨rfl,o,d,w,l⟩|⟨rfl,d⟩|⟨rfl,S,n,d⟩
  .obtain⟨q,_,m,_⟩:=I.list u;refine⟨m.isList.typeIs,λa e=>?_⟩;cases e;obtain⟨o,n,e,c,l,_⟩:=m;exact⟨o,e,l⟩
  .refine⟨⟨o,I.kIn p o d,w⟩,λa e=>?_⟩;cases e;exact⟨o,I.kIn _ o d,l⟩
  .have z:∃o,s.heap.get? p=some o/\o.ExactDict:=by
    rcases d with⟨h,d⟩|⟨h,d⟩
    .obtain⟨_,_,_,_,o,_,_,e,f,_⟩:=I.hok p _ d;exact⟨o,e,f⟩
    .obtain⟨_,_,_,_,o,_,_,e,f,_⟩:=I.hok p _ d;exact⟨o,e,f⟩
   obtain⟨o,e,f⟩:=z;refine⟨⟨o,e,f.1⟩,λa j=>?_⟩;cases j;exact⟨o,e,f.2.1⟩
  .obtain⟨o,_,_,_,e,f,_⟩:=I.hok p _ d;refine⟨⟨o,e,f.1⟩,λa j=>?_⟩;cases j;exact⟨o,e,f.2.1⟩
 |_=>exact False.elim g
def tBM(K:a48)(T:String)(r:V->List V->Hp->VK->Prop)(g:TE)(t:TA):TE:=λd H Q=>g d H λx c=>tyV K T x c/\t d c λf e=>r x f e Q
variable {o e:a45}{es:a44}{to:TE}{t:TA}{name:Str}{jH Ze:Pos}{T id:String}{r:V->List V->Hp->VK->Prop}
def IY(n:PlainAttrs T)(f:Slot T name id)(i:typeOf (.builtin id)=pure (.type "method_descriptor"))(N:MtR X id r)(p:PE X o to)(A:PA X (e::es) t)
  (B:attributeBase o name X.env (eval o X.env)=eval o X.env:=by rfl)
  (C:((backTo Ze (starEach (e::es) X.env)).all (λx=>!x.1)&&(backToKw Ze (keywordEach [] X.env)).all (λx=>x.1.isSome)
   && decide ((e::es).length+([]:List Keyword).length+(if([]:List Keyword).isEmpty then 0 else 1)<30))=true:=by rfl)
  (P:(jH.endLine==Ze.line)=true:=by rfl) (D:starEach (e::es) X.env=(false,eval e X.env)::starEach es X.env:=by rfl) (d:(backTo Ze (starEach es X.env)).any (·.1)=false:=by rfl):
  PE X (.Call (.Attribute o name jH) (e::es) [] Ze) (tBM X.K T r to t):=by
 intro c s g H Q I h;refine wpAny_Call_method_late B C P rfl (thn (p c s g H _ I h) λv w ⟨x,E,m,j,M,L⟩=>?_);obtain⟨y,q⟩:=N8 m j M;refine⟨T,id,n,f,i,y,q,?_⟩;have l:=A Ze c w g E _ m L;rw[D]at l ⊢;refine a2o (by show(false||(backTo Ze (starEach es X.env)).any (·.1))=false;rw[d]<;>rfl) (a2B ?_);exact thn l λO F ⟨G,K,J,z,u⟩=>N c F g K x G v O Q J j z u
end
def MtM(X:Cx)(id:String)(r:V->List V->Hp->VK->Prop):Prop:=
 ∀(a:a38)(s:a42)(d:St)(H:Hp)(x:V)(c:a4a)(v:Value) (b:a46) (Q:VK),Inv X a d H s->RelV x v->Vals c b->r x c H Q->
  wpAny (a4R X) X.A (call (.builtin id) (v::b)) (EP X a d Q) X.xe s
def Vals.one:∀{x:V}{a:a46},Vals [x] a->∃u,a=[u]/\RelV x u
 |_,_,.cons r .nil=>⟨_,rfl,r⟩
def Vals.rep{xs:a4a}{us:a46}(h:Vals xs us):∀k:Nat,Vals (List.replicate k xs).flatten (List.replicate k us).flatten
 |0=>.nil
 |k+1=>by rw[a1l,a1l,a1u,a1u];exact Vals.append h (Vals.rep h k)
theorem foldl_rep(its:a46):∀(k:Nat)(a:a46),
  List.foldl (λb c=>b++c) a.toArray (List.replicate k its.toArray)=(a++(List.replicate k its).flatten).toArray
 |0,a=>by simp
 |k+1,a=>by
  have e:a.toArray++its.toArray=(a++its).toArray:=by simp
  have d:(a++its)++(List.replicate k its).flatten=a++(List.replicate (k+1) its).flatten:=by rw[a1l,a1u,a0w]
  rw[<- d,<- foldl_rep its k (a++its),<- e,a1l,a1t]
def Inv.zak{its its':a46}{n:Nat}{f:Array Value->Array Value}{t':Nat}(I:Inv X pins σ H s)(d:H l=some (.lst xs))
  (e:s.heap.get? l=some { cls:=.type "list",data:=.seq its.toArray n }) (hf:f its.toArray=its'.toArray) (a:Vals ys its') (hz:ys.length<=sizeLine) (h:X.m<=t':=by ac_rfl):
  Inv X pins σ (upd H l (.lst ys)) { s with heap:=s.heap.update l (Obj.mapSeq f),toks:=t' }:=by
 have q:=PySem.IsL.update e f;rw[hf]at q;refine I.write (x:=l) (e:=l) (by rw[d];exact trivial) (.inl rfl) (λg u c b=>(a0F s.heap (Obj.mapSeq f) (Ne.symm c)).trans b) ⟨_,q⟩ ?_;exact⟨hz,its',_,a,q⟩
def Inv.SD(I:Inv X pins σ H s)(a:Vals ys its)(hz:ys.length<=sizeLine)(b:X.m<=t':=by ac_rfl):
  Inv X pins σ (upd H s.heap.objs.size (.lst ys)) { s with heap:=s.heap.push { cls:=.type "list",data:=.seq its.toArray },toks:=t' }:=
 I.laid (λ_ _ q=>a0d _ q) (a0e _) ⟨hz,its,0,a,a0x _ rfl⟩
def Inv.fresh(I:Inv X pins σ H s):H s.heap.objs.size=none:=I.hok.fresh (a0e _)
def Inv.Nk(I:Inv X pins σ H s)(b:H l=some (.lst xs)):xs.length<=sizeLine/\∃(a:a46)(n:Nat),Vals xs a/\xs.length=a.length/\s.heap.get? l=some { cls:=.type "list",data:=.seq a.toArray n }:=by obtain⟨z,a,n,r,e⟩:=I.hok l _ b;exact⟨z,a,n,r,r.length,e⟩
def tW(h:n<=sizeLine):Builtin.List.listTooLong n=false:=by unfold Builtin.List.listTooLong;exact a0k (by omega)
section
variable {X:Cx}
def IZ:V->List V->Hp->VK->Prop:=λx b H Q=>∃l a y,x=.ref l/\b=[y]/\H l=some (.lst a)/\a.length<sizeLine/\Q .non (upd H l (.lst (a++[y])))
def mQ:MtM X "list.append" IZ:=by intro b s i H x m v p Q I d g h;obtain⟨l,o,y,rfl,rfl,c,hz,q⟩:=h;cases d;obtain⟨u,rfl,f⟩:=g.one;obtain⟨z,a,n,r,j,e⟩:=I.Nk c;refine a3B F.slot_list_append ⟨_,e,rfl⟩ F.entry_list_append (F.args_list_append_2 _ _) (PySem.list_append l a.toArray n u (by rw[a0o];omega)) ⟨e,?_⟩;refine⟨.non,_,I.zak (its':=a++[u]) c e (by simp) (r.append (.cons f .nil)) ?_,rfl,q⟩;rw[a0g,a1c];omega
def I0:V->List V->Hp->VK->Prop:=λx d H Q=>∃l b a c,x=.ref l/\d=[.ref b]/\H l=some (.lst a)/\H b=some (.lst c)/\a.length+c.length<=sizeLine/\Q .non (upd H l (.lst (a++c)))
def Br:MtM X "list.extend" I0:=by
 intro g s B H x G v K Q I j A h;obtain⟨l,b,J,C,rfl,rfl,i,hB,hz,q⟩:=h;cases j;obtain⟨u,rfl,m⟩:=A.one;cases m;obtain⟨z,c,n,r,E,e⟩:=I.Nk i;obtain⟨D,a,w,o,p,y⟩:=I.Nk hB;have f:c.toArray.size+a.toArray.size<=sizeLine:=by rw[a0o,a0o];omega
 have d:¬(!c.toArray.isEmpty&&Builtin.List.listTooLong (c.toArray.size+a.toArray.size))=true:=by rw[tW f,a1W];exact a0q
 refine a3B F.slot_list_extend ⟨_,e,rfl⟩ F.entry_list_extend (F.args_list_extend_2 _ _)
  (AutoSeq1.list_extend_list_list_0 l c.toArray n b a.toArray w d (by rw[a0o];omega) (by omega)) ⟨e,y,?_⟩
 refine⟨.non,_,I.zak (its':=c++a) i e (by simp) (r.append o) ?_,rfl,q⟩;rw[a0g];omega
def zal:R2:=λx y H Q=>∃l b a c,x=.ref l/\y=.ref b/\H l=some (.lst a)/\H b=some (.lst c)/\a.length+c.length<=sizeLine/\∀p,H p=none->Q (.ref p) (upd H p (.lst (a++c)))
def G7:OpR X (binaryOp .Add) zal:=by
 intro d s w H x y v u Q I f g h;obtain⟨l,b,E,A,rfl,rfl,o,hB,hz,q⟩:=h;cases f;cases g;obtain⟨z,c,n,r,C,e⟩:=I.Nk o;obtain⟨B,a,D,i,m,p⟩:=I.Nk hB;refine PySem.P.add_list e p ?_ (by rw[a0o,a0o];omega);have j:c.toArray++a.toArray=(c++a).toArray:=by simp
 rw[j];exact⟨.ref _,_,I.SD (t':=s.toks) (r.append i) (by rw[a0g];omega),rfl,q _ I.fresh⟩
def zam:R2:=λx y H Q=>∃l k a,x=.ref l/\y=.int k/\H l=some (.lst a)/\-(2 ^ 63)<=k/\k<2 ^ 63/\a.length*k.toNat<=sizeLine/\
 ∀p,H p=none->Q (.ref p) (upd H p (.lst (List.replicate k.toNat a).flatten))
def len_rep{b:Type}(xs:List b)(k:Nat):(List.replicate k xs).flatten.length=k*xs.length:=by
 induction k with
 |zero=>simp
 |succ k a=>rw[a1l,a1u,a0g,a,Nat.succ_mul,Nat.add_comm]
def N9:OpR X (binaryOp .Mult) zam:=by
 intro p s K H x y v u Q I A D h;obtain⟨l,k,M,rfl,rfl,G,C,w,hz,q⟩:=h;cases A;obtain⟨t,rfl⟩:=D;obtain⟨z,b,n,r,E,e⟩:=I.Nk G;have i:b.toArray.size*k.toNat<=sizeLine:=by rw[a0o,<- E];exact hz
 have g:¬b.toArray.size*k.toNat>(2 ^ 63-1) / 8:=by
  have:(sizeLine:Nat)<=(2 ^ 63-1) / 8:=by decide
  omega
 have f:¬(!Builtin.List.listFitsIndex k)=true:=by rw[fitsIndex_both C w];exact a0q
 have c:¬Builtin.List.listTooLong (b.toArray.size*k.toNat)=true:=by rw[tW i];exact a0q
 have d:List.foldl (λo j=>o++j) #[] (List.replicate (if b.toArray.isEmpty=true then 0 else k.toNat) b.toArray)=(List.replicate k.toNat b).flatten.toArray:=by
  have B:∀m:Nat,List.foldl (λo j=>o++j) #[] (List.replicate m b.toArray)=(List.replicate m b).flatten.toArray:=λm=>by have:=foldl_rep b m [];rw[a1k]at this;exact this
  rw[B];cases b with
  |nil=>simp
  |cons a L=>rw[if_neg (by simp)]
 refine wpAny_binaryOp_repeat_ref (T:="list") (U:="int") (by decide) ⟨_,e,rfl⟩ (λJ=>typeIs_int J k t) noFill_list_mul F.fills_int_mul F.slot_int_rmul repeat_list F.slot_int_index.lookup
  (a3B F.slot_int_rmul (typeIs_int s k t) F.entry_int_rmul (F.args_int_rmul_2 _ _) (int___rmul___int_list k t l b.toArray n)
   ⟨e,rfl,⟨_,e,rfl⟩,a3B F.slot_list_mul ⟨_,e,rfl⟩ F.entry_list_mul (F.args_list_mul_2 _ _) (AutoListH.list___mul___list_int_3 l b.toArray n k t f g c) ⟨e,?_⟩⟩)
 rw[d];exact⟨.ref _,_,I.SD (t':=s.toks) (r.rep k.toNat) (by rw[len_rep,Nat.mul_comm];exact hz),rfl,q _ I.fresh⟩
end
section
variable {κ:Type}[DecidableEq κ]
def dR(kvs:List (κ×V))(k:κ):Option V:=(kvs.find? λa=>decide (a.1=k)).map (·.2)
def putK(kvs:List (κ×V))(k:κ)(v:V):List (κ×V):=
 if(kvs.any λa=>decide (a.1=k))=true then kvs.map (λa=>if a.1=k then(a.1,v)else a)else kvs++[(k,v)]
def hU{p:κ×V}{r:List (κ×V)}{k:κ}(e:p.1=k):dR (p::r) k=some p.2:=by simp[dR,List.find?_cons,e]
def hX{p:κ×V}{r:List (κ×V)}{k:κ}(e:¬p.1=k):dR (p::r) k=dR r k:=by simp[dR,List.find?_cons,e]
theorem tX(k:κ):∀a:List (κ×V),(a.any λb=>decide (b.1=k))=(dR a k).isSome
 |[]=>rfl
 |p::r=>by
  rw[a1b];by_cases e:p.1=k
  .simp only[hU e,decide_eq_true e,Bool.true_or,Option.isSome_some]
  .rw[hX e,a0k e,Bool.false_or];exact tX k r
def VZ(kvs:List (κ×V))(k:κ)(v:V):(putK kvs k v).length<=kvs.length+1:=by
 unfold putK;split
 .rw[v4];omega
 .rw[a0g,a0b,a2a];omega
def aU.QX(r:aU o u):o.isSome=u.isSome:=by
 cases o with
 |none=>cases u with
  |none=>rfl
  |some _=>exact(show False from r).elim
 |some _=>cases u with
  |none=>exact(show False from r).elim
  |some _=>rfl
def aU.getD(r:aU o u)(rd:RelV d d'):RelV (o.getD d) (u.getD d'):=by
 cases o with
 |none=>cases u with
  |none=>exact rd
  |some _=>exact(show False from r).elim
 |some _=>cases u with
  |none=>exact(show False from r).elim
  |some _=>exact r
def KV.val{kvs:List (κ×V)}{vs:List (κ×Value)}(r:KV kvs vs)(k:κ):aU (dR kvs k) (valueAt vs k):=by
 unfold KV at r
 induction r with
 |nil=>exact True.intro
 |@cons p q i a h t g=>
  obtain⟨d,f⟩:=h;by_cases e:p.1=k
  .have c:q.1=k:=d.symm.trans e;have b:valueAt (q::a) k=some q.2:=by simp[valueAt,List.find?_cons,c]
   rw[hU e,b];exact f
  .have c:¬q.1=k:=λz=>e (d.trans z);have b:valueAt (q::a) k=valueAt a k:=by simp[valueAt,List.find?_cons,c]
   rw[hX e,b];exact g
def KV.any{kvs:List (κ×V)}{vs:List (κ×Value)}(r:KV kvs vs)(k:κ):(kvs.any λa=>decide (a.1=k))=vs.any λa=>decide (a.1=k):=by
 unfold KV at r
 induction r with
 |nil=>rfl
 |cons h t b=>rw[a1b,a1b,b,h.1]
def KV.SE{kvs:List (κ×V)}{vs:List (κ×Value)}(r:KV kvs vs)(k:κ)(f:RelV y u):
  KV (kvs.map λa=>if a.1=k then(a.1,y)else a) (vs.map λa=>if a.1=k then(a.1,u)else a):=by
 unfold KV at r ⊢
 induction r with
 |nil=>exact .nil
 |@cons p q i g h t d=>
  rw[a0j,a0j];refine .cons ?_ d;obtain⟨b,c⟩:=h;by_cases e:p.1=k
  .rw[if_pos e,if_pos (b.symm.trans e)];exact⟨b,f⟩
  .rw[if_neg e,if_neg (λz=>e (b.trans z))];exact⟨b,c⟩
def KV.put{kvs:List (κ×V)}{vs:List (κ×Value)}(r:KV kvs vs)(k:κ)(a:RelV y u):KV (putK kvs k y) (stored vs k u):=by
 unfold putK stored;rw[r.any k];by_cases e:(vs.any λb=>decide (b.1=k))=true
 .rw[if_pos e,if_pos e];exact r.SE k a
 .rw[if_neg e,if_neg e];exact Paired.snoc r ⟨rfl,a⟩
def KV.length{kvs:List (κ×V)}{vs:List (κ×Value)}(r:KV kvs vs):kvs.length=vs.length:=a1M r
end
def h8(r:RelV (kV k) u):(yG P w).is k u=true:=by
 cases k with
 |inl i=>obtain⟨t,e⟩:=(show ∃t,u=Value.int i t from r);subst e;exact pS P w i t
 |inr x=>obtain⟨t,e⟩:=(show ∃t,u=Value.str x t from r);subst e;exact pT P w x t
theorem mR{P:a4b}{w:a4e}:∀{a:a4y}{b:a46},Vals (a.map kV) b->ItemsAre (yG P w) a b
 |[],_,r=>by rw[a3T]at r;cases r;exact .nil
 |k::a,_,r=>by
  rw[a0j]at r;cases r with
  |cons h t=>exact .cons (h8 h) (mR t)
abbrev KT(H:Hp):List (List Key×V)->List (List Key×Addr×Value)->Prop:=Paired λp q=>p.1=q.1/\H q.2.1=some (.tup (p.1.map kV))/\RelV p.2 q.2.2
def KT.val(r:KT H kvs xs)(k:a4y):aU (dR kvs k) ((atKey xs k).map (·.2)):=by
 induction r with
 |nil=>exact True.intro
 |@cons p q i a h t g=>
  obtain⟨d,_,f⟩:=h;by_cases e:p.1=k
  .have c:q.1=k:=d.symm.trans e;have b:atKey (q::a) k=some q.2:=by simp[atKey,List.find?_cons,c]
   rw[hU e,b];exact f
  .have c:¬q.1=k:=λz=>e (d.trans z);have b:atKey (q::a) k=atKey a k:=by simp[atKey,List.find?_cons,c]
   rw[hX e,b];exact g
def KT.SE(r:KT H kvs xs)(k:a4y)(g:RelV y u):
  KT H (kvs.map λb=>if b.1=k then(b.1,y)else b) (xs.map (putAt k u)):=by
 induction r with
 |nil=>exact .nil
 |@cons p q j i h t f=>
  rw[a0j,a0j];refine .cons ?_ f;obtain⟨a,c,d⟩:=h;unfold putAt;by_cases e:p.1=k
  .rw[if_pos e,if_pos (a.symm.trans e)];exact⟨a,c,g⟩
  .rw[if_neg e,if_neg (λz=>e (a.trans z))];exact⟨a,c,d⟩
def KT.put(r:KT H kvs xs)(k:a4y)(c:H b=some (.tup (k.map kV)))(a:RelV y u):
  KT H (putK kvs k y) (storedH xs k b u):=by
 have e:(kvs.any λd=>decide (d.1=k))=(atKey xs k).isSome:=by rw[tX,(r.val k).QX,a1S]
 unfold putK storedH;rw[e];by_cases q:(atKey xs k).isSome=true
 .rw[if_pos q,if_pos q];exact r.SE k a
 .rw[if_neg q,if_neg q];exact Paired.snoc r ⟨rfl,c,a⟩
def KT.keeps(r:KT H kvs xs)(c:∀b a,H b=some (.tup a)->H' b=some (.tup a)):KT H' kvs xs:=
 Paired.Sf r λ_ _ z=>⟨z.1,c _ _ z.2.1,z.2.2⟩
def N_(ok:HOk P w H h)(e:Rd H a u):qB P w H h a u:=e.ok ok
def Kx(ok:HOk P w H h)(e:Rd H a (.dK kvs)):kvs.length<=sizeLine/\(a==sysModules)=false/\∃b,KV kvs b/\h.DictOf (yG P w) a b:=
 show qB P w H h a (.dK kvs)from N_ ok e
def Oa(ok:HOk P w H h)(e:H a=some (.dK kvs)):kvs.length<=sizeLine/\(a==sysModules)=false/\∃b,KV kvs b/\h.DictOf (yG P w) a b:=Kx ok (.inl e)
def br(ok:HOk P w H h)(e:H a=some (.tup (ks.map kV))):(tupleKind (yG P w)).is h ks a:=by obtain⟨_,b,r,o,f,d,n,c⟩:=(show qB P w H h a (.tup (ks.map kV))from ok a _ e);exact⟨o,b.toArray,n,f,d,c,by simpa using mR r⟩
def mS(ok:HOk P w H h)(e:Rd H a (.dT kvs)):kvs.length<=sizeLine/\(a==sysModules)=false/\
  ∃c,KT H kvs c/\h.DictOfH (tupleKind (yG P w)) a c:=by
 obtain⟨z,y,c,r,o,s,v,j,f,u,n,i⟩:=(show qB P w H h a (.dT kvs)from N_ ok e);refine⟨z,y,c,r,o,s,v,j,f,u,n,λx b=>?_,i⟩;have all:∀{l:a4G}{m:List (List Key×Addr×Value)},KT H l m->∀x∈m,(tupleKind (yG P w)).is h x.1 x.2.1:=by
  intro l m q
  induction q with
  |nil=>intro x b;exact nomatch b
  |@cons p q A B d t g=>
   intro x b;rcases a0r.mp b with e|b
   .subst e;exact br ok (by rw[<- d.1];exact d.2.1)
   .exact g x b
 exact all r x b
def SG(ok:HOk P w H h)(e:H a=some (.dT kvs)):kvs.length<=sizeLine/\(a==sysModules)=false/\
  ∃b,KT H kvs b/\h.DictOfH (tupleKind (yG P w)) a b:=mS ok (.inl e)
def tY(H:Hp)(a:Addr)(y:V)(r:Option V):Prop:=
 (∃c k,Rd H a (.dK c)/\y=kV k/\r=dR c k)\/∃c k b,Rd H a (.dT c)/\y=.ref b/\H b=some (.tup (k.map kV))/\r=dR c k
def EL(H:Hp)(a:Addr)(y v:V)(H':Hp):Prop:=
 (∃c k,H a=some (.dK c)/\y=kV k/\c.length<sizeLine/\H'=upd H a (.dK (putK c k v)))\/
 ∃c k b,H a=some (.dT c)/\y=.ref b/\H b=some (.tup (k.map kV))/\c.length<sizeLine/\H'=upd H a (.dT (putK c k v))
theorem EL.k{H:Hp}{a:Addr}{kvs:a4d}{k:Key}{v:V}(e:H a=some (.dK kvs))(b:kvs.length<sizeLine):EL H a (kV k) v (upd H a (.dK (putK kvs k v))):=.inl ⟨kvs,k,e,rfl,b,rfl⟩
def EL.t{H:Hp}{a b:Addr}{kvs:a4G}{k:a4y}{v:V}(e:H a=some (.dT kvs))(c:H b=some (.tup (k.map kV)))(d:kvs.length<sizeLine):
  EL H a (.ref b) v (upd H a (.dT (putK kvs k v))):=.inr ⟨kvs,k,b,e,rfl,c,d,rfl⟩
def Inv.big(I:Inv X pins σ H s):sysModules<s.heap.objs.size:=by have h:mainGlobals<s.heap.objs.size:=(I.mod.glob.keeps I.bk).lt;exact a2C (by decide) h
def Bt(x:A.units+1<cLine)(I:Inv X pins σ H s)(g:tY H a y (some v))(q:RelV y u)(h:∀f r,Inv X pins σ H r->RelV v f->Q f r):
  wpAny (a4R X) A (getItem (.ref a) u) Q E s:=by
 rcases g with⟨m,k,e,i,l⟩|⟨m,k,b,e,i,w,l⟩
 .subst i;obtain⟨z,C,B,d,dd⟩:=Kx I.hok e;obtain⟨f,n,c⟩:=aU.some_of (v:=v) (o:=valueAt B k) (by rw[l];exact d.val k);exact wpAny_getItem_of (h8 q) dd.mapOf n (h f _ (I.tok _) c)
 .subst i;cases(show u=Value.ref b from q);obtain⟨z,C,D,d,dd⟩:=mS I.hok e;obtain⟨f,n,c⟩:=aU.some_of (v:=v) (o:=(atKey D k).map (·.2)) (by rw[l];exact d.val k);obtain⟨p,hp,j⟩:=a0c.mp n;refine wpAny_getItem_heap (a1z x) (br I.hok w) dd hp ?_;rw[j];exact h f _ (I.tok _) c
def za0(p:A.units+1<cLine)(I:Inv X pins σ H s)(g:tY H a y o)(m:RelV y u)(h:∀j,Inv X pins σ H j->Q (.bool o.isSome) j):
  wpAny (a4R X) A (compareOp .In u (.ref a)) Q E s:=by
 rcases g with⟨f,k,e,i,l⟩|⟨f,k,b,e,i,n,l⟩
 .subst i;obtain⟨z,d,r,c,dd⟩:=Kx I.hok e;refine wpAny_in_of (h8 m) d dd.mapOf ?_;rw[<- (c.val k).QX,<- l];exact h _ (I.tok _)
 .subst i;cases(show u=Value.ref b from m);obtain⟨z,d,v,c,dd⟩:=mS I.hok e;refine wpAny_in_heap (a1z p) (br I.hok n) d dd ?_;have q:=(c.val k).QX;rw[a1S]at q;rw[<- q,<- l];exact h _ (I.tok _)
def I_(p:A.units+1<cLine)(I:Inv X pins σ H s)(g:tY H a y o)(m:RelV y u)(h:∀j,Inv X pins σ H j->Q (.bool (!o.isSome)) j):
  wpAny (a4R X) A (compareOp .NotIn u (.ref a)) Q E s:=by
 rcases g with⟨f,k,e,i,l⟩|⟨f,k,b,e,i,n,l⟩
 .subst i;obtain⟨z,d,r,c,dd⟩:=Kx I.hok e;refine wpAny_notIn_of (h8 m) d dd.mapOf ?_;rw[<- (c.val k).QX,<- l];exact h _ (I.tok _)
 .subst i;cases(show u=Value.ref b from m);obtain⟨z,d,v,c,dd⟩:=mS I.hok e;refine wpAny_notIn_heap (a1z p) (br I.hok n) d dd ?_;have q:=(c.val k).QX;rw[a1S]at q;rw[<- q,<- l];exact h _ (I.tok _)
def pY(I:Inv X pins σ H s)(f:Mut (H a))(c:Heap.SameBut a s.heap h')(he:∃q,h'.get? a=some q)(new:qB X.prog X.w (upd H a ob) h' a ob)(g:X.m<=t':=by ac_rfl):
  Inv X pins σ (upd H a ob) { s with heap:=h',toks:=t' }:=
 I.write (x:=a) (e:=a) f (.inl rfl) (λb q d z=>(c.2 b d).trans z) he new
def tZ(z:kvs.length<=sizeLine)(c:(a==sysModules)=false)(b:KV kvs vs)(dd:h'.DictOf (yG P w) a vs):
  qB P w H' h' a (.dK kvs):=⟨z,c,vs,b,dd⟩
def Bu(N:A.units+1<cLine)(I:Inv X pins σ H s)(g:EL H a y v H')(B:RelV y u)(D:RelV v r)(h:∀F,Inv X pins σ H' F->Q () F):
  wpAny (a4R X) A (setItem (.ref a) u r) Q E s:=by
 rcases g with⟨d,k,e,m,l,w⟩|⟨d,k,b,e,m,C,l,w⟩
 .subst m w;obtain⟨z,p,R,f,dd⟩:=Oa I.hok e;have hz:R.length<=sizeLine:=by rw[<- f.length];exact z
  have o:(putK d k v).length<=sizeLine:=by have:=VZ d k v;omega
  refine wpAny_setItem_pairs (hsz:=hz) (h8 B) dd λx i n=>h _ ?_;have L:∃q,x.get? a=some q:=let⟨q,_,_,j,_⟩:=i;⟨q,j⟩
  exact pY I (by rw[e];exact True.intro) n L (tZ o p (f.put k D) i)
 .subst m w;cases(show u=Value.ref b from B);obtain⟨z,p,S,f,dd⟩:=SG I.hok e;have hz:S.length<=sizeLine:=by rw[<- a1M f];exact z
  have o:(putK d k v).length<=sizeLine:=by have:=VZ d k v;omega
  refine wpAny_setItem_heap (hsz:=hz) (a1z N) (br I.hok C) dd λx i n=>h _ ?_;obtain⟨q,M,P,j,G,O,K,_,J⟩:=i;refine pY I (by rw[e];exact True.intro) n ⟨q,j⟩ ⟨o,p,_,(f.put k C D).keeps λc T ec=>?_,q,M,P,j,G,O,K,J⟩;rw[zm (Se ec e (λz=>nomatch z))];exact ec
def SH(I:Inv X pins σ H s)(e:Rd H a (.dK kvs))(h:∀t c,Inv X pins σ H c->Q (.int kvs.length t) c):wpAny (a4R X) A (call (.builtin "len") [.ref a]) Q E s:=by obtain⟨z,d,f,b,dd⟩:=Kx I.hok e;refine call_len_dict d dd (by rw[<- b.length];rw[a06]at z;omega) ?_;rw[<- b.length];exact h _ _ (I.tok _)
def pZ(I:Inv X pins σ H s)(g:tY H a y o):s.TypeIs (.ref a) "dict":=by
 rcases g with⟨c,k,e,_,_⟩|⟨c,k,b,e,_,_,_⟩
 .obtain⟨_,_,d,_,dd⟩:=Kx I.hok e;exact dd.typeIs
 .obtain⟨_,_,f,_,dd⟩:=mS I.hok e;exact dd.typeIs
def SI(d g i:TE):TS:=λD b H=>i b H λv h=>d b h λx e=>g b e λy f=>∃a c,x=.ref a/\EL f a y v c/\D.nx b c
def p6(p:X.A.units+1<cLine)(d:PE X o td)(q:PE X i ty)(z:PE X value tv)(B:swapsWith value (some (.Subscript o i pos')) pos.line X.env=pure false):
  PS X (.Assign [.Subscript o i pos'] value pos) (SI td ty tv):=by
 intro b s c H D I h;refine wpAny_Assign_Subscript (thn (z b s c H _ I h) λr l ⟨v,C,M,G,K⟩=>thn (d b l c C _ M K) λu E ⟨x,J,F,m,e⟩=>thn (q b E c J _ F e) λP Q ⟨y,N,f,n,a,j,w,g,A⟩=>?_) B;subst w;obtain rfl:u=Value.ref a:=m;exact Bu p f g n G λO L=>⟨c,j,L,A⟩
def t4(h:Heap)(a:sysModules<h.objs.size):qB P w H (h.push { cls:=.type "dict",data:=.dict #[] }) h.objs.size (.dK []):=
 ⟨a0Y _,a0Z.mpr (Ne.symm (a0t a)),[],.nil,Heap.DictOf.new h⟩
def EO(h:Heap)(a:sysModules<h.objs.size):qB P w H (h.push { cls:=.type "dict",data:=.dict #[] }) h.objs.size (.dT []):=
 ⟨a0Y _,a0Z.mpr (Ne.symm (a0t a)),[],.nil,_,#[],0,a0x _ rfl,⟨rfl,rfl,rfl⟩,rfl,rfl,a2N⟩
def Ob:TE:=λ_ H Q=>∀p,H p=none->Q (.ref p) (upd H p (.dK []))
def Oc:TE:=λ_ H Q=>∀p,H p=none->Q (.ref p) (upd H p (.dT []))
def ER:PE X (.Dict [] [] pos) Ob:=λb s c H Q I h=>
 wpAny_Dict_empty ⟨.ref s.heap.objs.size,_,I.laid (a:=s.heap.objs.size) (o:=.dK []) (t':=s.toks) (λ_ _ q=>a0d _ q) (a0e _) (t4 s.heap I.big),rfl,h _ (I.hok.fresh (a0e _))⟩
def ES:PE X (.Dict [] [] pos) Oc:=λb s c H Q I h=>
 wpAny_Dict_empty ⟨.ref s.heap.objs.size,_,I.laid (a:=s.heap.objs.size) (o:=.dT []) (t':=s.toks) (λ_ _ q=>a0d _ q) (a0e _) (EO s.heap I.big),rfl,h _ (I.hok.fresh (a0e _))⟩
def Bv:List (TE×TE)->St->Hp->(List (V×V)->Hp->Prop)->Prop
 |[],_,H,Q=>Q [] H
 | (f,e)::r,a,H,Q=>f a H λx d=>e a d λy b=>Bv r a b λg c=>Q ((x,y)::g) c
abbrev VV:List (V×V)->List (Value×Value)->Prop:=Paired λp q=>RelV p.1 q.1/\RelV p.2 q.2
def PPs(X:Cx)(e:Pos)(c:List (Option Expr))(a:a44)(d:List (TE×TE)):Prop:=
 ∀(b:a38)(s:a42)(f:St)(H:Hp)(Q:List (V×V)->Hp->Prop),Inv X b f H s->Bv d f H Q->
  wpAny (a4R X) X.A (evalPairs (pairTrees c a X.env e)) (λi j=>∃h g,Inv X b f g j/\VV h i/\Q h g) X.xe s
def La:PPs X pos [] [] []:=λa s b H Q I h=>pairTrees_nil_walk ⟨[],H,I,.nil,h⟩
def ET(p:PE X k tk)(l:PE X v tv)(A:PPs X pos ks vs trs):
  PPs X pos (some k::ks) (v::vs) ((tk,tv)::trs):=λa s b H Q I h=>
 pairTrees_cons_walk (thn (p a s b H _ I h) λu f ⟨x,n,B,g,z⟩=>thn (l a f b n _ B z) λD o ⟨y,w,r,i,d⟩=>
  thn (A a o b w _ r d) λC E ⟨q,j,e,c,m⟩=>⟨(x,y)::q,j,e,.cons ⟨g,i⟩ c,m⟩)
def mT(kvs a:a4d):List (Key×V):=a.foldl (λb c=>putK b c.1 c.2) kvs
def KV.merge:∀{a:a4d}{d:a4B}{b:a4d}{c:a4B},KV a d->KV b c->KV (mT b a) (merged c d):=by
 intro a d b c r;unfold KV at r
 induction r generalizing b c with
 |nil=>intro q;exact q
 |@cons p q j i h t g=>
  intro f;have e:KV (putK b p.1 p.2) (stored c q.1 q.2):=by have:=f.put p.1 h.2;rw[<- h.1];exact this
  exact g e
theorem WD:∀(b a:a4d),(mT a b).length<=a.length+b.length
 |[],a=>by show a.length<=a.length+0;omega
 |p::r,a=>by have d:=WD r (putK a p.1 p.2);have c:=VZ a p.1 p.2;show(mT (putK a p.1 p.2) r).length<=_;rw[a0b];omega
theorem fO{P:a4b}{w:a4e}:∀{d:a4d}{f:List (Value×Value)},VV (d.map λg=>(kV g.1,g.2)) f->∃e,Carries (yG P w) f e/\KV d e
 |[],_,r=>by rw[a3T]at r;cases r;exact⟨[],True.intro,.nil⟩
 |p::d,_,r=>by
  rw[a0j]at r;cases r with
  |@cons a b l bs h t=>obtain⟨e,c,q⟩:=fO (P:=P) (w:=w) t;obtain⟨j,i⟩:=b;exact⟨(p.1,i)::e,⟨h8 h.1,rfl,c⟩,.cons ⟨rfl,h.2⟩ q⟩
def SJ(b:List (TE×TE)):TE:=λf H Q=>∀p,H p=none->Bv b f (upd H p (.dK [])) λe c=>c p=some (.dK [])/\∃a:List (Key×V),e=a.map (λd=>(kV d.1,d.2))/\a.length<=15/\Q (.ref p) (upd c p (.dK (mT [] a)))
def Lc(h:PPs X pos keys values trs)(f:keys.all (·.isSome)=true)(C:keys.length=values.length)(r:keys≠[])
  (j:keys.length<=15):PE X (.Dict keys values pos) (SJ trs):=by
 intro b s u H Q I q;have E:=I.hok.fresh (a0e s.heap.objs.size);have G:=I.laid (a:=s.heap.objs.size) (o:=.dK []) (h':=s.heap.push { cls:=.type "dict",data:=.dict #[] }) (t':=s.toks) (λ_ _ q=>a0d _ q) (a0e _) (t4 s.heap I.big);refine wpAny_Dict_walk (knd:=yG X.prog X.w) f C r j (thn (h b _ u _ _ G (q _ E)) λJ K ⟨L,M,m,i,e,d,A,N,p⟩=>?_);subst A;obtain⟨n,c,rk⟩:=fO (P:=X.prog) (w:=X.w) i;obtain⟨z,D,v,F,dd⟩:=Oa m.hok e;cases F;refine⟨n,c,dd,λl g B=>⟨.ref s.heap.objs.size,_,?_,rfl,p⟩⟩;have hz:(mT [] d).length<=sizeLine:=by have x:=WD d [];rw[a2a]at x;rw[a06];omega
 have y:∃q,l.get? s.heap.objs.size=some q:=let⟨q,_,_,hq,_⟩:=g;⟨q,hq⟩
 exact pY m (by rw[e];exact True.intro) B y (tZ hz D (rk.merge .nil) g)
structure M1(X:Cx)(o:a45)(m:Str)(jH:Pos)(e:a45)(Ze:Pos):Prop where
 base:attributeBase o m X.env (eval o X.env)=eval o X.env
 few:((backTo Ze (starEach [e] X.env)).all (λx=>!x.1)&&(backToKw Ze (keywordEach [] X.env)).all (λx=>x.1.isSome)
  && decide (([e]:List Expr).length+([]:List Keyword).length+(if([]:List Keyword).isEmpty then 0 else 1)<30))=true
 line:(jH.endLine==Ze.line)=true
 trees:backTo Ze (starEach [e] X.env)=[(false,eval e X.env)]
structure M2(X:Cx)(o:a45)(m:Str)(jH:Pos)(e f:a45)(Ze:Pos):Prop where
 base:attributeBase o m X.env (eval o X.env)=eval o X.env
 few:((backTo Ze (starEach [e,f] X.env)).all (λx=>!x.1)&&(backToKw Ze (keywordEach [] X.env)).all (λx=>x.1.isSome)
  && decide (([e,f]:List Expr).length+([]:List Keyword).length+(if([]:List Keyword).isEmpty then 0 else 1)<30))=true
 line:(jH.endLine==Ze.line)=true
 trees:backTo Ze (starEach [e,f] X.env)=[(false,eval e X.env),(false,eval f X.env)]
def IsD(H:Hp)(a:Addr):Prop:=(∃b,Rd H a (.dK b))\/∃b,Rd H a (.dT b)
def G8(I:Inv X pins σ H s)(d:IsD H a):
  s.TypeIs (.ref a) "dict"/\(∀b,Value.ref a=.ref b->∃ob,s.heap.get? b=some ob/\ob.dict=none)/\(a==sysModules)=false:=by
 rcases d with⟨f,e⟩|⟨f,e⟩
 .obtain⟨_,c,i,_,dd⟩:=Kx I.hok e;refine⟨dd.typeIs,λb q=>?_,c⟩;cases q;obtain⟨ob,_,_,h,g,_⟩:=dd;exact⟨ob,h,g.2.1⟩
 .obtain⟨_,c,j,_,dd⟩:=mS I.hok e;refine⟨dd.typeIs,λb q=>?_,c⟩;cases q;obtain⟨ob,_,_,h,g,_⟩:=dd;exact⟨ob,h,g.2.1⟩
def Od(q:A.units+1<cLine)(I:Inv X pins σ H s)(g:tY H a y o)(n:RelV y u)(h:∀j m,Inv X pins σ H m->RelV (o.getD .non) j->Q j m):
  wpAny (a4R X) A (call (.builtin "dict.get") [.ref a,u]) Q E s:=by
 rcases g with⟨f,k,e,i,l⟩|⟨f,k,b,e,i,p,l⟩
 .subst i;obtain⟨z,d,v,c,dd⟩:=Kx I.hok e;refine a25 a1r dd.typeIs a1Q (a3e _ _) (meets_dict_get (yG X.prog X.w) a (h8 n) d) ⟨_,dd.mapOf,h _ _ (I.tok _) ?_⟩;rw[l];exact(c.val k).getD rfl
 .subst i;cases(show u=Value.ref b from n);obtain⟨z,d,r,c,dd⟩:=mS I.hok e;refine a25 a1r dd.typeIs a1Q (a3e _ _) (meetsH_dict_get (tupleKind (yG X.prog X.w)) a b d) ⟨a1z q,k,r,br I.hok p,dd,h _ _ (I.tok _) ?_⟩;rw[l];exact(c.val k).getD rfl
def Oe(v:A.units+1<cLine)(I:Inv X pins σ H s)(g:tY H a y o)(p:RelV y u)(rd:RelV d r)(h:∀m n,Inv X pins σ H n->RelV (o.getD d) m->Q m n):
  wpAny (a4R X) A (call (.builtin "dict.get") [.ref a,u,r]) Q E s:=by
 rcases g with⟨i,k,e,j,l⟩|⟨i,k,b,e,j,q,l⟩
 .subst j;obtain⟨z,f,x,c,dd⟩:=Kx I.hok e;refine a25 a1r dd.typeIs a1Q (a3f _ _ _) (meets_dict_get_default (yG X.prog X.w) a (h8 p) f r) ⟨_,dd.mapOf,h _ _ (I.tok _) ?_⟩;rw[l];exact(c.val k).getD rd
 .subst j;cases(show u=Value.ref b from p);obtain⟨z,f,w,c,dd⟩:=mS I.hok e;refine a25 a1r dd.typeIs a1Q (a3f _ _ _) (meetsH_dict_get_default (tupleKind (yG X.prog X.w)) a b f r) ⟨a1z v,k,w,br I.hok q,dd,h _ _ (I.tok _) ?_⟩;rw[l];exact(c.val k).getD rd
def Of(e f:TE):TE:=λd H Q=>e d H λx c=>∃a,x=.ref a/\IsD c a/\f d c λy b=>∃o,tY b a y o/\Q (o.getD .non) b
def Og(e g h:TE):TE:=λb H Q=>e b H λx d=>∃a,x=.ref a/\IsD d a/\g b d λy f=>h b f λz c=>∃o,tY c a y o/\Q (o.getD z) c
def EU(z:X.A.units+1<cLine)(j:PE X o td)(he:PE X e ty)(m:M1 X o "get" jH e Ze):PE X (.Call (.Attribute o "get" jH) [e] [] Ze) (Of td ty):=by intro b s f H Q I h;refine wpAny_Call_method m.base m.few m.line a3g a1r a3t (thn (j b s f H _ I h) λu q ⟨x,B,i,r,a,A,d,E⟩=>?_);subst A;obtain rfl:u=Value.ref a:=r;obtain⟨l,w,_⟩:=G8 i d;refine⟨l,w,?_⟩;rw[m.trees];refine a2o rfl (a2B (a2e (thn (he b q f B _ i E) λK G ⟨y,D,C,v,F,g,n⟩=>a2Y ?_)));exact Od z C g v λJ L p c=>⟨_,D,p,c,n⟩
def EV(B:X.A.units+1<cLine)(l:PE X o td)(he:PE X e ty)(hf:PE X f tx)(m:M2 X o "get" jH e f Ze):PE X (.Call (.Attribute o "get" jH) [e,f] [] Ze) (Og td ty tx):=by
 intro b s i H Q I h;refine wpAny_Call_method m.base m.few m.line a3g a1r a3t (thn (l b s i H _ I h) λu r ⟨x,G,j,v,a,E,d,M⟩=>?_);subst E;obtain rfl:u=Value.ref a:=v;obtain⟨n,A,_⟩:=G8 j d;refine⟨n,A,?_⟩;rw[m.trees];refine a2o rfl (a2B (a2e (thn (he b r i G _ j M) λT J ⟨y,L,K,w,p⟩=>
  a2e (thn (hf b J i L _ K p) λO U ⟨z,C,q,D,R,g,F⟩=>a2Y ?_))))
 exact Oe B q g w D λS P N c=>⟨_,C,N,c,F⟩
def EW(I:Inv X pins σ H s)(e:Rd H a (.dK kvs))(h:∀p g,H p=none->Inv X pins σ (upd H p (.dK kvs)) g->Q (.ref p) g):wpAny (a4R X) A (call (.type "dict") [.ref a]) Q E s:=by obtain⟨z,i,m,c,dd⟩:=Kx I.hok e;refine kt_call_dict i dd (by rw[<- c.length];exact z) λl d j=>?_;refine h _ _ (I.hok.fresh (a0e _)) (I.laid (a:=s.heap.objs.size) (o:=.dK kvs) (t':=s.toks) (λb q f=>?_) (a0e _) (tZ z (a0Z.mpr (Ne.symm (a0t I.big))) c d));exact(j.2 b (a0t (a0i f))).trans (a0d _ f)
end L2
namespace Att
open PySem PySem.W PySem.Calls PyProof.Rows
def bt:∀(c:a4k)(d:a46),WellAll P h d (c.map WData.int)->IntsAre d c:=by
 intro c
 induction c with
 |nil=>intro d w;rw[a3T]at w;cases w;exact .nil
 |cons n c e=>
  intro d w;rw[a0j]at w;cases w with
  |cons a b=>cases a;exact .cons _ _ (e _ b)
def Bw{l:OpenLaw}{n:Nat}(z:l.most=some n){P:Params}{h:Heap}{args:List WData}{vals:a46}
  (c:l.row.toRowW.claim.pre args=true) (m:WellAll P h vals args):
  ∃a p b,vals=[Value.ref a]/\args=[WData.list (b.map WData.int)]/\h.get? a=some { cls:=.type "list",data:=.seq p.toArray }/\IntsAre p b/\b.length<=n:=by
 have j:WShape.hasAll [] args [.list .int]=true:=(pre_splitW c).1;have o:l.pre.holds [] { args:=args }=true:=(pre_splitW c).2;obtain⟨d,r,rfl,v,u⟩:=hasAllW_cons j;obtain rfl:=hasAllW_nil u;obtain⟨B,rfl,w⟩:=hasW_list v;obtain⟨b,rfl⟩:=items_int w;have f:b.length<=n:=by
  unfold OpenLaw.pre at o;have i:(WTm.not (.lt (.lit (.int (n:Int))) (.len (.arg 0)))).holds [] { args:=[.list (b.map .int)] }=true:=by have i:=(holds_andW o).1;rw[z]at i;exact i
  have g:=condW_of i (w_not (w_lt w_lit (w_len_list (w_arg rfl))));rw[v4]at g;refine Nat.le_of_not_lt λq=>?_;have y:(n:Int)<((b.length:Nat):Int):=by omega
  first
   | (rw[a0f y]at g;exact absurd g (by decide))
   | (simp at g;omega)
 cases m with
 |cons A x=>
  cases x;cases A with
  |list s e=>exact⟨_,_,b,rfl,rfl,s,bt b _ e,f⟩
def Bx(l:OpenLaw)(args:List WData):l.row.toRowW.claim.post args (.bool true) args=true:=
 postW_of (r:=l.row.toRowW) (X:=(true==true))
  (show WShape.has [] (.bool true) .bool=true by first|rfl|decide|simp[WShape.has,WShape.arms,WShape.armsAll])
  (show(WTm.eq .res (.lit (.bool true))).value [] { args:=args,res:=some (.bool true),after:=args }=some (.bool (true==true))from w_eq_bool (w_res rfl) w_lit) rfl
def p7{l:OpenLaw}{n:Nat}{q:a4b}{c:a40}{D:(Str->Option Value)->Heap->Prop}{F:World->Heap->Prop}{d:DefRec}
  (S:l.most=some n) (y:d.params.defaults=[])
  (call:∀(w:a4e)(e b:a42)(u A:a37)(fa:Addr)(o:Obj)(x cd g:Value)(a:Addr) (i:a46) (s:a4k),
   Ground q c [] D w e u A b.heap->F w b.heap->
   b.heap.get? fa=some o->o.data=.func (docDef d.name d.params d.body d.scope x cd g)->b.heap.CodeRec cd d.name->u d.name=some (.ref fa)->
   b.heap.get? a=some { cls:=.type "list",data:=.seq i.toArray }->IntsAre i s->s.length<=n->b.gens = #[]->
   codeAny (model l.prog w) callerA (.call (.ref fa) ⟨[.ref a],[]⟩) (λr v=>r=.ok (.ret (.bool true))/\OldK b.heap v.heap/\v.os=b.os/\AllBare v.gens) b):
  WalkO q c D F l.row.toRowW d [] (λf i=>PySem.call f i):=by
 intro w e b u A G Y fa o x cd g R kV I Q C hD z P args H U j E K B M;obtain rfl:R=.none:=Dflts.none hD y;obtain rfl:kV=.none:=Dflts.noKw hD;obtain⟨a,i,s,rfl,rfl,p,h,m⟩:=Bw S j B;refine enter_call (a1V (call w e b u A fa o x cd g a i s G Y I (fd_plain Q) C z p h m P) λr v L=>?_);obtain⟨rfl,J,O,N⟩:=L;exact⟨.inl ⟨.bool true,.bool true,[],rfl,λ_=>rfl,.bool true,Bx l _,λ_=>⟨List.Pairwise.nil,λ_ T=>(nomatch T)⟩⟩,J,O,N⟩
end Att
namespace L2
open PySem PySem.Spec PyProof.Rows
theorem mU:∀{a:a46}{b:a4k},IntsAre a b->Vals (b.map V.int) a
 |_,_,.nil=>.nil
 |_,_,.cons n t h=>.cons ⟨t,rfl⟩ (mU h)
def SK(H:Hp):Prop:=∀b,H b=none\/∃o a,H b=some (.frz o (.lst a))
def EX{P:a4b}{w:a4e}{K:a48}{I S:a37}{CX:CXT}{k:Nat}{fa a:Addr}{W:a4j}{x:Str}{sp:Sp}{c:a42}{vs:a46}{ns:a4k}
  (Y:K.In c.heap) (J:c.heap.Ns mainGlobals I) (g:c.heap.Ns builtinsNs S) (Q:∀x:Str,x≠"__name__"->S x=bootBuiltins x) (E:c.heap.NoLimit) (hg:c.gens = #[])
  (N:c.heap.get? a=some { cls:=.type "list",data:=.seq vs.toArray }) (Z:IntsAre vs ns) (hl:ns.length<=sizeLine) (hr:v8 k callerA)
  (F:∀i:Heap,K.In i->i.Ns mainGlobals I->yF P w K I i CX k fa W [x] sp) (y:∀(s:a42)(u:Value),BindsTo s W ⟨[u],[]⟩ [(x,u)])
  (hsp:∀H:Hp,SK H->SqL K H a (ns.map V.int)->sp [.ref a] H (λv _=>v=.bl true) λ_ _ _=>False)
  (R:∀H e j,CX [] H c (λ_ _ _=>False) e j->False):
  codeAny (model P w) callerA (.call (.ref fa) ⟨[.ref a],[]⟩) (λr j=>r=.ok (.ret (.bool true))/\OldK c.heap j.heap/\j.os=c.os/\AllBare j.gens) c:=by
 have rv:=mU Z;have MF:=Z.length
 -- from an abstract heap in which nothing but the script may be tracked
 have p:∀H:Hp,SK H->SqL K H a (ns.map V.int)->HOk P w H c.heap->(∀b,H b≠none->b=a)->(H a≠none->K.lookup a=none)->
   codeAny (model P w) callerA (.call (.ref fa) ⟨[.ref a],[]⟩) (λr j=>r=.ok (.ret (.bool true))/\OldK c.heap j.heap/\j.os=c.os/\AllBare j.gens) c:=by
  intro H X hS B hA hK;have f:∀{b:Addr}{o:Obj},c.heap.get? b=some o->H b=none->(EA c.heap H).get? b=some o:=λe n=>EB e n;have O:∀{b:Addr}{o:Obj}{D:Array DictEntry}{G:Nat},c.heap.get? b=some o->o.data=.dict D G->H b=none:=λ{b o D G} e d=>by
   cases q:H b with
   |none=>rfl
   |some u=>have T:b=a:=hA b (by rw[q];simp);subst T;rw[N]at e;cases e;have d':Data.seq vs.toArray _=Data.dict D G:=d;cases d'
  have l:∀{b:Addr}{m:a37},c.heap.Ns b m->(EA c.heap H).Ns b m:=λ{b m} ⟨o,D,G,e,d,r⟩=>⟨o,D,G,f e (O e d),d,r⟩;have L:K.In (EA c.heap H):=λb o e=>f (Y b o e) (by
   cases q:H b with
   |none=>rfl
   |some u=>
    have T:b=a:=hA b (by rw[q];simp);subst T;rw[hK (by rw[q];simp)]at e;cases e)
  have hM:Mod K I (EA c.heap H):=⟨L,l J,⟨S,l g,Q⟩,let⟨mc,h1,h2⟩:=E;⟨mc,l h1,h2⟩⟩;have e0:Er P w K I (EA c.heap H) callerA [] c H:=⟨rfl,hM,λb o e=>IC e,a2A (A7 _ _),trivial,λb g=>absurd (show b∈([]:List Addr)from g) (by simp),B,.of_eq hg⟩;refine a1V ((F _ L (l J)).run callerA [] c H ⟨[.ref a],[]⟩ [.ref a] [.ref a] _ _ hr e0 (y c (.ref a)) (.cons rfl .nil) (hsp H X hS)) λr j h=>?_;cases r with
  |error e=>exact(R H e j h).elim
  |ok fl=>
   cases fl with
   |next=>exact False.elim h
   |brk=>exact False.elim h
   |cont=>exact False.elim h
   |ret u=>
    obtain⟨v,H',os,A,un,C,r',q⟩:=h;have q':v=.bl true:=q;subst q';obtain rfl:u=Value.bool true:=r';refine⟨rfl,OldK.of_keep λb o e=>?_,os,A⟩;cases q:H b with
    |none=>exact un.keep b o e q (by intro z;exact absurd (show b∈([]:List Addr)from z) (by simp)) (by simp)
    |some u=>
     rcases X b with z|⟨ob,xs,z⟩
     .rw[q]at z;cases z
     .have z2:=un.GB b ob _ z;obtain⟨e1,_⟩:=B b _ z;obtain⟨e2,_⟩:=C b _ z2;rw[e]at e1;cases e1;exact e2
 cases U:K.lookup a with
 |some o=>
  -- the script is one of the module's own objects
  have e:=Y a o U;rw[N]at e;cases e;refine p (λ_=>none) (λ_=>.inl rfl) (.inr ⟨_,vs.toArray,_,U,rfl,rfl,rfl,by rw[a0o,MF];exact hl,by simpa using rv⟩) (λb u z=>by have M:(none:Option HO)=some u:=z;cases M) (λb z=>absurd rfl z) λz=>absurd rfl z
 |none=>
  refine p (λb=>if b=a then some (.frz { cls:=.type "list",data:=.seq vs.toArray } (.lst (ns.map V.int)))else none) (λb=>?_) (.inl (.inr ⟨{ cls:=.type "list",data:=.seq vs.toArray },if_pos rfl⟩)) (λb u z=>?_) (λb z=>?_) λ_=>U
  .by_cases g:b=a
   .exact .inr ⟨_,_,if_pos g⟩
   .exact .inl (if_neg g)
  .by_cases g:b=a
   .have M:=(if_pos g).symm.trans z;cases M;subst g;exact⟨N,by rw[v4];exact hl,vs,_,rv,N⟩
   .have M:=(if_neg g).symm.trans z;cases M
  .by_cases g:b=a
   .exact g
   .exact absurd (if_neg g) z
def Ld{l:PySem.W.OpenLaw}{n k:Nat}{q:a4b}{g:a40}{O:(Str->Option Value)->Heap->Prop}{J:World->Heap->Prop}{d:DefRec}{K:Params->PySem.W.Frag}{CX:World->CXT}{sp:World->Sp}{x:Str}
  (T:l.most=some n) (C:n<=sizeLine) (z:d.params.defaults=[]) (U:v8 k callerA)
  (S:∀(w:a4e)(h:Heap),J w h->(K w.params).In h)
  (F:∀(w:a4e)(j:a37)(fa:Addr)(h:Heap),(K w.params).In h->h.Ns mainGlobals j->j d.name=some (.ref fa)->
   ∃y:FuncData,(∀(s:a42)(u:Value),BindsTo s y ⟨[u],[]⟩ [(x,u)])/\
    ∀b:Heap,(K w.params).In b->b.Ns mainGlobals j->yF l.prog w (K w.params) j b (CX w) k fa y [x] (sp w))
  (hsp:∀(w:a4e)(H:Hp)(a:Addr)(r:a4k),r.length<=n->SK H->SqL (K w.params) H a (r.map V.int)->sp w [.ref a] H (λv _=>v=.bl true) λ_ _ _=>False)
  (B:∀(w:a4e)(H:Hp)(s:a42)(e:Value)(D:a42),CX w [] H s (λ_ _ _=>False) e D->False):
  PySem.W.WalkO q g O J l.row.toRowW d [] (λf I=>PySem.call f I):=by
 refine Att.p7 T z λw L m j mb fa o X cd P a I r G Y Z hd W A p i c Q=>?_;have E:=S w _ Y;obtain⟨y,R,hF⟩:=F w j fa _ E G.T.g A;exact EX E G.T.g G.T.b G.T.builtins G.T.nolimit Q p i (a0y c C) U hF R (λH M N=>hsp w H a r c M N) λH e D=>B w H m e D
def inClass(s:a4z)(j:Nat):Stmt:=match s with
 |.ClassDef _ _ _ a _ _ _ _ _ _ _=>a.getD j (.Pass ⟨0,0,0,0⟩)
 |_=>.Pass ⟨0,0,0,0⟩
def bu(s:a4z):Arguments:=match s with
 |.FunctionDef _ a _ _ _ _ _ _ _ _=>a
 |_=>{ posonlyargs:=[],args:=[],vararg:=none,kwonlyargs:=[],kw_defaults:=[],kwarg:=none,defaults:=[] }
def YI(s:a4z):List Stmt:=match s with
 |.FunctionDef _ _ b _ _ _ _ _ _ _=>b
 |_=>[]
def zg(s:a4z):Scope:=match s with
 |.FunctionDef _ _ _ _ _ _ a _ _ _=>a
 |_=>{ kind:=.function,names:=[],isGenerator:=false,isCoroutine:=false }
abbrev E0:XK:=λ_ _ _=>False
structure Fun(K:a48)(x qual:Str)(st:a4z)(f:Addr)(fd:a4j):Prop where
 ex:∃(oc:Value)(od:a4v)(kV doc pm:Value)(an:a4v)(cdv ct:Value)(osl:a4t),
  fd=PySem.W.fnOf x qual (bu st) (YI st) (zg st) .none kV doc pm an cdv ct/\K.lookup f=some ⟨oc,od,.func fd,osl⟩/\PySem.W.codeIn K cdv qual=true
 kp:PySem.W.keepIn K (.ref f)=true
section
variable {K:a48}
def Fun.binds{x a:Str}{st:a4z}{f:Addr}{j:a4j}{i:a40}(F:Fun K x a st f j)
  (h:∀(kV b d:Value)(g:a4v)(c ct:Value)(e:a46),e.length=i.length->bindArgs (PySem.W.fnOf x a (bu st) (YI st) (zg st) .none kV b d g c ct) ⟨e,[]⟩=pure (i.zip e)):Binds K j i []:=by
 obtain⟨o,n,kV,b,d,g,c,ct,m,rfl,p,l⟩:=F.ex;exact .all (h kV b d g c ct)
def G9{x a:Str}{st:a4z}{f:Addr}{i:Value}{od h:a4v}{e:a4t}{kV d g b ct:Value}(l:K.lookup f=some ⟨i,od,.func (PySem.W.fnOf x a (bu st) (YI st) (zg st) .none kV d g h b ct),e⟩)
  (c:PySem.W.codeIn K b a=true) (k:PySem.W.keepIn K (.ref f)=true):Fun K x a st f (PySem.W.fnOf x a (bu st) (YI st) (zg st) .none kV d g h b ct):=⟨⟨i,od,kV,d,g,h,b,ct,e,rfl,l,c⟩,k⟩
end
def qY(a:v8 k A):A.units+1<cLine:=a1O (Nat.add_le_add_left (by decide:1<=64) _) a.units
def pv(i:Nat)(d:X.N[i]?=some x:=by rfl)(c:Vis X.env.scope x:=by first|exact Or.inl rfl|exact Or.inr (Or.inl rfl)|exact Or.inr (Or.inr rfl))(b:(x==("__debug__":Str))=false:=by decide)
  (a:(x==("__classdict__":Str))=false:=by decide):PE X (.Name x pos) (tR i):=NF d c b a
def G_{A B:Prop}(h:B):if false=true then A else B:=by rw[if_neg a0q];exact h
def Ha{A B:Prop}(h:A):if true=true then A else B:=by rw[if_pos rfl];exact h
def zH(H H':Hp):Prop:=∀b o,H b=some o->H' b=some o
def zH.refl(H:Hp):zH H H:=λ_ _ h=>h
def zH.trans(a:zH H H1)(b:zH H1 H2):zH H H2:=λc o h=>b c o (a c o h)
end L2
set_option maxHeartbeats 4000000
namespace L2
open PySem PySem.Spec PyProof.Rows PySem.W
def vg:List Value:=[.type "ValueError",.type "Exception",.type "BaseException",.type "object"]
def mV:List Value->List Value
 |.ref _::r=>mV r
 |l=>l
structure QT(K:a4p)(C:Addr):Prop where
 over:(clsIn K C).any (λcd=>mV cd.mro==vg && !cd.mro.isEmpty&&cd.hasDict)=true
 sa:findIn K (.ref C) "__setattr__"=some (some (.builtin "object.__setattr__"))
 ga:findIn K (.ref C) "__getattribute__"=some (some (.builtin "BaseException.__getattribute__"))
 gn:findIn K (.ref C) "__getattr__"=some none
 ty:typeIn K (.ref C)=some (.type "type")
theorem Uu(a:Value):∀l:List Value,mV l=vg->refuseLoop a "__setattr__" l=pure ()
 |[],e=>by cases e
 |.ref c::r,e=>by rw[refuseLoop_ref];exact Uu a r e
 |.type n::r,e=>by rw[show Value.type n::r=vg from e];exact PySem.F.store_ValueError.passes a
 |.none::r,e=>by cases e
 |.bool _::r,e=>by cases e
 |.int _ _::r,e=>by cases e
 |.str _ _::r,e=>by cases e
 |.bytes _ _::r,e=>by cases e
 |.float _ _::r,e=>by cases e
 |.builtin _::r,e=>by cases e
 |.ellipsis::r,e=>by cases e
 |.notImplemented::r,e=>by cases e
theorem mW{x:String}(a:vg.contains (.type x)=true):∀l:List Value,mV l=vg->l.contains (.type x)=true
 |[],e=>by cases e
 |.ref c::r,e=>by rw[List.contains_cons,mW a r e,Bool.or_true]
 |.type n::r,e=>by rw[show Value.type n::r=vg from e];exact a
 |.none::r,e=>by cases e
 |.bool _::r,e=>by cases e
 |.int _ _::r,e=>by cases e
 |.str _ _::r,e=>by cases e
 |.bytes _ _::r,e=>by cases e
 |.float _ _::r,e=>by cases e
 |.builtin _::r,e=>by cases e
 |.ellipsis::r,e=>by cases e
 |.notImplemented::r,e=>by cases e
theorem QT.cd{K:a4p}{C:Addr}(c:QT K C):∃cd,clsIn K C=some cd/\mV cd.mro=vg/\cd.mro.isEmpty=false/\cd.hasDict=true:=by obtain⟨cd,a,h⟩:=any_some c.over;simp only[Bool.and_eq_true,beq_iff_eq,Bool.not_eq_true']at h;exact⟨cd,a,h.1.1,h.1.2,h.2⟩
def QT.sub{K:a4p}{C:Addr}(c:QT K C){x:String}(b:vg.contains (.type x)=true):mroIn K C (.type x)=some true:=by obtain⟨cd,a,d,e,_⟩:=c.cd;unfold mroIn;rw[a,Option.bind_some,if_neg (by rw[e];decide),mW b _ d]
def ql(C:Addr)(od:a4v)(t:Addr)(T:Value)(sl:a4t):Obj:=⟨.ref C,od,.fields #[.ref t,T,.none,.none,.bool false,.none],sl⟩
section
variable {prog:a4b}{w:a4e}{A:a4i}{E:a41}{s:a42}{K:a4p}{x dx C t:Addr}{T:Value}{sl:a4t}{mA:a37}{name:Str}{v:Value}{R:Result->Shared->Prop}
def t5(X:K.In s.heap)(c:QT K C)(I:InstAt s.heap x (ql C od t T sl) C oo)(p:takerIn K C name=some none)
  (h:∀b,wpAny (model prog w) A.in1 (Builtin.ObjectAttr.storeInOwnDict (.ref x) (.ref C) (.str name tk) name v b)
   (λj i=>match j with | .done f=>R (.ok f) i | .again l=>l.quiet=true/\codeAny (model prog w) A l R i) (λe i=>R (.error e) i) s):
  codeAny (model prog w) A (.call (.builtin "object.__setattr__") ⟨[.ref x,.str name tk,v],[]⟩) R s:=by
 have g:=PySem.F.store_object;obtain⟨cd,o,m,z,_⟩:=c.cd;have sub:Looks (model prog w) s.heap (isInstance (.ref x) (.type "object")) true:=I.type.andThen (a3q X (c.sub (x:="object") (by decide)));refine a10 g.slot.plain g.entry (@check_slot (model prog w) _ _ s "object.__setattr__" "object" "__setattr__" (.ref x) [.str name tk,v] [] _ g.kind g.split sub (g.args (.ref x) (.str name tk) v) ?_);obtain⟨d,n,y⟩:=a0B.mp p;have u:Looks (model prog w) s.heap (mroOf (.ref C)) cd.mro:=(a34 X o).andThen .now;have r:Looks (model prog w) s.heap (Builtin.ObjectAttr.storeTaker? d) none:=by
  cases d with
  |none=>exact .now
  |some a=>
   obtain⟨b,q,e⟩:=a0c.mp y;refine(looks_takesIn X q).andThen ?_;cases b with
   |true=>cases e
   |false=>exact .now
 rw[osa_eq,refuse_eq];refine f8 (f8 (I.type.here (f8 (u.here ?_))));rw[Uu _ _ m];refine a0h (f8 (I.type.here (f8 ((a2D X n).here (f8 (r.here ?_))))));exact h _
def xT(X:K.In s.heap)(c:QT K C)(i:s.heap.get? x=some (ql C none t T sl))(F:takerIn K C name=some none)
  (h:∀a,a.get? x=some (ql C (some s.heap.objs.size) t T sl)->a.Ns1 s.heap.objs.size (λy=>if y=name then some v else none)->
   (∀b o,b≠x->s.heap.get? b=some o->a.get? b=some o)->Q () { s with heap:=a,toks:=s.toks+2 }):
  wpAny (model prog w) A (setAttr (.ref x) name v) Q E s:=by
 have I:InstAt s.heap x (ql C none t T sl) C none:=⟨i,rfl,rfl,trivial⟩;refine set_plain X I c.sa (t5 (s:={ s with toks:=s.toks+1 }) X c I F λb=>?_);obtain⟨cd,z,_,_,H⟩:=c.cd;have f:x≠s.heap.objs.size:=a0t (a0i i);have d:(s.heap.push emptyDict).get? x=some (ql C none t T sl):=a0d _ i;refine f8 (a0h (f8 (f8 (a2k i (f8 (Looks.here (s:={ s with toks:=s.toks+1 }) (a34 X z) ?_))))));rw[H];refine f8 (wpAny_alloc' (f8 (wpAny_update' d (a0h ?_))));have m:((s.heap.push emptyDict).update x λo=>{ o with dict:=some s.heap.objs.size }).get? x=some (ql C (some s.heap.objs.size) t T sl):=a1g _ d rfl;have q:((s.heap.push emptyDict).update x λo=>{ o with dict:=some s.heap.objs.size }).get? s.heap.objs.size=some emptyDict:=(a2K _ _ _ _ f.symm).trans (Heap.get?_push_at rfl rfl);have p:((s.heap.push emptyDict).update x λo=>{ o with dict:=some s.heap.objs.size }).Ns s.heap.objs.size (λ_=>none):=⟨_,#[],_,q,rfl,λe u=>absurd u (by simp),λ_=>rfl⟩;refine f8 (a0h (f8 ?_));refine a3R (s:={ s with heap:=(s.heap.push emptyDict).update x λo=>{ o with dict:=some s.heap.objs.size },toks:=s.toks+1 }) (Heap.Ns1.of_empty p) λa g r=>?_;obtain⟨J,B,D,n,j,l⟩:=g.count (a2X name v PySem.Within.nil);refine f8 (a23 n (by rw[j];exact a24 (a0y l (by rw[a0b,a2a,a06];omega))) ?_);refine a0h (h _ ((r.2 _ f).trans m) g λb o G e=>?_);exact(r.2 _ (a0t (a0i e))).trans ((a2K _ _ _ _ G).trans (a0d _ e))
def By(X:K.In s.heap)(c:QT K C)(m:s.heap.get? x=some (ql C (some dx) t T sl))(n:s.heap.Ns1 dx mA)(o:dx≠x)(B:takerIn K C name=some none)
  (z:PySem.Within mA ns) (hsz:ns.length<=sizeLine)
  (h:∀e,e.Ns1 dx (λy=>if y=name then some v else mA y)->Heap.SameBut dx s.heap e->Q () { s with heap:=e,toks:=s.toks+2 }):
  wpAny (model prog w) A (setAttr (.ref x) name v) Q E s:=by
 obtain⟨p,l,_⟩:=bp n;have I:InstAt s.heap x (ql C (some dx) t T sl) C (some p):=⟨m,rfl,rfl,l⟩;refine set_plain X I c.sa (t5 (s:={ s with toks:=s.toks+1 }) X c I B λb=>?_);obtain⟨cd,q,_,_,D⟩:=c.cd;refine f8 (a0h (f8 (f8 (a2k m (f8 (Looks.here (s:={ s with toks:=s.toks+1 }) (a34 X q) ?_))))));rw[D];refine a0h (a:=some dx) (f8 (a0h (f8 ?_)));refine a3R (s:={ s with toks:=s.toks+1 }) n λe d j=>?_;obtain⟨F,r,u,i,f,g⟩:=d.count (a2X name v z);refine f8 (a23 i (by rw[f];exact a24 (a0y g (by rw[a0b];omega))) ?_);exact a0h (h _ d j)
end
def strKeys(es:Array DictEntry):Bool:=es.toList.all λe=>match e.key with | .str _ _=>true|_=>false
def mX(K:a4p):List Value->Bool
 |.ref a::r=>(match K.lookup a with
   |some ⟨_,_,.cls cd,_⟩=>(match K.lookup cd.ns with
     |some ⟨_,_,.dict b _,_⟩=>strKeys b&&(b.toList.all λe=>!e.key.isStr "__init__")
     |_=>false)
   |_=>false)&&mX K r
 |l=>l==vg
def xU{h:Heap}{N:Addr}{c:Value}{dd:a4v}{es:Array DictEntry}{ep:Nat}{sl:a4t}(e:h.get? N=some ⟨c,dd,.dict es ep,sl⟩)(k:strKeys es=true)
  (b:(es.toList.all λe=>!e.key.isStr "__init__")=true):∃m,h.Ns N m/\m "__init__"=none:=by
 refine⟨λn=>nsFind es n,⟨_,es,ep,e,rfl,λx a=>?_,λ_=>rfl⟩,?_⟩
 .have q:=a1d.mp k x (a3A.mpr a);split at q
  .rename_i n t d;exact⟨n,t,d⟩
  .cases q
 .show nsFind es "__init__"=none;unfold nsFind findBy;rw[<- a3Q,List.find?_eq_none.mpr λx a=>by simpa using a1d.mp b x a];rfl
theorem Bz{K:a4p}{h:Heap}(X:K.In h):∀l:List Value,mX K l=true->OwnTail h vg l
 |.ref a::r,e=>by
  unfold mX at e;obtain⟨b,p⟩:=a3C.mp e;split at b
  .rename_i c dd cd x o;split at b
   .rename_i v g u w j f;obtain⟨q,i⟩:=a3C.mp b;obtain⟨m,s,d⟩:=xU (X _ _ f) q i;exact .own (X _ _ o) s d (Bz X r p)
   .cases b
  .cases b
 |[],e=>by cases e
 |.type n::r,e=>by rw[show Value.type n::r=vg from a0I.mp e];exact .base
 |.none::r,e=>by rw[show Value.none::r=vg from a0I.mp e];exact .base
 |.bool _::r,e=>by rw[a0I.mp e];exact .base
 |.int _ _::r,e=>by rw[a0I.mp e];exact .base
 |.str _ _::r,e=>by rw[a0I.mp e];exact .base
 |.bytes _ _::r,e=>by rw[a0I.mp e];exact .base
 |.float _ _::r,e=>by rw[a0I.mp e];exact .base
 |.builtin _::r,e=>by rw[a0I.mp e];exact .base
 |.ellipsis::r,e=>by rw[a0I.mp e];exact .base
 |.notImplemented::r,e=>by rw[a0I.mp e];exact .base
structure XMk(K:a4p)(C f:Addr):Prop where
 cls:∃nm q N bs bm sn sub ab col dd k0 k1 k2 k3 k5,K.lookup C=some (excClassObj nm q C N bs bm true sn sub ab col dd k0 k1 k2 k3 k5 "ValueError.__new__")/\mX K bm=true
 init:findIn K (.ref C) "__init__"=some (some (.ref f))
 fn:typeIn K (.ref f)=some (.type "function")
 kp:keepIn K (.ref C)=true
section
variable {prog:a4b}{w:a4e}{A:a4i}{E:a41}{K:a4p}{C f:Addr}{h:Heap}{g:Array GenState}{d:Drawn}{t:Nat}{os:OsState}
def Hb(rest:a46):Obj:={ cls:=.type "tuple",data:=.seq rest.toArray }
def SN{rest:a46}{Q:a41}(M:XMk K C f)(X:K.In h)(hrest:rest.length<=sizeLine)
  (hq:codeAny (model prog w) (A.under (.builtin "type.__call__" ⟨.ref C::rest,[]⟩)) (.call (.ref f) ⟨.ref (h.objs.size+1)::rest,[]⟩) (λr s'=>match r with | .ok (.ret v)=>v=.none/\Q (.ref (h.objs.size+1)) s' | .ok _=>False | .error e=>E e s')
   ⟨(h.push (Hb rest)).push (ql C none h.objs.size .none #[]),g,d,t,os⟩):
  wpAny (model prog w) A (call (.ref C) rest) Q E ⟨h,g,d,t,os⟩:=by
 obtain⟨nm,q,N,bs,bm,sn,sub,ab,col,dd,k0,k1,k2,k3,k5,hK,hT⟩:=M.cls;have hC:=X _ _ hK;have T:=Bz X _ hT;have F:=PySem.F.excBase_ValueError;have f1:=tc_lookup;have f2:=tc_bind (.ref C);have hTy:(⟨h,g,d,t,os⟩:Shared).TypeIs (.ref C) "type":=⟨_,hC,rfl⟩;refine a1N (codeAny_of_tree ?_);show wpAny _ _ (callAny (.ref C) _) _ _ _
 repeat(any_goals(first|assumption|with_reducible refine wpAny_loadPart_at hC ?_|wp_step))
 refine And.intro rfl (codeAny_call_builtin_at (a3U _ (by decide +kernel)) entry_typeCall (wpAny_check_type_call_sub hC ?_))
 repeat(first|with_reducible refine wpAny_loadPart_at hC ?_|with_reducible refine wpAny_madeBy_exc hC ?_|wp_step)
 refine codeAny_call_builtin_code (a3U _ F.quiet) (wpAny_check_new_subT F T hC (codeAny_exc_new_subT F T hC ?_ hrest));show wpAny _ _ _ _ _ ⟨(h.push (Hb rest)).push (ql C none h.objs.size .none #[]),g,d,t,os⟩;have kp:∀b o,h.get? b=some o->((h.push (Hb rest)).push (ql C none h.objs.size .none #[])).get? b=some o:=λb o e=>a0d _ (a0d _ e);have hx:((h.push (Hb rest)).push (ql C none h.objs.size .none #[])).get? (h.objs.size+1)=some (ql C none h.objs.size .none #[]):=by heap_get
 have X1:K.In ((h.push (Hb rest)).push (ql C none h.objs.size .none #[])):=X.keeps kp;have t1:Looks (model prog w) ((h.push (Hb rest)).push (ql C none h.objs.size .none #[])) (typeOf (.ref (h.objs.size+1))) (.ref C):=(Looks.ld hx).andThen .now;have s1:Looks (model prog w) ((h.push (Hb rest)).push (ql C none h.objs.size .none #[])) (isSubtype (.ref C) (.ref C)) true:=a3q X1 (by
  unfold mroIn clsIn;rw[hK];simp)
 have i1:=a2D (M:=model prog w) X1 M.init;have b1:=bind_fn (M:=model prog w) X1 (.ref (h.objs.size+1)) M.fn;unfold isInstance callSpecial? specialOf
 repeat(first|with_reducible refine a1N ?_|lk)
 refine a1V hq λr s' z=>?_;rcases r with e|(v|_|_|_)<;>first|exact z|exact z.elim|skip
 obtain⟨rfl,z⟩:=z;exact a0h (a0h z)
end
def XO(e C:Addr)(od:a4v)(T:Value):HO:=.ext λh=>∃t a,h.get? e=some (ql C od t T a)
def XD(b:Addr)(fs:a4o):HO:=.ext λh=>∃a,h.Ns1 b a/\(∀f,aU (fs.lookup f) (a f))/\PySem.Within a (fs.map (·.1))/\fs.length<=1000
def XO.ok(x:h.get? e=some (ql C od t T sl)):qB P w H h e (XO e C od T):=
 ⟨⟨t,sl,x⟩,⟨_,x⟩,λ_ _ ⟨b,a,p⟩ k=>⟨b,a,k _ p⟩⟩
def XO.get(x:qB P w H h e (XO e C od T)):∃t a,h.get? e=some (ql C od t T a):=x.1
def XD.ok(n:h.Ns1 dx mA)(r:∀f,aU (fs.lookup f) (mA f))(e:PySem.Within mA (fs.map (·.1)))(l:fs.length<=1000):qB P w H h dx (XD dx fs):=by refine⟨⟨mA,n,r,e,l⟩,?_,λi g ⟨m,⟨o,b,c,a,q⟩,d⟩ k=>⟨m,⟨o,b,c,k _ a,q⟩,d⟩⟩;obtain⟨o,b,c,a,_⟩:=n;exact⟨o,a⟩
def XD.get(x:qB P w H h dx (XD dx fs)):∃a,h.Ns1 dx a/\(∀f,aU (fs.lookup f) (a f))/\PySem.Within a (fs.map (·.1))/\fs.length<=1000:=x.1
def Inv.Le(I:Inv X pins σ H s)(he:H e=some (XO e C od T))(ch:a4w)(d:∀b∈ch,X.s₀.heap.objs.size<=b/\H b=none/\b≠X.env.locals/\(∀x c,X.env.cells.lookup x=some c->c≠b)/\∀p∈X.pn++pins,p.1≠b)
  (keep:∀b o,b≠e->b∉ch->b∉frs X.stack->s.heap.get? b=some o->h'.get? b=some o)
  (i:∀b o,b∈frs X.stack->s.heap.get? b=some o->∃g,h'.get? b=some { o with slots:=g })
  (L:∃t g,h'.get? e=some (ql C od t T' g)):Inv X pins σ (upd H e (XO e C od T')) { s with heap:=h' }:=by
 have w:∀b,H b=none->b≠e:=λb n z=>by rw[z,he]at n;cases n
 have D:∀b o,H b=some o->b∉frs X.stack:=λb o q z=>by rw[I.gS b z]at q;cases q
 have E:∀b o,H b=some o->b∉ch:=λb o q z=>by rw[(d b z).2.1]at q;cases q
 obtain⟨N,G,l⟩:=L;have any:∀b o,b∉ch->b≠e->s.heap.get? b=some o->∃g,h'.get? b=some { o with slots:=g }:=λb o h y q=>by
  by_cases hf:b∈frs X.stack
  .exact i b o hf q
  .exact⟨o.slots,keep b o y h hf q⟩
 refine I.step (g':=s.gens) (d':=s.drawn) (t':=s.toks) (ch:=ch) (λb h=>⟨.inr (d b h).1,(d b h).2.2⟩) (λb o B h f q n=>keep b o (w b n) f (λz=>?_) q) (λb o _ _ f q n=>any b o f (w b n) q)
  (λb o _ _ n=>by rw[zm (w b n)];exact n) (λb o f q=>?_) (λb O q=>?_) (λb o u q=>?_) (λb P q=>⟨#[],?_⟩) (λm M=>?_) (λb u q=>?_) I.bare
 .rcases a0r.mp (I.fH b z)with z|z
  .exact B z
  .exact h z
 .by_cases a:b=e
  .exact⟨_,a▸l⟩
  .obtain⟨g,A⟩:=any b o f a q;exact⟨_,A⟩
 .have:b≠e:=λz=>by rw[z,he]at q;cases q
  rw[zm this];exact q
 .have:b≠e:=λz=>by rw[z,he]at q;cases q
  rw[zm this];exact q
 .have:b≠e:=λz=>by rw[z,he]at q;cases q
  rw[zm this,q];simp
 .obtain⟨o,J,K,F,r⟩:=M;have B:H X.env.locals=none:=I.free;obtain⟨g,A⟩:=any _ o (λz=>(d _ z).2.2.1 rfl) (w _ B) F;exact⟨_,J,K,A,r⟩
 .by_cases a:b=e
  .subst a;rw[zl]at q;cases q;exact XO.ok l
  .rw[zm a]at q;refine(I.hok b u q).Ep (λc v f r=>?_) (λc r=>?_) λc O r=>?_
   .rcases f with z|z
    .subst z;exact keep c v a (E c u q) (D c u q) r
    .have:c≠e:=λj=>by rw[j,he]at z;cases z
     exact keep c v this (E c _ z) (D c _ z) r
   .have:c≠e:=λj=>by rw[j,he]at r;cases r
    rw[zm this];exact r
   .have:c≠e:=λj=>by rw[j,he]at r;cases r
    rw[zm this];exact r
structure Tb(X:Cx)(pins:a38)(H:Hp)(s:a42)(Ta:Addr)(fl:Value):Prop where
 tbk:∃oT ts,s.heap.get? Ta=some oT/\oT.data=.fields ts/\ts[3]?=some fl
 new:X.s₀.heap.objs.size<=Ta
 free:H Ta=none
 pin:∀p∈X.pn++pins,p.1≠Ta
def Own(X:Cx):Prop:=X.stack=X.env::X.outer/\X.env.frame=some X.env.locals
def Tb.ok(I:Inv X pins σ H s)(b:Tb X pins H s Ta fl):Ta≠X.env.locals/\(∀x c,X.env.cells.lookup x=some c->c≠Ta)/\Ta∉frs X.stack:=by
 obtain⟨i,l,e,f,_⟩:=b.tbk;have g:Ta≠X.env.locals:=λz=>by obtain⟨m,⟨o,j,n,a,d,_⟩,_⟩:=I.loc;rw[z]at e;rw[e]at a;cases a;rw[f]at d;cases d
 refine⟨g,λx c q z=>?_,λz=>?_⟩
 .obtain⟨v,o,a,d⟩:=I.cell x c q;rw[z,e]at a;cases a;rw[f]at d;cases d
 .rcases a0r.mp (I.fH _ z)with z|z
  .exact g z
  .obtain⟨_,o,a,h⟩:=I.tO.mem z;rw[e]at a;cases a;exact h _ f
def BA(I:Inv X pins σ H s)(he:H e=some (XO e C od (.ref Ta)))(b:Tb X pins H s Ta fl)
  (m:∀i,Inv X pins σ (upd H e (XO e C od (.ref Ta))) { s with heap:=i }->Tb X pins (upd H e (XO e C od (.ref Ta))) { s with heap:=i } Ta (f.elim .none λf=>rawInt f)->Q () { s with heap:=i }):
  wpAny M A (setFlight (.ref e) f) Q E s:=by
 obtain⟨t,r,l⟩:=XO.get (I.hok e _ he);obtain⟨w,y,j,h,n⟩:=id b.tbk;obtain⟨v,u,p⟩:=b.ok I;have g:Ta≠e:=λz=>by have:=b.free;rw[z,he]at this;cases this
 have sz:=(a16.mp n).1;unfold setFlight;refine f8 (a2P l rfl (x:=.ref Ta) rfl ?_);rw[if_pos (show(Value.ref Ta != Value.none)=true from by simp)];refine a3u j h sz ?_;have d:∀c,c≠Ta->(s.heap.update Ta (Obj.mapFields (·.setIfInBounds 3 (f.elim .none λf=>rawInt f)))).get? c=s.heap.get? c:=λc a=>a0F _ _ (Ne.symm a);refine m _ (I.Le he [Ta] (λc a=>?_) (λc o _ a _ q=>(d c (by simpa using a)).trans q) (λc o a q=>⟨o.slots,(d c (λz=>p (z▸a))).trans q⟩) ⟨t,r,(d e (Ne.symm g)).trans l⟩) ⟨⟨_,_,Heap.get?_update_self _ j (Obj.isFreed_of_fields (Obj.data_mapFields h _)),Obj.data_mapFields h _,by simp[sz]⟩,b.new,by rw[zm g];exact b.free,b.pin⟩;obtain rfl:c=Ta:=by simpa using a
 exact⟨b.new,b.free,v,u,b.pin⟩
def EY(I:Inv X pins σ H s)(he:H e=some (XO e C od .none))(a:Q () s):wpAny M A (setFlight (.ref e) f) Q E s:=by obtain⟨t,c,b⟩:=XO.get (I.hok e _ he);unfold setFlight;refine f8 (a2P b rfl (x:=.none) rfl ?_);exact a0h a
def mY(b:Own X)(x:A.frames=some X.stack)(I:Inv X pins σ H s)(he:H e=some (XO e C od T))
  (B:∀u m,Inv X pins σ (upd H e (XO e C od (.ref u))) { s with heap:=m }->Tb X pins (upd H e (XO e C od (.ref u))) { s with heap:=m } u (rawInt X.env.locals)->Q () { s with heap:=m }):
  wpAny M A (do setField (.ref e) 1 (<- EntryCells.newEntry head (<- frameOf X.env) .none (rawInt X.env.locals) .none (<- entryPlaceOf X.env.locals hadNext))) Q E s:=by
 obtain⟨t,y,D⟩:=XO.get (I.hok e _ he);have l:=I.stack;rw[b.1]at l x;refine f8 (wpAny_frameOf_fun x l b.2 λf a=>?_);refine f8 (wpAny_entryPlaceOf λG i=>?_);unfold EntryCells.newEntry newFields;refine f8 (a2l ?_ (i.sizeOk5 _ _ _ _ _));have j:e∉frs (X.env::X.outer):=λz=>by have:=I.gS e (by rw[b.1];exact z);rw[he]at this;cases this
 have g:f.get? e=some (ql C od t T y):=(a.2.1 e j).trans D;have h:e≠f.objs.size:=a0t (a0i g);refine a3u (a0d _ g) rfl (by show 1<6;decide) ?_;have d:∀c o,c≠e->f.get? c=some o->∀w:Obj,((f.push w).update e (Obj.mapFields (·.setIfInBounds 1 (Value.ref f.objs.size)))).get? c=some o:=λc o v q w=>
  (a0F _ _ (Ne.symm v)).trans (a0d _ q)
 have n:H f.objs.size=none:=I.hok.fresh (a2A a.1.symm);refine B f.objs.size _ (I.Le he [] (λ_ z=>nomatch z) (λc o v _ hf q=>d c o v ((a.2.1 c (by rw[b.1]at hf;exact hf)).trans q) _) (λc o hf q=>?_) ⟨t,y,?_⟩) ⟨⟨_,_,(a0F _ _ h).trans (a0x _ rfl),rfl,?_⟩,?_,?_,λp hp z=>?_⟩
 .obtain⟨r,F⟩:=a.2.2 c o q;exact⟨r,d c _ (λz=>j (by rw[b.1]at hf;exact z▸hf)) F _⟩
 .exact a1g _ (a0d _ g) rfl
 .rcases i with rfl|⟨_,_,_,_,_,_,_,rfl⟩<;>simp
 .rw[a.1];exact I.sz
 .rw[zm (Ne.symm h)];exact n
 .have q:=(I.pin p hp).1;exact absurd (a0i q) (by rw[z,a.1];exact a1i _)
structure XIs(K:a4p)(C:Addr):Prop where
 ha:findIn K (.ref C) "__class__"=some (some (.builtin "object.__class__"))
 hn:specialIn K (.builtin "object.__class__") "__get__"=some (some (.builtin "getset_descriptor.__get__"))
 htk:takesIn K (.builtin "object.__class__")=some true
section
variable {prog:a4b}{w:a4e}{A:a4i}{E:a41}{s:a42}{K:a4p}{x C:Addr}{sl:a4t}
def Oh(X:K.In s.heap)(c:QT K C)(z:XIs K C)(I:InstAt s.heap x ox C (some od))
  (h:Q (some (.ref C)) { s with toks:=s.toks+1 }):wpAny (model prog w) A (getAttr? (.ref x) "__class__") Q E s:=by
 obtain⟨cd,hc,ho,ne,hdct⟩:=c.cd;have hm:=c.sub (x:="object") (by decide);obtain⟨hp,g,d,tk,os⟩:=s;have L0:=I.type (M:=model prog w);have L1:=a2D (M:=model prog w) X c.ga;have L2:=a2D (M:=model prog w) X c.gn;have Lb:Looks (model prog w) hp (isInstance (.ref x) (.type "BaseException")) true:=L0.andThen (a3q X (c.sub (x:="BaseException") (by decide)));have hf:findObj K C (some od) "__class__"=some (.bind (.builtin "getset_descriptor.__get__") (.builtin "object.__class__")):=findObj_data (by rw[hc];rfl) z.ha z.hn z.htk;have L3:=looks_find (M:=model prog w) X I hf;have ga:=PySem.F.excAttr_ValueError.ga;have f3:=ga.bind (.ref x);unfold getAttr? getAttrBy? getAttrBy;refine f8 (a3V (f8 (a2q (a1a (f8 (L0.at (f8 (L1.at ?_))))))));dsimp only;rw[show(onTheHeap (Value.ref C)&&Value.builtin "BaseException.__getattribute__"==Value.builtin "object.__getattribute__")=false from by
  rw[show(Value.builtin "BaseException.__getattribute__"==Value.builtin "object.__getattribute__")=false from by decide +kernel];rfl]
 show wpAny _ _ (getAttrByItsOwn _ _ _ _ _ _) _ _ _;unfold getAttrByItsOwn;refine f8 (show wpAny _ _ (typeLookup (.ref C) "__getattr__") _ _ _ from L2.at ?_);refine f8 (a2q (a1a ?_));show wpAny _ _ (bindSpecial _ _ >>= _) _ _ _;rw[f3];refine f8 (a0h (a1N (a10 ga.plain F.entry_bexc_ga ?_)));have hk:builtinKind "BaseException.__getattribute__"=some .slot:=by decide +kernel
 have hs:splitId "BaseException.__getattribute__"=some ("BaseException","__getattribute__"):=by decide +kernel
 refine @check_slot (model prog w) _ _ ⟨hp,g,d,tk+1,os⟩ "BaseException.__getattribute__" "BaseException" "__getattribute__" (.ref x) [.str "__class__" tk] [] _ hk hs Lb (F.args_bexc_ga (.ref x) (.str "__class__" tk)) ?_;unfold Builtin.«object.__getattribute__»
 repeat(first|with_reducible refine a1N ?_|lk)
 refine class_get (s:=⟨hp,g,d,tk+1,os⟩) (ox:=ox) (od:=some od) X I hm ?_;exact a0h (a0h (a0h h))
def EZ{ox od:Obj}(c:QT K C)(z:XIs K C):KitX K (.ref x) (.ref C) (λh=>InstAt h x ox C (some od))where
 ty:=λ_ _ _ I=>I.type
 it:=λ_ _ X _=>by
  obtain⟨cd,a,_⟩:=c.cd;unfold clsIn at a;split at a
  .rename_i g i e b d;intro r m o p k q;unfold isType loadHead;exact f8 (a2k (k _ _ (X _ _ d)) (a0h q))
  .cases a
 ne:=λh l dd j n sl X f=>by
  obtain⟨cd,a,_⟩:=c.cd;refine Bool.eq_false_iff.mpr λq=>?_;obtain rfl:C=l:=Value.ref.inj (a0I.mp q);unfold clsIn at a;split at a
  .rename_i g i e b d;cases(X _ _ d).symm.trans f
  .cases a
 ca:=λX I k=>Oh X c z I k
end
def h9(h:H a=some o):upd H a o=H:=by
 funext b;unfold upd;split
 .rename_i e;rw[e,h]
 .rfl
def XC(e C a:Addr):HO:=.ext λh=>∃t T b,h.get? e=some (ql C (some a) t T b)
def XC.get(x:qB P w H h e (XC e C dx)):∃t T a,h.get? e=some (ql C (some dx) t T a):=x.1
section
variable {X:Cx}{pins:a38}{σ:St}{H:Hp}{s:a42}{e C Ta:Addr}{od:a4v}{T fl:Value}{M:Model}{A:a4i}{E:a41}{Q:Unit->Shared->Prop}
def Fl(X:Cx)(pins:a38)(H:Hp)(s:a42)(e C:Addr)(od:a4v):Prop:=
 ∃T,H e=some (XO e C od T)/\(T=.none\/∃Ta fl,T=.ref Ta/\Tb X pins H s Ta fl/\(fl=.none\/∃n:Int,fl=rawInt n))
def t6(g:Own X)(w:A.frames=some X.stack)(I:Inv X pins σ H s)(f:Fl X pins H s e C od)
  (m:∀l i,Inv X pins σ (upd H e (XO e C od (.ref l))) { s with heap:=i }->Tb X pins (upd H e (XO e C od (.ref l))) { s with heap:=i } l (rawInt X.env.locals)->Q () { s with heap:=i }):
  wpAny M A (noteFrame (.ref e) X.env) Q E s:=by
 obtain⟨T,a,B⟩:=f;obtain⟨t,F,v⟩:=XO.get (I.hok e _ a);unfold noteFrame;simp only[g.2];refine f8 (a2P v rfl (x:=T) rfl ?_);rcases B with rfl|⟨Ta,fl,rfl,b,y⟩
 .rw[if_neg (by decide)];exact mY g w I a m
 .rw[if_pos (show(Value.ref Ta != Value.none)=true from by simp)];obtain⟨L,N,r,p,u⟩:=id b.tbk;refine f8 (a2P r p u ?_);by_cases j:¬(fl==rawInt X.env.locals)=true
  .rw[if_neg j];obtain⟨K,G,D⟩:=b.ok I;have n:Ta≠e:=λz=>by have:=b.free;rw[z,a]at this;cases this
   have sz:=(a16.mp u).1;refine f8 (a3u r p sz ?_);have h:∀c,c≠Ta->(s.heap.update Ta (Obj.mapFields (·.setIfInBounds 3 .none))).get? c=s.heap.get? c:=λc d=>a0F _ _ (Ne.symm d);have J:Inv X pins σ H { s with heap:=s.heap.update Ta (Obj.mapFields (·.setIfInBounds 3 .none)) }:=by
    have:=I.Le (T':=.ref Ta) a [Ta] (h':=s.heap.update Ta (Obj.mapFields (·.setIfInBounds 3 .none))) (λc d=>by
     obtain rfl:c=Ta:=by simpa using d
     exact⟨b.new,b.free,K,G,b.pin⟩) (λc o _ d _ q=>(h c (by simpa using d)).trans q) (λc o d q=>⟨o.slots,(h c (λz=>D (z▸d))).trans q⟩) ⟨t,F,(h e (Ne.symm n)).trans v⟩
    rwa [h9 a]at this
   exact mY g w J a λl i=>m l i
  .have j:=Classical.not_not.mp j;rw[if_pos j];obtain rfl:fl=rawInt X.env.locals:=eq_of_beq j;refine a0h ?_;have:=m Ta s.heap (by rw[h9 a];exact I) (by rw[h9 a];exact b);exact this
end
def SO(X:Cx)(E:XK)(v:Value)(c:a42):Prop:=∃d b e C a,v=.ref e/\Inv X.nox [] d b c/\Fl X.nox [] b c e C (some a)/\E (.ref e) (some a) (upd b e (XC e C a))
def CXe(P:a4b)(w:a4e):CXT:=λa H s E v c=>∃e C f d g h b,v=.ref e/\c.os=s.os/\AllBare c.gens/\Un (frs a) [] H b s.heap c.heap/\HOk P w b c.heap/\
 b e=some (XO e C (some f) (.ref d))/\c.heap.get? d=some g/\g.data=.fields h/\h[3]?=some .none/\b d=none/\s.heap.objs.size<=d/\E (.ref e) (some f) (upd b e (XC e C f))
abbrev thr(X:Cx)(E:XK):Cx:=X.mE (SO X E)
def Inv.thrown(I:Inv X pins σ H s)(h:CXe X.prog X.w X.stack H s E v s')(y:X.m<=s'.toks:=by ac_rfl):
  ∃a e C d,v=.ref e/\Inv X pins σ a s'/\Fl X pins a s' e C (some d)/\E (.ref e) (some d) (upd a e (XC e C d)):=by
 obtain⟨e,C,d,l,i,r,a,rfl,x,c,un,f,n,m,j,o,w,g,q⟩:=h;have u:Inv X pins σ a s':=I.ND x un f c λb z=>absurd z (by simp);refine⟨a,e,C,d,rfl,u,⟨_,n,.inr ⟨l,_,rfl,⟨⟨i,r,m,j,o⟩,a0y I.sz g,w,λp hp z=>?_⟩,.inl rfl⟩⟩,q⟩;have:=a0i (I.pin p hp).1;rw[z]at this;exact absurd g (Nat.not_le.mpr this)
def Inv.t7(I:Inv X pins σ H s):Inv X [] σ H s:=I.gU λ_ h=>nomatch h
def Fl.t7(f:Fl X pins H s e C od):Fl X [] H s e C od:=by obtain⟨T,a,h⟩:=f;refine⟨T,a,h.imp id λ⟨g,c,i,b,d⟩=>⟨g,c,i,⟨b.tbk,b.new,b.free,λp hp=>b.pin p ?_⟩,d⟩⟩;rw[a0s]at hp;exact a0J _ hp
def Fl.mE(f:Fl X pins H s e C od):Fl (X.mE E) pins H s e C od:=by obtain⟨T,a,h⟩:=f;exact⟨T,a,h.imp id λ⟨g,c,i,b,d⟩=>⟨g,c,i,⟨b.tbk,b.new,b.free,b.pin⟩,d⟩⟩
def zE:Passes (CXe X.prog X.w) (thr X E) E:=λa g H s v j I h d=>by obtain⟨c,e,C,b,rfl,i,f,q⟩:=Inv.thrown (X:=thr X E) I h d;exact⟨g,c,e,C,b,rfl,(i.KD.mE _).t7,(Fl.mE (X:=thr X E) f.t7),q⟩
def WE:Passes (CXe P w) X E0:=λa j H s v i I h _=>by obtain⟨e,C,b,g,d,f,c,_,_,_,_,_,_,_,_,_,_,_,q⟩:=h;exact False.elim q
def zz(a:Own X):PassesOwn (a4R X) X.A X.env (SO X E):=λv u ⟨i,r,e,C,n,m,I,f,q⟩=>by
 subst m;have l:X.A.frames=some X.nox.stack:=I.ok.frames;refine t6 (X:=X.nox) a l I f λc p h b=>?_;obtain⟨t,s,j⟩:=XO.get (h.hok e _ zl);refine f8 (a2P j rfl (x:=.ref c) rfl ?_);rw[if_neg (show ¬((Value.ref c==Value.none)=true)from by simp)];refine BA h zl b λo d g=>?_;rw[bj]at d g;refine⟨i,_,e,C,n,rfl,d,⟨_,zl,.inr ⟨c,_,rfl,g,.inr ⟨(X.env.locals:Int),?_⟩⟩⟩,?_⟩
 .rw[a.2];rfl
 .rw[bj];exact q
def Oi{P:a4b}{w:a4e}{K:a4p}{l:a37}{d:Heap}{N:a40}{g:Str}{a:Scope}{f:Addr}{cd:Value}{A:a4i}{c:List Env}{s:a42}{H:Hp}{E:XK}{v:Value}{o:a42}
  (h:SO (xR (CXe P w) P w K l d N g a f cd A c s H E) E v o):(xR (CXe P w) P w K l d N g a f cd A c s H E).xe v o:=by
 obtain⟨L,M,e,C,F,y,I,z,q⟩:=h;subst y;have m:Own (xR (CXe P w) P w K l d N g a f cd A c s H E):=⟨rfl,rfl⟩;show wpAny (model P w) _ (leaving _ (.ref e)) _ _ o;unfold leaving;refine f8 (t6 (X:=(xR (CXe P w) P w K l d N g a f cd A c s H E).nox) m I.ok.frames I z λx J D b=>?_);refine BA D zl b λG i j=>?_;rw[bj]at i j;obtain⟨p,B,r,n,u⟩:=j.tbk;exact⟨e,C,F,x,p,B,_,rfl,i.os,i.bare,i.base,i.hok,zl,r,n,u,j.free,j.new,by rw[bj];exact q⟩
def PSs.SQ{X:Cx}{E:a41}{st:a4r}{t:TS}(h:PSs (X.mE E) st t)(c:∀v s,E v s->X.xe v s):PSs X st t:=λa s d H D I b=>
 a07 (h a s d H D (I.mE E) b) (λ_ _ q=>q.KD) c
section
variable {P:a4b}{w:a4e}{K:a4p}{mg:a37}{base:Heap}
def Fun.okX{x b:Str}{st:a4z}{f:Addr}{i:a4j}{N e:a40}{k:Nat}{sp:Sp}(F:Fun K x b st f i)(S:zo N e (zg st))(len:∀d H Q E,sp d H Q E->d.length=e.length)
  (m:∀(c:Value)(A:a4i)(a:List Env)(s:a42)(H:Hp)(d:a4a)(Q:VK) (E:XK),v8 k (A.deeper (envOfC b (zg st) s.heap.objs.size f c))->sp d H Q E->
   ∃t,PSs (thr (xR (CXe P w) P w K mg base N b (zg st) f c A a s H E) E) (YI st) t/\t { nx:=λ_ l=>Q .non l,rt:=Q } (start N d) H):yF P w K mg base (CXe P w) (k+1) f i e sp:=by
 obtain⟨u,y,kV,n,r,z,c,ct,j,rfl,p,g⟩:=F.ex;refine Sy p g S len λA a s H d Q E o hsp=>?_;obtain⟨t,h,q⟩:=m c A a s H d Q E o hsp;exact⟨t,h.SQ λv s h=>Oi h,q⟩
end
def Oj(C:Addr)(sp:Sp)(E:XK)(t:TA):TE:=λd H Q=>t d H λb a=>b.length<=1000/\∀x,a x=none->sp (.ref x::b) (upd a x (XO x C none .none)) (λv c=>v=.non/\Q (.ref x) c) E
def Inv.SR(I:Inv X pins σ H s):
  Inv X pins σ (upd H (s.heap.objs.size+1) (XO (s.heap.objs.size+1) C none .none)) { s with heap:=(s.heap.push (Hb us)).push (ql C none s.heap.objs.size .none #[]) }:=
 I.laid (t':=s.toks) (λb u e=>a0d _ (a0d _ e)) (a1m _) (XO.ok (t:=s.heap.objs.size) (sl:=#[]) (by heap_get))
def BB(M:XMk X.K C f)(F:yF X.prog X.w X.K X.mg X.base CX k f fd ps sp)(J:v8 (k+1) X.A)(A:Binds X.K fd ps [])
  (y:Passes CX X E) (I:Inv X pins σ H s) (r:Vals vs b) (N:vs.length<=1000) (h:∀x,H x=none->sp (.ref x::vs) (upd H x (XO x C none .none)) (λv G=>v=.non/\Q (.ref x) G) E):
  wpAny (a4R X) X.A (call (.ref C) b) (EP X pins σ Q) X.xe s:=by
 have l:=h (s.heap.objs.size+1) (I.hok.fresh (a1m _));have c:=Inv.SR (C:=C) (us:=b) I;have o:Vals (V.ref (s.heap.objs.size+1)::vs) (Value.ref (s.heap.objs.size+1)::b):=.cons rfl r;have i:(Value.ref (s.heap.objs.size+1)::b++[]).length=ps.length:=by have e:=o.length;rw[F.len _ _ _ _ l]at e;rw[a0s];exact e.symm
 have p:=A _ (Value.ref (s.heap.objs.size+1)::b) c.kIn i;rw[a0s]at p;obtain⟨w,g,d,L,O⟩:=s;refine a0P (n:=X.m) I.tk<|SN M I.kIn (by rw[<- r.length,a06];omega) (a1V (F.run _ X.stack _ _ ⟨_::b,[]⟩ _ _ _ E (J.make C b []) (c.Bi.make C b []) p o l) λr K a=>?_)
 cases r with
 |error e=>exact λj=>y pins σ _ _ e K c a j
 |ok B=>
  cases B with
  |ret u=>obtain⟨v,m,_,_,_,_,D,ev,_⟩:=id a;subst ev;refine⟨D,λj=>?_⟩;obtain⟨v,m,q,_,_,z⟩:=c.after a j;exact⟨V.ref (w.objs.size+1),m,q,rfl,z⟩
  |next=>exact False.elim a
  |brk=>exact False.elim a
  |cont=>exact False.elim a
def E1(M:XMk X.K C f)(F:yF X.prog X.w X.K X.mg X.base CX k f fd ps sp)(o:v8 (k+1) X.A)(i:Gl X x)(n:X.mg x=some (.ref C))(l:Binds X.K fd ps [])(j:Passes CX X E)
  (g:PA X (e::es) t) (b:(x==("__debug__":Str))=false:=by decide) (he:starEach (e::es) X.env=(false,eval e X.env)::starEach es X.env:=by rfl) (hpl:(backTo pos (starEach es X.env)).any (·.1)=false:=by rfl):
  PE X (.Call (.Name x p) (e::es) [] pos) (Oj C sp E t):=by
 intro a s d H Q I h;refine a1q (bo I i n ?_ b);refine a2f (h₀:=X.base) I.ok.mod.kin M.kp (thn (g pos a s d H _ I h) λy u ⟨w,v,c,r,m,q⟩=>⟨c.kIn,?_⟩) he hpl;exact BB M F o l j c r m q
def SS(K:a4p)(d h:TE)(f:Str):TS:=λD c H=>h c H λy g=>d c g λx b=>∃e C T,x=.ref e/\QT K C/\takerIn K C f=some none/\
  ((b e=some (XO e C none T)/\∀a,b a=none->D.nx c (upd (upd b a (XD a [(f,y)])) e (XO e C (some a) T)))\/
   (∃a fs,b e=some (XO e C (some a) T)/\b a=some (XD a fs)/\a≠e/\fs.length<1000/\D.nx c (upd b a (XD a (WB f y fs)))))
section
variable {X:Cx}{o value:a45}{f:Str}{pos pos':Pos}{ta tv:TE}
def kc(ha:PE X o ta)(hv:PE X value tv)(hs:swapsWith value (some (.Attribute o f pos')) pos.line X.env=pure false):PS X (.Assign [.Attribute o f pos'] value pos) (SS X.K ta tv f):=by
 intro m s J H D I h;refine a2x (thn (hv m s J H _ I h) λu s1 ⟨y,H1,I1,Q,q⟩=>thn (ha m s1 J H1 _ I1 q) λov w ⟨x,W,i,rx,e,C,T,ex,c,P,A⟩=>?_) hs;subst ex;obtain rfl:ov=Value.ref e:=rx;rcases A with⟨a,A⟩|⟨M,fs,a,U,ne,l,A⟩
 .obtain⟨t,sl,K⟩:=XO.get (i.hok e _ a);have Z:w.heap.objs.size≠e:=a1U (a0i K);have B:W w.heap.objs.size=none:=i.hok.fresh (a0e _);refine xT i.kIn c K P λG F j L=>⟨J,_,?_,A _ B⟩;have lt:∀b o,w.heap.get? b=some o->b≠w.heap.objs.size:=λb o q=>a0t (a0i q);have d:∀b o,W b=some o->b≠w.heap.objs.size:=λb o q z=>by rw[z,B]at q;cases q
  refine i.un (h':=G) (t':=w.toks+2) ⟨λb o q n _ _=>L b o (λz=>by rw[z,a]at n;cases n) q,λb o q n _ _=>⟨o.slots,L b o (λz=>by rw[z,a]at n;cases n) q⟩,λb o q n _=>?_,λb o q _=>?_,λb xs q=>?_,λb o u q=>?_,λb ps q=>⟨#[],?_⟩⟩ λb ob q=>?_
  .rw[zm (λz=>by rw[z,a]at n;cases n),zm (lt b o q)];exact n
  .by_cases p:b=e
   .exact⟨_,p▸F⟩
   .exact⟨o,L b o p q⟩
  .rw[zm (λz=>by rw[z,a]at q;cases q),zm (d b _ q)];exact q
  .rw[zm (λz=>by rw[z,a]at q;cases q),zm (d b _ q)];exact q
  .rw[zm (λz=>by rw[z,a]at q;cases q),zm (d b _ q),q];simp
  .by_cases p:b=e
   .subst p;rw[zl]at q;cases q;exact XO.ok F
   .rw[zm p]at q;by_cases E:b=w.heap.objs.size
    .subst E;rw[zl]at q;cases q;refine XD.ok j (λg=>?_) (λg N=>?_) (by show 1<=1000;decide)
     .show aU (List.lookup g [(f,y)]) (if g=f then some u else none);by_cases z:g=f
      .subst z;rw[if_pos rfl];simp only[List.lookup,beq_self_eq_true];exact Q
      .rw[if_neg z];simp only[List.lookup,beq_eq_false_iff_ne.mpr z];exact True.intro
     .by_cases z:g=f
      .subst z;exact a0l.mpr rfl
      .exact absurd (if_neg z) N
    .rw[zm E]at q;refine(i.hok b ob q).Ep (λc v hc r=>L c v ?_ r) (λc r=>?_) λc xs r=>?_
     .rcases hc with z|z
      .rw[z];exact p
      .intro z2;rw[z2,a]at z;cases z
     .rw[zm (λz=>by rw[z,a]at r;cases r),zm (d c _ r)];exact r
     .rw[zm (λz=>by rw[z,a]at r;cases r),zm (d c _ r)];exact r
 .obtain⟨t,sl,K⟩:=XO.get (i.hok e _ a);obtain⟨R,hn,r,S,l1⟩:=XD.get (i.hok M _ U);refine By i.kIn c K hn ne P S (by rw[v4,a06];omega) λG j Y=>⟨J,_,?_,A⟩;have O:∃u,G.get? M=some u:=let⟨o,_,_,e',_⟩:=j;⟨o,e'⟩
  refine i.write (x:=M) (e:=M) (t':=w.toks+2) (by rw[U];exact True.intro) (.inl rfl) (λb u p z=>(Y.2 b p).trans z) O (XD.ok j (λg=>?_) (λg N=>?_) ?_)
  .show aU ((WB f y fs).lookup g) (if g=f then some u else R g);rw[VX];by_cases q:g=f
   .rw[if_pos q,if_pos q];exact Q
   .rw[if_neg q,if_neg q];exact r g
  .by_cases q:g=f
   .rw[q];exact(QV f y fs).1
   .refine(QV f y fs).2 g (S g λz=>N ?_);show(if g=f then some u else R g)=none;rw[if_neg q];exact z
  .have:=VY f y fs;omega
def SU(I:Inv X pins σ H s)(he:H e=some (XC e C dx)\/∃T,H e=some (XO e C (some dx) T)):∃t T a,s.heap.get? e=some (ql C (some dx) t T a):=by
 rcases he with he|⟨T,he⟩
 .exact XC.get (I.hok e _ he)
 .obtain⟨t,a,h⟩:=XO.get (I.hok e _ he);exact⟨t,T,a,h⟩
def Ol(K:a4p)(E:XK)(c:TE):TS:=λ_ d H=>c d H λv b=>∃e C a,v=.ref e/\QT K C/\b e=some (XO e C (some a) .none)/\E (.ref e) (some a) (upd b e (XC e C a))
def E2(p:X.calm=true)(he:PE (thr X E) e te):PS (thr X E) (.Raise (some e) none pos) (Ol X.K E te):=by
 intro g s m H D I h;rw[arm_exec_Raise];refine f8 (a14 ?_);show wpAny _ _ (raiseStmt X.env (some (do let v<-eval e X.env;standAt pos;pure v)) none) _ _ s;unfold raiseStmt;refine f8 (f8 (thn (he g s m H _ I h) λu b ⟨v,w,d,A,a,C,z,ev,c,j,q⟩=>f8 (a14 (a0h ?_))));subst ev;obtain rfl:u=Value.ref a:=A;obtain⟨t,G,l⟩:=XO.get (d.hok a _ j);obtain⟨cd,B,_⟩:=c.cd;have n:Looks (a4R X) b.heap (typeOf (.ref a)) (.ref C):=(Looks.ld l).andThen .now;have r:Looks (a4R X) b.heap (isSubtype (.ref C) (.type "BaseException")) true:=a3q d.kIn (c.sub (x:="BaseException") (by decide));have LI:Looks (a4R X) b.heap (isInstance (.ref a) (.type "BaseException")) true:=n.andThen r;have i:(thr X E).xe (.ref a) b:=⟨m,w,a,C,z,rfl,(d.KD.mE _).t7,⟨.none,j,.inl rfl⟩,q⟩;have y:(thr X E).A.handled=none:=d.ok.hd p;have LT:Looks (a4R X) b.heap (isType (.ref a)) false:=by intro K L J M k q;unfold isType loadHead;exact f8 (a2k (k _ _ l) (a0h q))
 have LE:Looks (a4R X) b.heap (isExcClass (.ref a)) false:=LT.andThen .now;refine f8 (a0h ?_);dsimp only;refine f8 (a1a ?_);unfold excFromValue;refine f8 (LE.here ?_);simp only[Bool.false_eq_true,if_false];refine f8 (LI.here ?_);simp only[if_true];refine a0h (f8 (LT.here ?_));simp only[Bool.false_eq_true,if_false];have LC:Looks (a4R X) b.heap (typeOf (.ref C)) (.type "type"):=looks_typeIn d.kIn c.ty;have F:Looks (a4R X) b.heap (raisedInstance (.ref a)) (.ref a):=by unfold raisedInstance;refine n.andThen (LC.andThen ?_);rw[if_pos (by simp)];exact .now
 refine f8 (F.here (f8 (EY d j ?_)));exact wpAny_raiseNew_none y i
end
def TyX(K:a4p)(H:Hp)(x:V)(t:Value):Prop:=AQ K H x t\/
 ∃e C a fs,x=.ref e/\t=.ref C/\QT K C/\XIs K C/\(H e=some (XC e C a)\/∃T,H e=some (XO e C (some a) T))/\H a=some (XD a fs)
def SV:V->Option Value
 |.ref a=>some (.ref a)
 |.ty n=>some (.type n)
 |_=>none
def E3(r:RelV c u)(e:SV c=some v):u=v:=by
 cases c with
 |ref a=>cases e;exact r
 |ty n=>cases e;exact r
 |_=>cases e
def p8(I:Inv X pins σ H s)(rx:RelV x u)(ty:TyX X.K H x t):∃P,KitX X.K u t P/\P s.heap/\u≠.builtin "__main__.__loader__#opaque":=by
 rcases ty with ty|⟨e,C,dx,fs,rfl,rfl,c,z,he,hd⟩
 .cases ty with
  |non=>cases(show u=Value.none from rx);exact⟨_,kitx_none,True.intro,λz=>nomatch z⟩
  |bl y=>cases(show u=Value.bool y from rx);exact⟨_,kitx_bool,True.intro,λz=>nomatch z⟩
  |int i=>obtain⟨t,q⟩:=(show ∃t,u=Value.int i t from rx);cases q;exact⟨_,kitx_int,True.intro,λz=>nomatch z⟩
  |str y=>obtain⟨t,q⟩:=(show ∃t,u=Value.str y t from rx);cases q;exact⟨_,kitx_str,True.intro,λz=>nomatch z⟩
  |flt y=>obtain⟨t,q⟩:=(show ∃t,u=Value.float y t from rx);cases q;exact⟨_,kitx_float,True.intro,λz=>nomatch z⟩
  |@lst a xs ea=>cases(show u=Value.ref a from rx);obtain⟨_,_,n,_,h1⟩:=(show qB X.prog X.w H s.heap a (.lst xs)from I.hok a _ ea);exact⟨_,kitx_list,⟨_,h1,rfl⟩,λz=>nomatch z⟩
  |@frz a ob xs ea=>cases(show u=Value.ref a from rx);obtain⟨_,_,_,n,_,h1⟩:=(show qB X.prog X.w H s.heap a (.frz ob (.lst xs))from I.hok a _ ea);exact⟨_,kitx_list,⟨_,h1,rfl⟩,λz=>nomatch z⟩
  |@tup a xs ea=>cases(show u=Value.ref a from rx);obtain⟨_,_,_,p⟩:=(show qB X.prog X.w H s.heap a (.tup xs)from I.hok a _ ea);obtain⟨o,h1,h2,_⟩:=p;exact⟨_,kitx_tuple,⟨o,h1,h2⟩,λz=>nomatch z⟩
  |@dK a kvs ea=>cases(show u=Value.ref a from rx);obtain⟨_,_,vs,_,p⟩:=(show qB X.prog X.w H s.heap a (.dK kvs)from I.hok a _ ea);obtain⟨o,es,ep,h1,h2,_⟩:=p;exact⟨_,kitx_dict,⟨o,h1,h2.1⟩,λz=>nomatch z⟩
  |@dT a kvs ea=>cases(show u=Value.ref a from rx);obtain⟨_,_,xs,_,o,es,ep,h1,h2,_⟩:=(show qB X.prog X.w H s.heap a (.dT kvs)from I.hok a _ ea);exact⟨_,kitx_dict,⟨o,h1,h2.1⟩,λz=>nomatch z⟩
  |@ins a C dx fs ea cl ha hn htk hm=>cases(show u=Value.ref a from rx);obtain⟨mA,O,_⟩:=g8 I.hok ea;obtain⟨od,J,_⟩:=O.look;exact⟨_,kitx_own (cl.get _) cl.hd ha hn htk hm,J,λz=>nomatch z⟩
 .cases(show u=Value.ref e from rx);obtain⟨t,T,sl,hx⟩:=SU I he;obtain⟨mA,hn,_⟩:=XD.get (I.hok dx _ hd);obtain⟨od,hod,_⟩:=bp hn;exact⟨_,EZ c z,⟨hx,rfl,rfl,hod⟩,λz=>nomatch z⟩
abbrev TEx:=St->Hp->VK->XK->Prop
def E4(i j:Int):Prop:=i.natAbs<2 ^ 8192/\j.natAbs<2 ^ 8192
def E4.ok(h:E4 i j):IntMulOk i j:=IntMulOk.of_le (intBits_le_iff.mpr h.1) (intBits_le_iff.mpr h.2) (by decide)
def Lf:OpR X (binaryOp .Mult) (rI E4 λi j=>.int (i*j)):=opI λ_ _ _ _ _ _ _ a q=>mul_int q a.ok
theorem zH.upd{H:Hp}{p:Addr}{o:HO}(h:H p=Option.none):zH H (upd H p o):=λb q e=>by rw[zm (zT e h)];exact e
def p9(cells:a4q):List (Str×NameKind)->List (Str×Addr)->List (Str×Addr)
 |[],a=>a
 | (n,k)::r,a=>p9 cells r (if k == .free then(match cells.lookup n with|some c=>(n,c)::a|none=>a)else a)
theorem Uv{env:Env}:∀(b:a4s)(d:a4q),(∀y∈b,y.2=.free->(env.cells.lookup y.1).isSome=true)->
  (forIn b d λx r=>if(x.2==NameKind.free)=true then do let a<-cellOf env x.1;pure (ForInStep.yield ((x.1,a)::r))else pure (ForInStep.yield r))=(pure (p9 env.cells b d):Sem _)
 |[],d,_=>rfl
 | (n,k)::r,d,h=>by
  rw[List.forIn_cons];have i:=λd=>Uv (env:=env) r d λy m=>h y (a0a _ m);unfold p9;by_cases g:(k==NameKind.free)=true
  .have j:=h (n,k) u8 (a0I.mp g);obtain⟨c,l⟩:=a0U.mp j;have e:List.lookup n env.cells=some c:=l;simp only[g,if_true,cellOf,e,pure_bind];exact i _
  .have f:(k==NameKind.free)=false:=by simpa using g
   simp only[f,Bool.false_eq_true,if_false,pure_bind];exact i _
def xV(h:∀y∈scope.names,y.2=.free->(env.cells.lookup y.1).isSome=true):closureFor scope env=pure (p9 env.cells scope.names []):=by have:=Uv scope.names [] h;simp only[closureFor];rw[this];rfl
theorem Km{cells:a4q}{x:Str}{c:Addr}:∀(b:a4s)(f:a4q),(∀d,f.lookup x=some d->cells.lookup x=some d)->(p9 cells b f).lookup x=some c->cells.lookup x=some c
 |[],f,h,e=>h c e
 | (n,k)::r,f,h,e=>by
  unfold p9 at e;refine Km r _ (λd a=>?_) e;by_cases i:(k==NameKind.free)=true
  .rw[if_pos i]at a;split at a
   .rename_i l g;rw[a0M]at a;split at a
    .rename_i j;cases a;rw[a0I.mp j];exact g
    .exact h d a
   .exact h d a
  .rw[if_neg i]at a;exact h d a
theorem h_{cells:a4q}{x:Str}:∀(a:a4s)(b:a4q),((b.lookup x).isSome=true\/((x,NameKind.free)∈a/\(cells.lookup x).isSome=true))->((p9 cells a b).lookup x).isSome=true
 |[],b,h=>by
  rcases h with h|⟨h,_⟩
  .exact h
  .cases h
 | (n,k)::r,b,h=>by
  unfold p9;refine h_ r _ ?_;rcases h with h|⟨h,d⟩
  .left;by_cases f:(k==NameKind.free)=true
   .rw[if_pos f];split
    .rw[a0M];split
     .rfl
     .exact h
    .exact h
   .rw[if_neg f];exact h
  .rcases a0r.mp h with e|e
   .left;cases e;rw[if_pos (by rfl)];obtain⟨c,d⟩:=a0U.mp d;rw[d,a0M];simp
   .exact .inr ⟨e,d⟩
theorem Lg{x:Str}{c:Addr}:∀(a:a4s)(h:Heap)(b:a4q),(cellsFrom h.objs.size a b).lookup x=some c->b.lookup x=some c\/(h.objs.size<=c/\∃v,(pushCells h a).IsCell c v)
 |[],_,_,e=>.inl e
 | (n,k)::r,h,b,e=>by
  unfold cellsFrom at e;unfold pushCells;split at e
  .rename_i d;rw[if_pos d];have f:(cellsFrom (h.push { cls:=.type "cell",data:=.cell none }).objs.size r ((n,h.objs.size)::b)).lookup x=some c:=by rw[a1v];exact e
   rcases Lg r _ _ f with z|⟨z,v⟩
   .rw[a0M]at z;split at z
    .cases z;exact .inr ⟨a0e _,none,_,a3l r _ _ _ (a0x _ rfl),rfl⟩
    .exact .inl z
   .rw[a1v]at z;exact .inr ⟨a20 z,v⟩
  .rename_i d;rw[if_neg d];exact Lg r h b e
theorem BC:∀(a:a4s)(i:Nat)(b:a4q),(∀x y c,b.lookup x=some c->b.lookup y=some c->x=y)->(∀x c,b.lookup x=some c->c<i)->∀x y c,(cellsFrom i a b).lookup x=some c->(cellsFrom i a b).lookup y=some c->x=y
 |[],_,_,h,_=>h
 | (n,k)::r,i,b,h,g=>by
  unfold cellsFrom;split
  .refine BC r _ _ (λx y c d f=>?_) λx c e=>?_
   .rw[a0M]at d f;split at d<;>split at f
    .rename_i j _ l;rw[a0I.mp j,a0I.mp l]
    .cases d;exact absurd (g _ _ f) (a1i _)
    .cases f;exact absurd (g _ _ d) (a1i _)
    .exact h x y c d f
   .rw[a0M]at e;split at e
    .cases e;exact a1w _
    .exact a2m (g x c e)
  .exact BC r _ _ h g
theorem BD{x:Str}:∀(a:a4s)(c:Nat)(b:a4q),((b.lookup x).isSome=true\/(x,NameKind.cell)∈a)->((cellsFrom c a b).lookup x).isSome=true
 |[],_,_,h=>h.elim id λz=>nomatch z
 | (n,k)::r,c,b,h=>by
  unfold cellsFrom;split
  .refine BD r _ _ ?_;rcases h with h|h
   .left;rw[a0M];split
    .rfl
    .exact h
   .rcases a0r.mp h with e|e
    .cases e;left;rw[a0M];simp
    .exact .inr e
  .rename_i d;refine BD r _ _ (h.imp id λz=>?_);rcases a0r.mp z with e|e
   .cases e;exact absurd rfl d
   .exact e
theorem BE{x:Str}:∀(a:a4s)(c:Nat)(b:a4q),(x,NameKind.cell)∉a->(cellsFrom c a b).lookup x=b.lookup x
 |[],_,_,_=>rfl
 | (n,k)::r,c,b,h=>by
  unfold cellsFrom;split
  .rename_i d;rw[BE r _ _ λz=>h (a0a _ z),a0M];have:(x==n)=false:=by
    cases q:x==n with
    |false=>rfl
    |true=>exact absurd (by rw[a0I.mp q,a0I.mp d];exact u8) h
   rw[this]
  .exact BE r _ _ λz=>h (a0a _ z)
theorem BF{x:Str}{c:Addr}:∀(a:a4s)(j b:Nat)(i:a4q),b<=j->((x,NameKind.cell)∈a\/∀d,i.lookup x=some d->b<=d)->(cellsFrom j a i).lookup x=some c->b<=c
 |[],_,_,_,_,h,e=>h.elim (λz=>nomatch z) λz=>z c e
 | (n,k)::r,j,b,i,g,h,e=>by
  unfold cellsFrom at e;split at e
  .refine BF r _ b _ (a1D g) ?_ e;rcases h with h|h
   .rcases a0r.mp h with z|z
    .cases z;refine .inr λd f=>?_;rw[a0M]at f;simp at f;rw[<- f];exact g
    .exact .inl z
   .refine .inr λd f=>?_;rw[a0M]at f;split at f
    .cases f;exact g
    .exact h d f
  .rename_i l;refine BF r _ b _ g (h.imp (λz=>?_) id) e;rcases a0r.mp z with q|q
   .cases q;exact absurd rfl l
   .exact q
def xW
  (h:Q (newEnv scope s.heap.objs.size globals (cellsFrom (s.heap.objs.size+1) scope.names cl) qual none .none (some env) builtinsNs) { s with heap:=pushCells (s.heap.push { cls:=.type "dict",data:=.dict #[] }) scope.names }):
  wpAny M A (newFunctionEnv scope globals cl [] qual none .none (some env)) Q E s:=by
 simp only[newFunctionEnv,Option.isSome_some,if_true];refine f8 (wpAny_alloc ?_);refine f8 (wpAny_layCells _ (λd a b=>by cases c:a==NameKind.cell<;>simp[c]) _ _ _ _ ?_);rw[show({ s with heap:=s.heap.push { cls:=.type "dict",data:=.dict #[] } }:Shared).heap.objs.size=s.heap.objs.size+1 from a1v ..];refine f8 ?_;rw[List.forIn_nil];exact a0h (a0h h)
abbrev t8(scope:Scope)(cl:a4q)(L:Addr)(env:Env):Env:={ compEnvC scope cl L env with cells:=cellsFrom (L+1) scope.names cl }
abbrev qV(X:Cx)(scope:Scope)(N:a40)(fp:a4w)(pn:a38)(s:a42)(H:Hp)(L:Addr):Cx:=
 { X with N:=N,s₀:=s,H₀:=H,env:=t8 scope (p9 X.env.cells scope.names []) L X.env,outer:=X.stack,ex:=fp,fn:=λx=>scope.names.contains (x,.cell),pn:=pn,xe:=λ_ _=>False }
def Es(X:Cx)(scope:Scope)(N:a40)(fr:a4f):Bool:=
 scope.kind == .function&&scope.names.all (λy=>y.2 != .cell || !scope.names.contains (y.1,.free))&&scope.names.all (λy=>y.2 != .local||scope.names.lookup y.1==some .local) &&
 scope.names.all (λy=>y.2 != .free||(X.env.kindOf y.1==some .cell||X.env.kindOf y.1==some .free))&&N.length==fr.length &&
 (N.zip fr).all λp=>match p.2 with|none=>true|some j=>X.N[j]?==some p.1&&scope.names.contains (p.1,.free)&&((relabel scope X.env).names.lookup p.1==some .cell||(relabel scope X.env).names.lookup p.1==some .free)
def Et(σ:St)(fr:a4f):St:=fr.map λo=>match o with|none=>none|some j=>(σ[j]?).join
def PTs(X:Cx)(b:a44)(t:TT):Prop:=
 ∀(a:a38)(s:a42)(d:St)(H:Hp)(Q:Bool->Hp->Prop),Inv X a d H s->t d H Q->
  wpAny (a4R X) X.A (forIn b true λc r=>if r=true then do let ok<-isTrue c X.env (eval c X.env);pure (ForInStep.yield ok)else pure (ForInStep.yield r)) (TP X a d Q) X.xe s
def za1:TT:=λ_ H Q=>Q true H
def Lh:PTs X [] za1:=λ_ _ a H _ I h=>wpAny_tests_nil ⟨H,I,h⟩
def Li(h:PT X c t):PTs X [c] t:=λa s b H Q I q=>wpAny_tests_one (h a s b H Q I q)
def mZ(h:(relabel scope env).names.lookup x=some .cell\/(relabel scope env).names.lookup x=some .free):(x,NameKind.free)∈scope.names\/(x,NameKind.cell)∈scope.names:=by
 have b:∀(a:a4s) k,(a.map λ(n,k)=>if(k==NameKind.free&&env.scope.kind == .function&&env.kindOf n==some .cell)then(n,NameKind.cell)else(n,k)).lookup x=some k->(k=.cell\/k=.free)->(x,NameKind.free)∈a\/(x,NameKind.cell)∈a:=by
  intro a
  induction a with
  |nil=>intro k e _;simp at e
  |cons y r f=>
   intro k e d;obtain⟨n,kd⟩:=y;rw[a0j,a0M]at e;by_cases q:(kd==NameKind.free&&env.scope.kind == .function&&env.kindOf n==some .cell)=true
   .simp only[q,if_true]at e;split at e
    .rename_i c;have hf:kd=.free:=by simp only[Bool.and_eq_true,beq_iff_eq]at q;exact q.1.1
     left;rw[a0I.mp c,hf];exact u8
    .exact(f k e d).imp (a0a _) (a0a _)
   .simp only[q,Bool.false_eq_true,if_false]at e;split at e
    .rename_i c;have g:kd=k:=a0T e;rcases d with z|z
     .right;rw[a0I.mp c,g,z];exact u8
     .left;rw[a0I.mp c,g,z];exact u8
    .exact(f k e d).imp (a0a _) (a0a _)
 rcases h with h|h
 .exact b _ _ h (.inl rfl)
 .exact b _ _ h (.inr rfl)
def p_(I:a4J)
  (a:∀n s,I n s->wpAny (model prog w) A (pyNext it) (λr d=>match r with
   |none=>R (.ok .next) d
   |some v=>wpAny (model prog w) A (letOwnedTupleGo target it v) (λ_ b=>wpAny (model prog w) A (assign target env v) (λ_ o=>
     wpAny (model prog w) A (forIn ifs true λc r=>if r=true then do let ok<-isTrue c env (eval c env);pure (ForInStep.yield ok)else pure (ForInStep.yield r)) (λok f=>
      if ok=true then wpAny (model prog w) A (eval elt env) (λx j=>wpAny (model prog w) A (call (.builtin "list.append") [acc,x]) (λ_ l=>∃m,m<n/\I m l) (λ_ _=>False) j) (λ_ _=>False) f
      else ∃m,m<n/\I m f) (λ_ _=>False) o) (λ_ _=>False) b) (λ_ _=>False) d) (λ_ _=>False) s)
  (n:Nat) (h:I n s):codeAny (model prog w) A (.compLoop (.ListComp elt [⟨target,jI,ifs,0⟩] scope pos) 0 it acc env) R s:=by
 refine codeAny_loop rfl I (λn s y=>?_) n h;show wpAny _ A ((compTurn (.ListComp elt [⟨target,jI,ifs,0⟩] scope pos) 0 it acc env).onRaise (λx=>do noteFrame x env;theTreesLotGoes x)) _ _ s;refine wpAny_noted ?_;rw[compTurn_list];refine f8 (a14 (f8 (a07 (a n s y) (λr d g=>?_) λ_ _ z=>False.elim z)));cases r with
 |none=>exact a0h g
 |some v=>
  refine f8 (a07 g (λ_ b e=>f8 (a07 e (λ_ o p=>f8 (a07 p (λok f i=>?_) λ_ _ z=>False.elim z)) λ_ _ z=>False.elim z)) λ_ _ z=>False.elim z);cases ok with
  |false=>exact a0h ⟨rfl,i⟩
  |true=>exact f8 (f8 (a07 i (λx j u=>f8 (a07 u (λ_ l q=>a0h (a0h ⟨rfl,q⟩)) λ_ _ z=>False.elim z)) λ_ _ z=>False.elim z))
def xX{X:Cx}{pins:a38}{σ:St}{n:Hp}{g:a42}{Q jI tg:a45}{ifs:a44}{a:Scope}{R:Pos}{N:a40}{fr:a4f}{it:Addr}{l:a4w}{tn:Nat->Heap->Prop}{J:It}
  {E:a41}{RR:Value->Addr->Result->Shared->Prop}
  (hc:X.calm=true) (K:Es X a N fr=true) (I2:Inv X pins σ n g) (T:Turn X.prog X.w X.K tg J l it tn) (st:tn 0 g.heap) (O:∀b∈l,xI X pins n b)
  (k:∀(d:a42)(M:Heap),Inv X pins σ (upd n g.heap.objs.size (.lst [])) d->Inv (qV X a N l (X.pn++pins) d (upd n g.heap.objs.size (.lst [])) d.heap.objs.size) [] (Et σ fr) (upd n g.heap.objs.size (.lst [])) { d with heap:=M,toks:=d.toks+0 }->(∀b o,g.heap.get? b=some o->M.get? b=some o)->(∀b∈l,(upd n g.heap.objs.size (.lst [])) b=none)->(∀U:Hp,(∀b∈l,U b=none)->∀b∈l,xI (qV X a N l (X.pn++pins) d (upd n g.heap.objs.size (.lst [])) d.heap.objs.size) [] U b)->
   codeAny (a4R X) X.A (.compLoop (.ListComp Q [⟨tg,jI,ifs,0⟩] a R) 0 (.ref it) (.ref g.heap.objs.size) (t8 a (p9 X.env.cells a.names []) d.heap.objs.size X.env)) (RR (.ref g.heap.objs.size) d.heap.objs.size) { d with heap:=M,toks:=d.toks+0 }):
  wpAny (a4R X) X.A (newList []) (λP d=>wpAny (a4R X) X.A (newFunctionEnv a X.env.globals (p9 X.env.cells a.names []) [] X.env.qual none .none (some X.env)) (λF s4=>
   codeAny (a4R X) X.A (.compStart (.ListComp Q [⟨tg,jI,ifs,0⟩] a R) 0 (.ref it) P { F with scope:=relabel a X.env }) (RR P F.locals) s4) E d) E g:=by
 unfold Es at K;simp only[Bool.and_eq_true,beq_iff_eq,List.all_eq_true]at K;obtain⟨⟨⟨⟨⟨k1,k2⟩,k3⟩,k4⟩,k5⟩,k6⟩:=K;have hcf:∀x,(x,NameKind.free)∈a.names->(x,NameKind.cell)∉a.names:=λx hf A=>by have:=k2 _ A;simp only[bne_self_eq_false,Bool.false_or,Bool.not_eq_true',List.contains_eq_mem,decide_eq_false_iff_not]at this;exact this hf
 refine a2l ?_;have f:Inv X pins σ (upd n g.heap.objs.size (.lst [])) { g with heap:=g.heap.push { cls:=.type "list",data:=.seq ([]:List Value).toArray } }:=I2.SD (ys:=[]) (its:=[]) (t':=g.toks) .nil (a0Y _);refine xW ?_;generalize hs3:({ g with heap:=g.heap.push { cls:=.type "list",data:=.seq ([]:List Value).toArray } }:Shared)=d at f ⊢;have D:=(Heap.Ns.new d.heap (.type "dict")).keeps (a3l a.names _);have r:∀b o,d.heap.get? b=some o->(pushCells (d.heap.push { cls:=.type "dict",data:=.dict #[] }) a.names).get? b=some o:=λb o e=>a3l _ _ b o (a0d _ e);have C:∀x c,(cellsFrom (d.heap.objs.size+1) a.names (p9 X.env.cells a.names [])).lookup x=some c->X.env.cells.lookup x=some c\/(d.heap.objs.size+1<=c/\∃v,(pushCells (d.heap.push { cls:=.type "dict",data:=.dict #[] }) a.names).IsCell c v):=λx c e=>by have:=Lg (x:=x) (c:=c) a.names (d.heap.push { cls:=.type "dict",data:=.dict #[] }) (p9 X.env.cells a.names []) (by rw[a1v];exact e);rw[a1v]at this;exact this.imp (Km _ [] λ_ z=>by simp at z) id
 generalize hh1:pushCells (d.heap.push { cls:=.type "dict",data:=.dict #[] }) a.names=M at D r C ⊢;have I:∀b o,g.heap.get? b=some o->d.heap.get? b=some o:=λb o e=>by rw[<- hs3];exact a0d _ e
 have H:∀b∈l,b<d.heap.objs.size/\(upd n g.heap.objs.size (.lst [])) b=none:=λb h=>by obtain⟨o,ho,_⟩:=T.obj _ _ st b h;refine⟨a0i (I _ _ ho),?_⟩;rw[zm (a0t (a0i ho))];exact(O b h).1
 have s:(qV X a N l (X.pn++pins) d (upd n g.heap.objs.size (.lst [])) d.heap.objs.size).Ok:=by
  refine⟨f.ok.mod,k1,f.ok.glob,f.ok.blt,a0e _,BC _ _ _ (λx y c e1 B=>f.ok.inj x y c (Km _ [] (λ_ z=>by simp at z) e1) (Km _ [] (λ_ z=>by simp at z) B)) (λx c e=>?_),λx hx=>?_,λx c z e=>?_,λ_=>f.ok.hd hc,f.ok.frames,.inl rfl,
   λb h=>⟨a0t (H b h).1,λx c e=>?_⟩,f.bs,a0y f.ok.bsz f.sz,λb o e h=>?_,λb h z=>?_,f.stack,f.gS⟩
  .obtain⟨v,hv⟩:=f.cell x c (Km _ [] (λ_ z=>by simp at z) e);exact a2m hv.lt
  .refine a0U.mp (BD _ _ _ ?_);rcases mZ hx with hf|hf
   .have W:=k4 _ hf;simp only[bne_self_eq_false,Bool.false_or,Bool.or_eq_true,beq_iff_eq]at W;obtain⟨c,hcx⟩:=f.ok.has x W;exact .inl (h_ _ [] (.inr ⟨hf,by rw[hcx];rfl⟩))
   .exact .inr hf
  .exact BF a.names (d.heap.objs.size+1) d.heap.objs.size _ (a1m _) (.inl (List.contains_iff_mem.mp z)) e
  .rcases C x c e with z|⟨z,_⟩
   .exact(O b h).2.2.2.2.1 x c z
   .exact λq=>absurd (a1O (a20 z) (show c<d.heap.objs.size by rw[q];exact(H b h).1)) (a1i _)
  .rcases(O b h).2.2.2.1 with z|z
   .exact I2.ok.RB b o e z
   .have:=a0i e;exact absurd (a0u this I2.ok.bsz) (Nat.not_lt.mpr z)
  .rcases a0r.mp (f.fH b z)with z|z
   .exact(O b h).2.1 z
   .exact(O b h).2.2.1 z
 have Z:(Et σ fr).length=N.length:=by unfold Et;rw[v4];exact k5.symm
 have J0:Inv (qV X a N l (X.pn++pins) d (upd n g.heap.objs.size (.lst [])) d.heap.objs.size) [] (Et σ fr) (upd n g.heap.objs.size (.lst [])) { d with heap:=M,toks:=d.toks+0 }:=by
  have I4:=f.kept (h':=M) (t':=d.toks+0) r;refine⟨s,rfl,f.bare,Un.kept r,⟨_,D,λi x v e1 B _=>?_⟩,λx c e=>(C x c e).elim (I4.cell x c) λz=>z.2,f.hok.fresh (a0e _),λx c e=>(C x c e).elim (I4.e_ x c) λz=>f.hok.fresh (a20 z.1),λp hp=>?_,I4.hok,Z,f.tk⟩
  .unfold Et at B;rw[a0D]at B;cases L:fr[i]? with
   |none=>rw[L]at B;cases B
   |some o=>
    rw[L]at B;cases o with
    |none=>cases B
    |some j=>
     have e3:(σ[j]?).join=some v:=a0T B;have hm:(x,some j)∈N.zip fr:=by refine a1Z (i:=i) ?_;rw[List.getElem?_zip_eq_some];exact⟨e1,L⟩
     have W:=k6 _ hm;simp only[Bool.and_eq_true,Bool.or_eq_true,beq_iff_eq,List.contains_iff_mem]at W;obtain⟨⟨g1,g2⟩,g3⟩:=W;have hσ:σ[j]?=some (some v):=by
      cases q:σ[j]? with
      |none=>rw[q]at e3;cases e3
      |some w=>rw[q]at e3;cases w with
       |none=>cases e3
       |some w=>cases e3;rfl
     have G:=k4 _ g2;simp only[bne_self_eq_false,Bool.false_or,Bool.or_eq_true,beq_iff_eq]at G;obtain⟨m,_,hl⟩:=I4.loc;obtain⟨u,ru,lk⟩:=hl j x v g1 hσ (by rcases G with z|z;exact .inr (.inl z);exact .inr (.inr z));refine⟨u,ru,.inr ⟨g3,?_⟩⟩;rcases lk with⟨z,_⟩|⟨_,c,ec,z⟩
     .rcases G with q|q<;>(rw[z]at q;cases q)
     .obtain⟨c',A⟩:=a0U.mp (h_ (cells:=X.env.cells) (x:=x) a.names [] (.inr ⟨g2,by rw[ec];rfl⟩));have:=Km _ [] (λ_ z=>by simp at z) A;rw[ec]at this;cases this;exact⟨c,(BE _ _ _ (hcf x g2)).trans A,z⟩
  .have S:p∈X.pn++pins:=by rw[a0s]at hp;exact hp
   obtain⟨q1,q2,q3,q4,q5⟩:=I4.pin p S;refine⟨q1,q2,a0t (a0i (f.pin p S).1),λz=>?_,q5⟩;rcases a0r.mp (f.fH _ z)with z|z
   .exact q3 z
   .exact q4 z
 have Y:∀{U:Hp},(∀b∈l,U b=none)->∀b∈l,xI (qV X a N l (X.pn++pins) d (upd n g.heap.objs.size (.lst [])) d.heap.objs.size) [] U b:=λhn b h=>
  ⟨hn b h,(s.exf b h).1,λz=>s.RD b h z,.inl h,(s.exf b h).2,λp hp=>by rw[a0s]at hp;exact(O b h).2.2.2.2.2 p hp⟩
 have loop:=k d M f J0 (λb o e=>r b o (I b o e)) (λb h=>(H b h).2) (λ_ hn=>Y hn);exact codeAny_compStart_list loop (T.self _ 0 _ _ _ (T.keep _ _ _ st λb _ o e=>r b o (I b o e)) loop)
def t9{X:Cx}{pins:a38}{σ:St}{B:Hp}{A:a42}{elt jI tg:a45}{ifs:a44}{a:Scope}{pos:Pos}{N:a40}{fr:a4f}{g:TG}{tc:TT}{te:TE}{it:Addr}{q:a4w}{tn:Nat->Heap->Prop}{J:It}
  {E:a41}{RR:Value->Addr->Result->Shared->Prop}{Q:VK}
  (hc:X.calm=true) (hok:Es X a N fr=true) (I2:Inv X pins σ B A) (T:Turn X.prog X.w X.K tg J q it tn) (st:tn 0 A.heap) (f2:∀b∈q,xI X pins B b)
  (hg:∀q pn s H L,PG (qV X a N q pn s H L) tg g) (hi:∀q pn s H L,PTs (qV X a N q pn s H L) ifs tc) (he:∀q pn s H L,PE (qV X a N q pn s H L) elt te)
  (h:∀f,B f=none->∃W:Nat->Nat->St->Hp->Prop,(∃m,W 0 m (Et σ fr) (upd B f (.lst [])))/\∀i m j l,W i m j l->
   (J.stop i l/\Q (.ref f) l)\/(J.go i l/\∃N:St->Hp->Prop,(∀j l,N j l->∃m',m'<m/\W (i+1) m' j l)/\∀x H3,J.yld i l x H3->g x j H3 λI H4=>tc I H4 λb P=>
    if b=true then te I P λv H6=>∃ys,H6 f=some (.lst ys)/\ys.length<sizeLine/\N I (upd H6 f (.lst (ys++[v])))else N I P))
  (hRR:∀f C m s' l,Inv X pins σ l s'->s'.heap.Ns C m->X.s₀.heap.objs.size<=C->l C=none->C≠X.env.locals->(∀x c,X.env.cells.lookup x=some c->c≠C)->(∀p∈X.pn++pins,p.1≠C)->Q (.ref f) l->RR (.ref f) C (.ok .next) s'):
  wpAny (a4R X) X.A (newList []) (λf w=>wpAny (a4R X) X.A (newFunctionEnv a X.env.globals (p9 X.env.cells a.names []) [] X.env.qual none .none (some X.env)) (λR s4=>
   codeAny (a4R X) X.A (.compStart (.ListComp elt [⟨tg,jI,ifs,0⟩] a pos) 0 (.ref it) f { R with scope:=relabel a X.env }) (RR f R.locals) s4) E w) E A:=by
 have hDf:B A.heap.objs.size=none:=I2.hok.fresh (a0e _);obtain⟨W,⟨m0,w0⟩,turn⟩:=h _ hDf;refine xX hc hok I2 T st f2 λw h1 I3 J0 kp fpn F=>?_;have hcc:(qV X a N q (X.pn++pins) w (upd B A.heap.objs.size (.lst [])) w.heap.objs.size).calm=true:=hc;refine p_ (λn s'=>∃i j l,Inv (qV X a N q (X.pn++pins) w (upd B A.heap.objs.size (.lst [])) w.heap.objs.size) [] j l s'/\tn i s'.heap/\(∀b∈q,l b=none)/\W i n j l) ?_ m0
  ⟨0,_,_,J0,T.keep _ _ _ st λb _ o e=>kp b o e,fpn,w0⟩
 rintro n s5 ⟨i,O,P,I5,st5,fr5,w5⟩
 rcases turn i n O P w5 with⟨stop,qn⟩|⟨go,NN,hNN,step⟩
 .refine thn (T.done (qV X a N q (X.pn++pins) w (upd B A.heap.objs.size (.lst [])) w.heap.objs.size) rfl rfl rfl hcc i [] s5 O P _ I5 (F _ fr5) st5 stop) λr s6 ⟨hr,U⟩=>?_;subst hr;have I7:Inv X pins σ P s6:=I3.ND (ch:=q) U.os U.base U.hok U.bare (λb K=>⟨(f2 b K).2.2.2.1,(f2 b K).2.1,(f2 b K).2.2.2.2.1,(f2 b K).2.2.2.2.2⟩) U.tk;obtain⟨mm,hmm,_⟩:=U.loc;refine hRR _ _ mm s6 P I7 hmm I3.sz U.free (a1U I3.lt) (λx c e z=>?_) (λp hp z=>?_) qn
  .obtain⟨v,hv⟩:=I3.cell x c e;exact absurd hv.lt (by rw[z];exact a1i _)
  .exact absurd (a0i (I3.pin p hp).1) (by rw[z];exact a1i _)
 .refine thn (T.item (qV X a N q (X.pn++pins) w (upd B A.heap.objs.size (.lst [])) w.heap.objs.size) rfl rfl rfl hcc i [] s5 O P _ I5 (F _ fr5) st5 go) λr s6 ⟨u,hr,h6⟩=>?_;subst hr;refine thn h6 λ_ s7 ⟨x,H7,I7,r7,y7,S,fr7⟩=>?_;have I7':=I7.pinned (F _ fr7) (T.obj _ _ S);have G:∀{D:St}{Y:Hp}{s9:a42},Inv (qV X a N q (X.pn++pins) w (upd B A.heap.objs.size (.lst [])) w.heap.objs.size) ([]++mF q s7.heap) D Y s9->NN D Y->
    ∃m,m<n/\∃i j l,Inv (qV X a N q (X.pn++pins) w (upd B A.heap.objs.size (.lst [])) w.heap.objs.size) [] j l s9/\tn i s9.heap/\(∀b∈q,l b=none)/\W i m j l:=λ{D Y s9} Z n9=>by
   obtain⟨m',hm,w9⟩:=hNN D Y n9;refine⟨m',hm,i+1,D,Y,Z.Zf,T.keep _ _ _ S λb K o e=>(Z.pin (b,o) (a0p _ (a0p _ (Kl K e)))).1,λb K=>?_,w9⟩;obtain⟨o,e,d⟩:=T.obj _ _ S b K;exact(Z.pin (b,o) (a0p _ (a0p _ (Kl K e)))).2.1
  refine thn (hg _ _ _ _ _ _ s7 O H7 x u _ I7' r7 (step x H7 y7)) λ_ s8 ⟨M,H8,I8,q8⟩=>?_;refine thn (hi _ _ _ _ _ _ s8 M H8 _ I8 q8) λok s9 ⟨Y,Z,q9⟩=>?_;cases ok with
  |false=>rw[if_neg (by decide)]at q9 ⊢;exact G Z q9
  |true=>rw[if_pos rfl]at q9 ⊢;refine thn (he _ _ _ _ _ _ s9 M Y _ Z q9) λy s10 ⟨v,H10,I10,r10,ys,h10,l10,q10⟩=>?_;refine thn (mQ (X:=qV X a N q (X.pn++pins) w (upd B A.heap.objs.size (.lst [])) w.heap.objs.size) _ s10 M H10 (.ref A.heap.objs.size) [v] (.ref A.heap.objs.size) [y] (λ_ H11=>NN M H11) I10 rfl (.cons r10 .nil) ⟨_,ys,v,rfl,rfl,h10,l10,q10⟩) λ_ s11 ⟨_,H11,I11,_,q11⟩=>?_;exact G I11 q11
def tLC(r:TI)(g:TG)(s:TT)(u:TE)(fr:a4f):TE:=λh H Q=>r h H λJ n=>∀a,n a=none->∃W:Nat->Nat->St->Hp->Prop,(∃m,W 0 m (Et h fr) (upd n a (.lst [])))/\∀i m c e,W i m c e->
 (J.stop i e/\Q (.ref a) e)\/(J.go i e/\∃N:St->Hp->Prop,(∀c e,N c e->∃o,o<m/\W (i+1) o c e)/\∀x l,J.yld i e x l->g x c l λd q=>s d q λb p=>
  if b=true then u d p λv j=>∃f,j a=some (.lst f)/\f.length<sizeLine/\N d (upd j a (.lst (f++[v])))else N d p)
def t_{X:Cx}{pins:a38}{σ:St}{H:Hp}{s:a42}{a:Scope}{N:a40}{fr:a4f}(b:Es X a N fr=true)(I:Inv X pins σ H s):
  a.kind=.function/\(∀y∈a.names,y.2=.local->a.names.lookup y.1=some .local)/\closureFor a X.env=pure (p9 X.env.cells a.names []):=by
 unfold Es at b;simp only[Bool.and_eq_true,beq_iff_eq,List.all_eq_true]at b;obtain⟨⟨⟨⟨⟨g,m⟩,i⟩,h⟩,j⟩,l⟩:=b;refine⟨g,λy f z=>?_,xV λy f z=>?_⟩
 .have:=i y f;rw[z]at this;simpa using this
 .have e:=h y f;rw[z]at e;simp only[bne_self_eq_false,Bool.false_or,Bool.or_eq_true,beq_iff_eq]at e;obtain⟨c,d⟩:=I.ok.has y.1 e;rw[d];rfl
def SW(N:a40)(fr:a4f)(M:X.calm=true)(f:Es X scope N fr=true)(G:PI X tg jI wi)(K:∀d i s H L,PG (qV X scope N d i s H L) tg g)(O:∀d i s H L,PTs (qV X scope N d i s H L) ifs tc)(he:∀d i s H L,PE (qV X scope N d i s H L) elt te)
  (R:∀x,foldedSetIterable jI X.env x=pure x:=by intro _;rfl):PE X (.ListComp elt [⟨tg,jI,ifs,0⟩] scope pos) (tLC wi g tc te fr):=by
 intro a s r H Q I h;obtain⟨U,B,p⟩:=t_ f I;rw[eval_ListComp];refine a26 (use:=none) rfl R p U B (thn (G a s r H _ I h) λv s1 n=>thn n λu s2 l=>?_);obtain⟨it,d,tn,J,H2,e,S,T,j,w,Y⟩:=l;subst e;refine t9 (Q:=Q) (RR:=λc C=>compPost (a4R X) X.A X.xe none (EP X a r Q) c C) M f S T j w K O he Y λc C m Z D z W n l F E A q=>?_;exact⟨m,W,λh' y=>⟨.ref c,D,z.turned (t':=Z.toks) (λb o P e=>(y.2 b P).trans e) l F (.inr n) E A,rfl,q⟩⟩
def Om(N:a40)(fr:a4f)(hN:X.N.Nodup)(hy:X.N[i]?=some y)(P:X.env.scope.names.lookup y=some .local)(hc:X.calm=true)(j:Es X scope N fr=true)(hi:PI X tg jI wi)(hg:∀f l s H L,PG (qV X scope N f l s H L) tg g)
  (ht:∀f l s H L,PTs (qV X scope N f l s H L) ifs tc) (he:∀f l s H L,PE (qV X scope N f l s H L) elt te) (A:swapsWith (.ListComp elt [⟨tg,jI,ifs,0⟩] scope pos) (some (.Name y py)) pQ.line X.env=pure true:=by rfl)
  (hs:∀x,foldedSetIterable jI X.env x=pure x:=by intro _;rfl):PS X (.Assign [.Name y py] (.ListComp elt [⟨tg,jI,ifs,0⟩] scope pos) pQ) (NO (tLC wi g tc te fr) (xH i)):=by
 intro c s K H D I h;obtain⟨k1,k3,E⟩:=t_ j I;rw[exec_Assign_Name_used _ _ _ _ A];refine f8 (a14 (f8 ?_));show wpAny _ X.A (do let _<-comprehension (.ListComp elt [⟨tg,jI,ifs,0⟩] scope pos) scope X.env _ (newList []) false (eval jI X.env) (some (assign (.Name y py) X.env))) _ _ s;refine f8 (a07 (a26 (use:=some (assign (.Name y py) X.env)) (Q:=λ_ n=>SP X c D .next n) rfl hs E k1 k3
  (thn (hi c s K H _ I h) λv s1 w=>thn w λR s2 r=>?_)) (λ_ n hq=>a0h (a0h hq)) λ_ _ z=>z)
 obtain⟨it,f,tn,J,H2,e,I2,T,p,S,hr⟩:=r;subst e;refine t9 (Q:=λv H1=>xH i v K H1 D.nx) (RR:=λd C=>compPost (a4R X) X.A X.xe (some (assign (.Name y py) X.env)) (λ_ n=>SP X c D .next n) d C) hc j I2 T p S hg ht he hr λd C m n H' Y hn w r O M Z q=>?_;show wpAny _ X.A (assign (.Name y py) X.env (.ref d)) _ _ _;refine wpAny_assign_Name (mB (v:=.ref d) Y hN hy (.inl P) rfl (λB u ⟨a,U,ha⟩=>?_) (.inr P));have G:C≠a:=λz=>by
  rcases ha with e|e
  .exact O (z.trans e)
  .exact M y a e z.symm
 obtain⟨o,es,ep,W,rr⟩:=id hn;refine⟨m,⟨o,es,ep,(U.2 C G).trans W,rr⟩,λh' F=>⟨_,H',u.turned (t':=B.toks) (λb o hb e=>(F.2 b hb).trans e) r O (.inr w) M Z,q⟩⟩
section
variable {X:Cx}
def za2:V->Option Int->Option Int->Hp->VK->Prop:=λx b a H Q=>∃z,x=.str z/\z.length<=sizeLine/\Q (.str (Txt.slice z b a)) H
def Oo:SlR X za2:=by
 intro c s y H x v D C w A B Q I f j g d h;obtain⟨z,rfl,hz,q⟩:=h;obtain⟨t,rfl⟩:=f;have b:∀{a:Value}{o:a4D},IsPart a o->∃p:Option (Int×Tok),a=partValue p/\p.map (·.1)=o:=by
  intro a o h;cases h
  .exact⟨none,rfl,rfl⟩
  .exact⟨some (_,_),rfl,rfl⟩
 obtain⟨i,rfl,rfl⟩:=b g;obtain⟨e,rfl,rfl⟩:=b d;refine⟨"str",_,F.slot_str_getitem.lookup,typeIs_str _ _ _,a0P (n:=X.m) I.tk (wpAny_getItem_str_slice (l:=i) (u:=e) (st:=none) ?_ rfl ?_)⟩
 .exact j
 .exact post_val_or_str ⟨a0y (Txt.slice_le z _ _) hz,λr k m=>⟨.str _,H,I.tok _ m,⟨r,rfl⟩,q⟩⟩
def rJoin(K:a4p):V->List V->Hp->VK->Prop:=λx c H Q=>∃a p b,x=.str a/\c=[.ref p]/\SqL K H p (b.map V.str)/\(b.map (·.length)).sum+b.length*a.length<=16777216/\Q (.str (Txt.join a b)) H
theorem BG:∀{a:a40}{b:a46},Vals (a.map V.str) b->StrsAre b a
 |[],_,.nil=>.nil
 |y::a,_,.cons ⟨t,e⟩ r=>by subst e;exact .cons y t (BG r)
def Lj:MtM X "str.join" (rJoin X.K):=by intro pins s σ H x vs v us Q I rx rv h;obtain⟨sep,p,ys,rfl,rfl,hS,hl,q⟩:=h;obtain⟨t,rfl⟩:=rx;obtain⟨u,rfl,ru⟩:=rv.one;cases ru;obtain⟨its,r,pl,_⟩:=I.list hS;exact a0P (n:=X.m) (by ac_rfl)<|join_list pl.isList (BG r) hl λt' k hn=>⟨.str _,H,I.tok _ hn,⟨t',rfl⟩,q⟩
end
def Its(x:Str):It:=⟨λi _=>i<x.cps.size,λi H v a=>a=H/\∃c,x.cps[i]?=some c/\v=.str ⟨#[c]⟩,λi _=>x.cps.size<=i⟩
def Ll(a:Addr)(x:Str)(i:Nat)(h:Heap):Prop:=∃t,h.IsStrIter a "str_ascii_iterator" x t i\/h.IsStrIter a "str_iterator" x t i
def E5{P:a4b}{w:a4e}{K:a4p}{y:Str}{O:Pos}(f:Addr)(x:Str):Turn P w K (.Name y O) (Its x) [f] f (λi h=>i<=x.cps.size/\Ll f x i h)where
 mem:=by simp
 obj:=λi h st b a=>by
  obtain rfl:b=f:=by simpa using a
  obtain⟨_,t,⟨o,e,_,d⟩|⟨o,e,_,d⟩⟩:=st<;>exact⟨o,e,λv z=>by rw[d]at z;cases z⟩
 keep:=λi h A st k=>by
  obtain⟨L,t,⟨o,e,r⟩|⟨o,e,r⟩⟩:=st
  .exact⟨L,t,.inl ⟨o,k f (by simp) o e,r⟩⟩
  .exact⟨L,t,.inr ⟨o,k f (by simp) o e,r⟩⟩
 item:=by
  intro X hP G J F i n s N H E I hf st D;subst hP G J;have c:i<x.cps.size:=D;have j:x.cps[i]?=some x.cps[i]:=Array.getElem?_eq_getElem c;obtain⟨m,l,M,u,p,q⟩:=hf f (by simp);obtain⟨_,t,st|st⟩:=st
  .refine wpAny_pyNext_ascii_item st j λA g B=>⟨_,rfl,a0h ⟨.str ⟨#[x.cps[i]]⟩,H,I.turned (t':=s.toks+1) (λb o a e=>(B.2 b a).trans e) m l u p q,⟨_,rfl⟩,⟨rfl,_,j,rfl⟩,⟨c,t,.inl g⟩,λb a=>(hf b a).1⟩⟩
  .refine wpAny_pyNext_wide_item st j λA g B=>⟨_,rfl,a0h ⟨.str ⟨#[x.cps[i]]⟩,H,I.turned (t':=s.toks+1) (λb o a e=>(B.2 b a).trans e) m l u p q,⟨_,rfl⟩,⟨rfl,_,j,rfl⟩,⟨c,t,.inr g⟩,λb a=>(hf b a).1⟩⟩
 done:=by
  intro X hP G J F i n s N H E I hf st D;subst hP G J;have c:x.cps.size<=i:=D;have j:x.cps[i]?=none:=a3r c;obtain⟨m,l,M,u,p,q⟩:=hf f (by simp);obtain⟨_,t,st|st⟩:=st
  .exact wpAny_pyNext_ascii_end (I.ok.hd F) st j λA C=>⟨rfl,I.turned (t':=s.toks) (λb o a e=>C b o a e) m l u p q⟩
  .exact wpAny_pyNext_wide_end (I.ok.hd F) st j λA C=>⟨rfl,I.turned (t':=s.toks) (λb o a e=>C b o a e) m l u p q⟩
 self:=λ_ _ _ _ _ st h=>by
  obtain⟨_,t,st|st⟩:=st
  .exact wpAny_pyIter_striter_ascii st h
  .exact wpAny_pyIter_striter_wide st h
def za3(c:TE):TI:=λb H R=>c b H λx a=>∃z,x=.str z/\R (Its z) a
def Oq(r:PE X l tl):PI X (.Name y py) l (za3 tl):=by
 intro c s d H R I h;refine thn (r c s d H _ I h) λv a ⟨x,i,f,n,z,e,q⟩=>?_;subst e;obtain⟨t,rfl⟩:=n;have j:∀o:Obj,(∀h,h.get? a.heap.objs.size=some o->Ll a.heap.objs.size z 0 h)->PIE X c d (.Name y py) R (.ref a.heap.objs.size) { a with heap:=a.heap.push o }->PIE X c d (.Name y py) R (.ref a.heap.objs.size) { a with heap:=a.heap.push o }:=λ_ _ h=>h;have mk:∀o:Obj,o.isFreed=false->(∀h:Heap,h.get? a.heap.objs.size=some o->Ll a.heap.objs.size z 0 h)->PIE X c d (.Name y py) R (.ref a.heap.objs.size) { a with heap:=a.heap.push o }:=λo hf m=>by
  have w:Inv X c d i { a with heap:=a.heap.push o }:=f.kept (t':=a.toks) λb u e=>a0d _ e;refine⟨a.heap.objs.size,[a.heap.objs.size],_,Its z,i,rfl,w,E5 _ z,⟨a0Y _,m _ (a0x _ hf)⟩,λb p=>?_,q⟩;obtain rfl:b=a.heap.objs.size:=by simpa using p
  exact f.Ni (a0e _) (f.hok.fresh (a0e _))
 cases g:z.cps.all (·<128)
 .exact wpAny_pyIter_wide g (mk _ rfl λh e=>⟨t,.inr ⟨_,e,rfl,rfl⟩⟩)
 .exact wpAny_pyIter_ascii g (mk _ rfl λh e=>⟨t,.inl ⟨_,e,rfl,rfl⟩⟩)
section
variable {X:Cx}
theorem ua:∀{bs:a47}{a:a46},Vals (bs.map V.bl) a->a=bs.map Value.bool
 |[],_,.nil=>rfl
 |b::bs,_,.cons e r=>by have c:_=Value.bool b:=e;subst c;rw[ua r];rfl
def rg{prog:a4b}{w:a4e}{A:a4i}{bs:a47}:TruthOf prog w A (λi v=>(bs.map Value.bool).toArray[i]?=some v) (λi=>bs.getD i false):=by
 intro i v s Q E h q;have a:(bs.map Value.bool)[i]?=some v:=by simpa using h
 rw[a0D]at a;cases e:bs[i]? with
 |none=>rw[e]at a;cases a
 |some b=>
  rw[e]at a;cases a;have:bs.getD i false=b:=by simp[List.getD,e]
  dsimp only at q;rw[this]at q;exact a0h q
def range_all(bs:a47):(List.range bs.length).all (λi=>bs.getD i false)=bs.all id:=by
 induction bs with
 |nil=>rfl
 |cons b bs a=>rw[a0b,List.range_succ_eq_map,a15,List.all_map,a15,<- a];rfl
def zan(K:a4p):List V->Hp->VK->Prop:=λa H Q=>∃(p:Addr)(bs:a47),a=[.ref p]/\SqL K H p (bs.map V.bl)/\Q (.bl (bs.all id)) H
def E6(w:X.calm=true):ZS X (.builtin "all") (zan X.K):=by
 intro a s m H D E Q I r h;obtain⟨p,bs,rfl,i,q⟩:=h;obtain⟨u,rfl,v⟩:=vals1 r;cases v;obtain⟨j,B,d,_⟩:=I.list i;have e:=ua B;subst e;have f:p≠s.heap.objs.size:=by obtain⟨o,c,_⟩:=d.isList;exact a0t (a0i c)
 refine a0P (n:=X.m) (by ac_rfl)<|call_all_walk (a21 d.isList ⟨s.heap.objs.size,_,_,_,_,_,_,rfl,Walks.list (A:=X.A.in1) (I.ok.hd w) s.heap.objs.size p f (bs.map Value.bool).toArray,?_,rg (bs:=bs),λl g y=>?_⟩)
 .refine⟨⟨_,a0x _ rfl,rfl,rfl⟩,?_⟩;obtain⟨o,c,x⟩:=d.isList;exact⟨o,a0d _ c,x⟩
 .intro C;have z:Inv X a m H { s with heap:=l,toks:=g }:=I.kept (t':=g) λb o e=>y b o (by simp;exact a0t (a0i e)) (a0d _ e);refine⟨.bl _,H,z,rfl,?_⟩;have:(List.map Value.bool bs).toArray.size=bs.length:=by simp
  rw[this,range_all];exact q
end
abbrev TJ:=St->Hp->Str->(Str->Hp->Prop)->Prop
section
variable {X:Cx}
def Ot:R2:=λx y H Q=>∃z i,x=.str z/\y=.int i/\z.length<=16/\-2 ^ 63<=i/\i<=1048576/\Q (.str (Txt.mul z i)) H
def xY:OpR X (binaryOp .Mult) Ot:=by intro a s j H x y v u Q I c e h;obtain⟨z,i,rfl,rfl,hz,d,b,q⟩:=h;obtain⟨t,rfl⟩:=c;obtain⟨g,rfl⟩:=e;exact a0P (n:=X.m) (by ac_rfl)<|PySem.W.KXi.mul rfl hz d b λg k _ _ f=>⟨.str _,H,I.tok _ f,⟨_,rfl⟩,q⟩
def Ou(i j:Int):Prop:=j≠0/\j.natAbs<2 ^ 8192
def E7:OpR X (binaryOp .FloorDiv) (rI Ou λi j=>.int (i.fdiv j)):=opI λ_ j _ _ _ _ _ a q=>floordiv_int a.1 q (.inl (PyProof.noPylong_of_log2 (by
 have b:j.natAbs≠0:=by have:=a.1;omega
 have:=(Nat.log2_lt b).mpr a.2;omega)))
def zao(K:a4p):List V->Hp->VK->Prop:=λb H Q=>∃(p:Addr)(a:a4k),b=[.ref p]/\SqL K H p (a.map V.int)/\Q (.int a.sum) H
theorem ia:∀{b:a4k}{c:a46},Vals (b.map V.int) c->∃a:List (Int×Tok),c=a.map (λz=>Value.int z.1 z.2)/\a.map Prod.fst=b
 |[],_,.nil=>⟨[],rfl,rfl⟩
 |n::b,_,.cons ⟨t,e⟩ r=>by subst e;obtain⟨a,rfl,rfl⟩:=ia r;exact⟨(n,t)::a,rfl,rfl⟩
def BH(l:X.calm=true):ZS X (.builtin "sum") (zao X.K):=by
 intro b s x H v B Q I r h;obtain⟨p,y,rfl,d,q⟩:=h;obtain⟨u,rfl,j⟩:=vals1 r;cases j;obtain⟨f,o,i,_⟩:=I.list d;obtain⟨a,rfl,rfl⟩:=ia o;have e:(a.map (λz=>Value.int z.1 z.2)).toArray=intItems a.toArray:=by unfold intItems;simp
 refine a0P (n:=X.m) (by ac_rfl)<|sum_intListG (xs:=a.toArray) (I.ok.hd l) (by rw[<- e];exact i.isList) λw g c m A=>?_
 refine⟨.int _,H,I.kept (t':=g) m,⟨c,?_⟩,q⟩;rw[preSum_eq,a1R (by simp)]
def Ov(K:a4p):List V->Hp->VK->Prop:=λc H Q=>∃(p:Addr)(b:a4k),c=[.ref p]/\SqL K H p (b.map V.int)/\b≠[]/\∀M,M∈b->(∀a∈b,a<=M)->Q (.int M) H
def BJ(y:X.calm=true):ZS X (.builtin "max") (Ov X.K):=by
 intro f s G H E M Q I r h;obtain⟨p,K,rfl,g,c,q⟩:=h;obtain⟨u,rfl,w⟩:=vals1 r;cases w;obtain⟨i,C,o,_⟩:=I.list g;obtain⟨b,rfl,rfl⟩:=ia C;have e:(b.map (λz=>Value.int z.1 z.2)).toArray=intItems b.toArray:=by unfold intItems;simp
 have d:0<b.toArray.size:=by
  rw[a0o];cases b with
  |nil=>exact absurd rfl c
  |cons a r=>simp
 refine a0P (n:=X.m) (by ac_rfl)<|max_intList (xs:=b.toArray) (I.ok.hd y) (by rw[<- e];exact o.isList) d λv F m A B L=>?_
 obtain⟨t,rfl⟩:=intItems_at A;obtain⟨J,l⟩:=argBest_gt (numAt b.toArray) (b.toArray.size-1);refine⟨.int _,H,I.kept (t':=m) B,⟨t,rfl⟩,q _ ?_ λa x=>?_⟩
 .rw[a36];exact getD_mem (by rw[v4];rw[a0o]at *;omega)
 .obtain⟨j,D,rfl⟩:=mem_getD x;rw[v4]at D;have:=l j (by rw[a0o];omega);rw[a36]at this;exact this
end
def Ow(C:Addr):TE:=λ_ H Q=>∀x a,H x=none->H a=none->a≠x->Q (.ref x) (upd (upd H a (.own x)) x (.ins C a []))
structure MkO(K:a4p)(C:Addr):Prop where
 makes:makesIn K C=true
 init:findIn K (.ref C) "__init__"=some (some (.builtin "object.__init__"))
 kp:keepIn K (.ref C)=true
def E8(M:MkO X.K C)(q:Gl X x)(u:X.mg x=some (.ref C))(i:(x==("__debug__":Str))=false:=by decide):PE X (.Call (.Name x p) [] [] pos) (Ow C):=by
 intro j s v H Q I h;refine a1q (bo I q u ?_ i);refine a3I I.kIn M.kp (a1N ?_);have m:=h (s.heap.objs.size+1) s.heap.objs.size (I.hok.fresh (a1m _)) (I.hok.fresh (a0e _)) (a0t (a1w _));have r:=Inv.made (C:=C) I;have Y:=makes_of (M:=model X.prog X.w) I.kIn M.makes;obtain⟨a,g,d,t,w⟩:=s;refine make_core Y (a2D I.kIn M.init) (λf=>Looks.of_pure (oi_bind f)) (.inr ⟨rfl,rfl⟩) ?_;have c:((a.push emptyDict).push (instObj C a.objs.size)).get? (a.objs.size+1)=some (instObj C a.objs.size):=by
  have:=a0x (a.push emptyDict) (o:=instObj C a.objs.size) rfl
  rwa [a1v]at this
 have l:Looks (a4R X) ((a.push emptyDict).push (instObj C a.objs.size)) (typeOf (.ref (a.objs.size+1))) (.ref C):=(Looks.ld c).andThen .now;have n:Looks (a4R X) ((a.push emptyDict).push (instObj C a.objs.size)) (isInstance (.ref (a.objs.size+1)) (.type "object")) true:=l.andThen (Y.top.keeps λb o e=>a0d _ (a0d _ e));refine a10 oi_plain entry_oi (@check_slot (a4R X) _ _ _ "object.__init__" "object" "__init__" (.ref (a.objs.size+1)) [] [] _ oi_kind oi_split n (oi_args (.ref (a.objs.size+1))) ?_);rw[show([]++[]:List Value)=[]from rfl,oi_run];exact a0h (And.intro rfl ⟨.ref (a.objs.size+1),_,r,rfl,m⟩)
def Nl(P:a4b)(w:a4e)(K:a4p)(d:a37)(a:Heap)(A:a4i)(m:Str)(C:Addr)(sp:Sp):Prop:=
 ∃k f b c,Cls K C/\Meth K C m f/\yF P w K d a (CXe P w) k f b c sp/\v8 k A/\Binds K b c []
def Hc(b:Addr->Sp->Prop)(m:Str)(E:XK)(f:TE)(t:TA):TE:=λd H Q=>f d H λx c=>∃a e fs C sp,b C sp/\x=.ref a/\c a=some (.ins C e fs)/\fs.lookup m=none/\t d c λh g=>sp (x::h) g Q E
def E9(he:PE X o ta)(hal:∀C sp,alts C sp->Nl X.prog X.w X.K X.mg X.base X.A m C sp)(hx:Passes (CXe X.prog X.w) X E)(ha:PA X (e::es) t)
  (hst:starEach (e::es) X.env=(false,eval e X.env)::starEach es X.env:=by rfl) (hpl:(backTo pos (starEach es X.env)).any (·.1)=false:=by rfl)
  (ht:eval (.Call (.Attribute o m jH) (e::es) [] pos) X.env=(do
   let ov<-eval o X.env
   standAt jH.atName
   let(f,first)<-holding [ov] (getMethod ov m pl)
   callWith pos f first (backTo pos (starEach (e::es) X.env)) (backToKw pos (keywordEach [] X.env))):=by rfl):
  PE X (.Call (.Attribute o m jH) (e::es) [] pos) (Hc alts m E ta t):=by
 intro pins s σ H Q I h;refine a3v (pl:=pl) (thn (he pins s σ H _ I h) λu s1 ⟨x,H1,I1,rx,a,dx,fs,C,sp,hin,ex,ea,l,q⟩=>?_) ht;obtain⟨k,f,fd,ps,c,hm,F,hr,hb⟩:=hal C sp hin;subst ex;obtain rfl:u=Value.ref a:=rx;refine fJ I1 ea c hm l ?_;refine a2f (first:=[.ref a]) (h₀:=X.base) I.ok.mod.kin hm.kp (thn (ha pos pins s1 σ H1 _ I1 q) λus s2 ⟨vs,H2,I2,r,q2⟩=>⟨I2.kIn,?_⟩) hst hpl;exact Bj (us:=.ref a::us) (vs:=.ref a::vs) (dvs:=[]) F hr hb .nil hx I2 (.cons rfl r) (by rwa [a0s])
def BK(he:PE X o ta)(hal:∀C sp,alts C sp->Nl X.prog X.w X.K X.mg X.base X.A m C sp)(hx:Passes (CXe X.prog X.w) X E)
  (ht:eval (.Call (.Attribute o m jH) [] [] pos) X.env=(do
   let ov<-eval o X.env
   standAt jH.atName
   let(f,first)<-holding [ov] (getMethod ov m pl)
   callWith pos f first (backTo pos (starEach [] X.env)) (backToKw pos (keywordEach [] X.env))):=by rfl):
  PE X (.Call (.Attribute o m jH) [] [] pos) (Hc alts m E ta Sv):=by
 intro pins s σ H Q I h;refine a3v (pl:=pl) (thn (he pins s σ H _ I h) λu s1 ⟨x,H1,I1,rx,a,dx,fs,C,sp,hin,ex,ea,l,q⟩=>?_) ht;obtain⟨k,f,fd,ps,c,hm,F,hr,hb⟩:=hal C sp hin;subst ex;obtain rfl:u=Value.ref a:=rx;refine fJ I1 ea c hm l ?_;exact a3I (first:=[.ref a]) I1.kIn hm.kp (Bj (us:=[.ref a]) (vs:=[.ref a]) (dvs:=[]) F hr hb .nil hx I1 (.cons rfl .nil) q)
def ub{A:a4i}{xs ys:a4a}{us ws:a46}{e:Nat->Bool}(f:Vals xs us)(d:Vals ys ws)(he:∀j x y u v,xs[j]?=some x->ys[j]?=some y->RelV x u->RelV y v->SeqAt.EqAt A s u v (e j)):
  ∀j (b:j<us.toArray.size) (a:j<ws.toArray.size),SeqAt.EqAt A s us.toArray[j] ws.toArray[j] (e j):=by
 intro j b a;rw[a0o]at b a;have n:j<xs.length:=by rw[f.length];exact b
 have o:j<ys.length:=by rw[d.length];exact a
 have h:xs[j]?=some xs[j]:=a0n n;have g:ys[j]?=some ys[j]:=a0n o;obtain⟨u,l,i⟩:=f.get h;obtain⟨w,m,c⟩:=d.get g;have q:us.toArray[j]=u:=by have:=a0n b;rw[l]at this;simpa using(a0T this).symm
 have p:ws.toArray[j]=w:=by have:=a0n a;rw[m]at this;simpa using(a0T this).symm
 rw[q,p];exact he j _ _ _ _ h g i c
theorem zH.none(s:zH H H')(h:H' q=Option.none):H q=Option.none:=by
 cases e:H q with
 |none=>rfl
 |some o=>rw[s _ _ e]at h;cases h
inductive PV where
 |i (n:Int)|s (x:Str)|b (c:Bool)|n
 |l (xs:List PV)|t (xs:List PV)|d (kvs:List (Key×PV))|o (c:Nat) (fs:List (Str×PV))|x (c:Nat) (fs:List (Str×PV))|sc (ns:a4k)|dt (kvs:a4C)
abbrev a4g:=Option PV
abbrev a4h:=List PV
abbrev a4l:=(List (Key×PV))
abbrev a4m:=(List (Str×PV))
abbrev a4H:=(PV->PV->Option Bool)
abbrev a4L:=List (Option PV)
def dtV(kvs:a4C):List (List Key×V):=kvs.map λq=>(q.1,V.int q.2)
inductive Out(α:Type)where
 |ok (a:α)|exc (c:Nat) (fs:a4m)|wall
abbrev a4c:=(List PV->Out PV)
abbrev a4N:=(PV->PV->Out PV)
def Out.bind{b d:Type}:Out b->(b->Out d)->Out d
 |.ok a,f=>f a
 |.exc c fs,_=>.exc c fs
 |.wall,_=>.wall
structure RC where
 K:Frag
 cls:Nat->Addr
def KL(K:a4p)(a:Addr)(xs:a4a):Prop:=∃(o:Obj)(b:a4u)(n:Nat),K.lookup a=some o/\o.cls=.type "list"/\o.dict=none/\o.data=.seq b n/\b.size<=sizeLine/\Vals xs b.toList
def rh(K:a4p)(N:a43)(H:Hp)(p:Addr)(vs:a4a):Prop:=(N p/\Rd H p (.lst vs))\/KL K p vs
def rh.sq{K:a4p}{N:a43}{H:Hp}{p:Addr}{vs:a4a}(h:rh K N H p vs):SqL K H p vs:=h.elim (λz=>.inl z.2) .inr
mutual
def Rep(W:RC)(M:a43)(H:Hp):PV->V->Prop
 |.i n,v=>v=.int n
 |.s x,v=>v=.str x
 |.b c,v=>v=.bl c
 |.n,v=>v=.non
 |.l f,v=>∃p e,v=.ref p/\M p/\H p=some (.lst e)/\yr W M H f e
 |.t f,v=>∃p e,v=.ref p/\SqT W.K H p e/\yr W M H f e
 |.d b,v=>∃p a,v=.ref p/\M p/\Rd H p (.dK a)/\j7 W M H b a
 |.sc g,v=>∃p,v=.ref p/\rh W.K M H p (g.map V.int)
 |.dt b,v=>∃p,v=.ref p/\M p/\Rd H p (.dT (dtV b))
 |.o c fs,v=>∃p d a,v=.ref p/\M p/\H p=some (.ins (W.cls c) d a)/\vz W M H fs a
 |.x c fs,v=>∃p d a,v=.ref p/\H p=some (XC p (W.cls c) d)/\H d=some (XD d a)/\vz W M H fs a
def yr(W:RC)(M:a43)(H:Hp):List PV->List V->Prop
 |[],a=>a=[]
 |x::b,a=>∃v r,a=v::r/\Rep W M H x v/\yr W M H b r
def j7(W:RC)(M:a43)(H:Hp):List (Key×PV)->List (Key×V)->Prop
 |[],a=>a=[]
 |b::r,a=>∃v q,a=(b.1,v)::q/\Rep W M H b.2 v/\j7 W M H r q
def vz(W:RC)(M:a43)(H:Hp):List (Str×PV)->List (Str×V)->Prop
 |[],a=>a=[]
 |b::r,a=>∃v q,a=(b.1,v)::q/\Rep W M H b.2 v/\vz W M H r q
end
def Imm:HO->Prop
 |.lst _=>False | .dK _=>False | .dT _=>False | .set _ _=>False | .ins _ _ _=>False | .tbl _=>False
 |_=>True
def Fr(M:a43)(H H':Hp):Prop:=∀a o,H a=some o->(M a\/Imm o)->H' a=some o
def Fr.rd(f:Fr M H H')(h:Rd H p u)(m:M p):Rd H' p u:=
 h.elim (λz=>.inl (f _ _ z (.inl m))) λ⟨o,z⟩=>.inr ⟨o,f _ _ z (.inl m)⟩
def Fr.sqT{M:a43}{K:a4p}{H H':Hp}(f:Fr M H H'){p:Addr}{u:a4a}(h:SqT K H p u):SqT K H' p u:=
 h.elim (λh=>.inl (h.elim (λz=>.inl (f _ _ z (.inr trivial))) λ⟨o,z⟩=>.inr ⟨o,f _ _ z (.inr trivial)⟩)) .inr
def rh.frame{K:a4p}{N:a43}{H H':Hp}(f:Fr N H H'){p:Addr}{vs:a4a}(h:rh K N H p vs):rh K N H' p vs:=h.elim (λz=>.inl ⟨z.1,f.rd z.2 z.1⟩) .inr
def jL(h:Rd H p u):H p≠none:=by rcases h with z|⟨_,z⟩<;>rw[z]<;>intro e<;>cases e
section
variable {W:RC}{M M':a43}{H H':Hp}
mutual
theorem Rep.gen(f:Fr M H H')(s:∀a,M a->H a≠none->M' a):∀{x:PV}{v:V},Rep W M H x v->Rep W M' H' x v
 |.i n,v,h=>h
 |.s x,v,h=>h
 |.b c,v,h=>h
 |.n,v,h=>h
 |.l l,v,h=>by unfold Rep at h ⊢;obtain⟨p,b,e,m,r,q⟩:=h;exact⟨p,b,e,s p m (by rw[r];intro e;cases e),f _ _ r (.inl m),yr.gen f s q⟩
 |.sc o,v,h=>by unfold Rep at h ⊢;obtain⟨p,e,r⟩:=h;exact⟨p,e,r.elim (λz=>.inl ⟨s p z.1 (by rcases z.2 with z|⟨_,z⟩<;>rw[z]<;>intro e<;>cases e),f.rd z.2 z.1⟩) .inr⟩
 |.dt g,v,h=>by unfold Rep at h ⊢;obtain⟨p,e,m,r⟩:=h;exact⟨p,e,s p m (jL r),f.rd r m⟩
 |.t l,v,h=>by unfold Rep at h ⊢;obtain⟨p,b,e,r,q⟩:=h;exact⟨p,b,e,f.sqT r,yr.gen f s q⟩
 |.d g,v,h=>by unfold Rep at h ⊢;obtain⟨p,b,e,m,r,q⟩:=h;exact⟨p,b,e,s p m (jL r),f.rd r m,j7.gen f s q⟩
 |.o c fs,v,h=>by unfold Rep at h ⊢;obtain⟨p,i,d,e,m,r,q⟩:=h;exact⟨p,i,d,e,s p m (by rw[r];intro e;cases e),f _ _ r (.inl m),vz.gen f s q⟩
 |.x c fs,v,h=>by unfold Rep at h ⊢;obtain⟨p,i,d,e,r,j,q⟩:=h;exact⟨p,i,d,e,f _ _ r (.inr trivial),f _ _ j (.inr trivial),vz.gen f s q⟩
theorem yr.gen(f:Fr M H H')(s:∀a,M a->H a≠none->M' a):∀{x:a4h}{v:a4a},yr W M H x v->yr W M' H' x v
 |[],v,h=>h
 |x::g,d,h=>by unfold yr at h ⊢;obtain⟨v,r,e,c,b⟩:=h;exact⟨v,r,e,Rep.gen f s c,yr.gen f s b⟩
theorem j7.gen(f:Fr M H H')(s:∀a,M a->H a≠none->M' a):∀{x:a4l}{v:a4d},j7 W M H x v->j7 W M' H' x v
 |[],v,h=>h
 | (k,x)::g,d,h=>by unfold j7 at h ⊢;obtain⟨v,r,e,c,b⟩:=h;exact⟨v,r,e,Rep.gen f s c,j7.gen f s b⟩
theorem vz.gen(f:Fr M H H')(s:∀a,M a->H a≠none->M' a):∀{x:a4m}{v:a4o},vz W M H x v->vz W M' H' x v
 |[],v,h=>h
 | (k,x)::g,d,h=>by unfold vz at h ⊢;obtain⟨v,r,e,c,b⟩:=h;exact⟨v,r,e,Rep.gen f s c,vz.gen f s b⟩
end
end
def Fr.refl:Fr M H H:=λ_ _ h _=>h
def zH.fr(s:zH H H'):Fr M H H':=λa o h _=>s a o h
def Rep.same(h:Rep W M H x v)(s:zH H H'):Rep W M H' x v:=Rep.gen s.fr (λ_ m _=>m) h
def yr.same(h:yr W M H x v)(s:zH H H'):yr W M H' x v:=yr.gen s.fr (λ_ m _=>m) h
def j7.same(h:j7 W M H x v)(s:zH H H'):j7 W M H' x v:=j7.gen s.fr (λ_ m _=>m) h
def Rep.sub(h:Rep W M H x v)(s:∀a,M a->H a≠none->M' a):Rep W M' H x v:=Rep.gen Fr.refl s h
def yr.sub(h:yr W M H x v)(s:∀a,M a->H a≠none->M' a):yr W M' H x v:=yr.gen Fr.refl s h
def j7.sub(h:j7 W M H x v)(s:∀a,M a->H a≠none->M' a):j7 W M' H x v:=j7.gen Fr.refl s h
def vz.sub(h:vz W M H x v)(s:∀a,M a->H a≠none->M' a):vz W M' H x v:=vz.gen Fr.refl s h
def qu(W:RC)(N M:a43)(H:Hp):PV->V->Prop
 |.l f,v=>∃p d,v=.ref p/\N p/\H p=some (.lst d)/\yr W M H f d
 |.d a,v=>∃p b,v=.ref p/\N p/\Rd H p (.dK b)/\j7 W M H a b
 |.sc g,v=>∃p,v=.ref p/\rh W.K N H p (g.map V.int)
 |.dt a,v=>∃p,v=.ref p/\N p/\Rd H p (.dT (dtV a))
 |.o c fs,v=>∃p e b,v=.ref p/\N p/\H p=some (.ins (W.cls c) e b)/\vz W M H fs b
 |x,v=>Rep W M H x v
def qu.iff:qu W M M H x v↔Rep W M H x v:=by cases x<;>simp only[qu,Rep]
def qu.gen{W:RC}{N M A y:a43}{H H':Hp}{x:PV}{v:V}(g:Fr N H H')(f:Fr M H H')(j:∀a,N a->H a≠none->A a)(s:∀a,M a->H a≠none->y a)(h:qu W N M H x v):qu W A y H' x v:=by
 cases x with
 |l E=>obtain⟨p,C,e,m,r,q⟩:=h;exact⟨p,C,e,j p m (by rw[r];intro e;cases e),g _ _ r (.inl m),q.gen f s⟩
 |d w=>obtain⟨p,u,e,m,r,q⟩:=h;exact⟨p,u,e,j p m (jL r),g.rd r m,q.gen f s⟩
 |sc D=>obtain⟨p,e,r⟩:=h;exact⟨p,e,r.elim (λz=>.inl ⟨j p z.1 (jL z.2),g.rd z.2 z.1⟩) .inr⟩
 |dt w=>obtain⟨p,e,m,r⟩:=h;exact⟨p,e,j p m (jL r),g.rd r m⟩
 |o c fs=>obtain⟨p,B,u,e,m,r,q⟩:=h;exact⟨p,B,u,e,j p m (by rw[r];intro e;cases e),g _ _ r (.inl m),q.gen f s⟩
 |i n=>exact Rep.gen f s h
 |s n=>exact Rep.gen f s h
 |b n=>exact Rep.gen f s h
 |n=>exact Rep.gen f s h
 |t n=>exact Rep.gen f s h
 |x c n=>exact Rep.gen f s h
def qu.same(h:qu W N M H x v)(s:zH H H'):qu W N M H' x v:=qu.gen s.fr s.fr (λ_ m _=>m) (λ_ m _=>m) h
def qu.sub(h:qu W N M H x v)(b:∀a,N a->H a≠none->N' a)(s:∀a,M a->H a≠none->M' a):qu W N' M' H x v:=qu.gen Fr.refl Fr.refl b s h
def Rep.weak(h:Rep W M H x v):qu W (λ_=>True) M H x v:=qu.sub (qu.iff.mpr h) (λ_ _ _=>trivial) (λ_ m _=>m)
def ib(W:RC)(M:a43)(H:Hp)(p:Addr):PV->Prop
 |.l f=>∃d,H p=some (.lst d)/\yr W M H f d
 |.d a=>∃b,H p=some (.dK b)/\j7 W M H a b
 |.dt a=>H p=some (.dT (dtV a))
 |.o c fs=>∃e b,H p=some (.ins (W.cls c) e b)/\vz W M H fs b
 |_=>False
def ib.RO(h:ib W M H p x)(n:N p):qu W N M H x (.ref p):=by
 cases x with
 |l m=>obtain⟨j,e,q⟩:=h;exact⟨p,j,rfl,n,e,q⟩
 |d f=>obtain⟨a,e,q⟩:=h;exact⟨p,a,rfl,n,.inl e,q⟩
 |dt f=>exact⟨p,rfl,n,.inl h⟩
 |o c fs=>obtain⟨g,a,e,q⟩:=h;exact⟨p,g,a,rfl,n,e,q⟩
 |i n=>exact h.elim
 |s n=>exact h.elim
 |b n=>exact h.elim
 |n=>exact h.elim
 |t n=>exact h.elim
 |x c n=>exact h.elim
 |sc n=>exact h.elim
def ib.gen(h:ib W M H p x)(hp:H' p=H p)(f:Fr M H H')(s:∀a,M a->H a≠none->M' a):ib W M' H' p x:=by
 cases x with
 |l u=>obtain⟨r,e,q⟩:=h;exact⟨r,hp.trans e,q.gen f s⟩
 |d j=>obtain⟨g,e,q⟩:=h;exact⟨g,hp.trans e,q.gen f s⟩
 |dt j=>exact hp.trans h
 |o c fs=>obtain⟨m,g,e,q⟩:=h;exact⟨m,g,hp.trans e,q.gen f s⟩
 |i n=>exact h.elim
 |s n=>exact h.elim
 |b n=>exact h.elim
 |n=>exact h.elim
 |t n=>exact h.elim
 |x c n=>exact h.elim
 |sc n=>exact h.elim
theorem ib.some{W:RC}{M:a43}{H:Hp}{p:Addr}{x:PV}(h:ib W M H p x):∃o,H p=some o/\¬Imm o:=by
 cases x with
 |l m=>obtain⟨j,e,q⟩:=h;exact⟨_,e,id⟩
 |d a=>obtain⟨f,e,q⟩:=h;exact⟨_,e,id⟩
 |dt a=>exact⟨_,h,id⟩
 |o c fs=>obtain⟨g,f,e,q⟩:=h;exact⟨_,e,id⟩
 |i n=>exact h.elim
 |s n=>exact h.elim
 |b n=>exact h.elim
 |n=>exact h.elim
 |t n=>exact h.elim
 |x c n=>exact h.elim
 |sc n=>exact h.elim
def ib.same(h:ib W M H p x)(s:zH H H'):ib W M H' p x:=by obtain⟨o,e,_⟩:=h.some;exact h.gen ((s _ _ e).trans e.symm) s.fr λ_ m _=>m
structure Bs where
 H0:Hp
 M0:Addr->Prop
 N0:Addr->Prop
 nz:∀a,N0 a->H0 a≠none
 pin:Option Addr
 xc:Addr->Prop
structure LC where
 W:RC
 E:XK
 fr:Bool
abbrev Sto:=List (Option PV)
def Bs.Mt(B:Bs):Addr->Prop:=λa=>B.M0 a\/B.H0 a=none
def Mof(B:Bs)(S:a39)(P:a49):Addr->Prop:=λa=>(B.Mt a/\¬B.xc a)/\∀i,S[i]?=some 2->P i≠a
structure Rel(W:RC)(B:Bs)(S:a39)(P:a49)(H:Hp)(σ:St)(ρ:Sto):Prop where
 same:zH B.H0 H
 len:σ.length=ρ.length
 var:∀(i:Nat) x,ρ[i]?=some (some x)->∃v,σ[i]?=some (some v)/\(S[i]?=some 2->v=.ref (P i)/\ib W (Mof B S P) H (P i) x)/\(S[i]?=some 1->qu W B.N0 (Mof B S P) H x v)/\(S[i]?≠some 2->S[i]?≠some 1->Rep W (Mof B S P) H x v)
 act:∀i,S[i]?=some 2->B.H0 (P i)=none/\∃o,H (P i)=some o/\¬Imm o
 inj:∀i j,S[i]?=some 2->S[j]?=some 2->P i=P j->i=j
 pin:S[0]?=some 2->∀p,B.pin=some p->P 0=p
 exc:∀a,B.xc a->∃o,H a=some o/\¬Imm o/\B.H0 a=none
 axc:∀i,S[i]?=some 2->¬B.xc (P i)
def Rel.keep{W:RC}{B:Bs}{S:a39}{P:a49}{H H':Hp}{σ:St}{ρ:Sto}(R:Rel W B S P H σ ρ)(s:zH H H'):Rel W B S P H' σ ρ where
 same:=R.same.trans s
 len:=R.len
 var:=λi x e=>by obtain⟨v,g,b,f,c⟩:=R.var i x e;exact⟨v,g,λz=>⟨(b z).1,(b z).2.same s⟩,λz=>(f z).same s,λz d=>(c z d).same s⟩
 act:=λi h=>⟨(R.act i h).1,let⟨o,e,n⟩:=(R.act i h).2;⟨o,s _ _ e,n⟩⟩
 inj:=R.inj
 pin:=R.pin
 exc:=λa h=>let⟨o,e,n⟩:=R.exc a h;⟨o,s _ _ e,n⟩
 axc:=R.axc
def Rel.wr(R:Rel W B S P H σ ρ)(c:S[i]?=some 2)(G:i<ρ.length)(l:σ[i]?=some (some (.ref (P i))))(s:¬Imm o)(F:ib W (Mof B S P) (upd H (P i) o) (P i) x'):Rel W B S P (upd H (P i) o) σ (ρ.set i (some x')):=by
 obtain⟨g,K,w,y⟩:=R.act i c;have f:Fr (Mof B S P) H (upd H (P i) o):=λa q e m=>by
  have:a≠P i:=λz=>by
   rcases m with m|m
   .exact m.2 i c z.symm
   .rw[z,w]at e;cases e;exact y m
  rw[zm this];exact e
 have J:Fr B.N0 H (upd H (P i) o):=λa q e m=>by
  have:a≠P i:=λz=>by
   rcases m with m|m
   .exact B.nz a m (z▸g)
   .rw[z,w]at e;cases e;exact y m
  rw[zm this];exact e
 refine⟨λa q e=>?_,by rw[a0V];exact R.len,λj x e=>?_,λj u=>?_,R.inj,R.pin,λa h=>?_,R.axc⟩
 .have:a≠P i:=λz=>by rw[z,g]at e;cases e
  rw[zm this];exact R.same a q e
 .by_cases b:i=j
  .subst b;rw[a0E G]at e;cases e;exact⟨_,l,λ_=>⟨rfl,F⟩,(λz=>by rw[c]at z;cases z),λz=>absurd c z⟩
  .rw[a0G b]at e;obtain⟨v,A,r,E,C⟩:=R.var j x e;refine⟨v,A,λz=>⟨(r z).1,?_⟩,λz=>qu.gen J f (λ_ m _=>m) (λ_ m _=>m) (E z),λz I=>Rep.gen f (λ_ m _=>m) (C z I)⟩;have:P j≠P i:=λq=>b (R.inj i j c z q.symm);exact(r z).2.gen (zm this) f λ_ m _=>m
 .by_cases b:j=i
  .subst b;exact⟨g,o,zl,s⟩
  .obtain⟨D,n,p,d⟩:=R.act j u;have:P j≠P i:=λq=>b (R.inj j i u c q);exact⟨D,n,by rw[zm this];exact p,d⟩
 .obtain⟨n,p,d⟩:=R.exc a h;by_cases e:a=P i
  .subst e;exact⟨o,zl,s,d.2⟩
  .exact⟨n,by rw[zm e];exact p,d⟩
def qd{S:a39}{i j c:Nat}(h:(S.set i 0)[j]?=some 2):S[j]?=some 2/\j≠i:=by
 by_cases e:i=j
 .subst e;rw[List.getElem?_set]at h;rw[if_pos rfl]at h;split at h<;>cases h
 .rw[a0G e]at h;exact⟨h,λz=>e z.symm⟩
def Rel.set(R:Rel W B S P H σ ρ)(q:Rep W (Mof B S P) H x v):Rel W B (S.set i 0) P H (σ.set i (some v)) (ρ.set i (some x)):=by
 have sM:∀a,Mof B S P a->H a≠none->Mof B (S.set i 0) P a:=λa m _=>⟨m.1,λj d=>m.2 j (qd (c:=0) d).1⟩;refine⟨R.same,by rw[a0V,a0V];exact R.len,λj y e=>?_,λj d=>R.act j (qd (c:=0) d).1,λj k d p=>R.inj j k (qd (c:=0) d).1 (qd (c:=0) p).1,λo=>R.pin (qd (c:=0) o).1,R.exc,λj d=>R.axc j (qd (c:=0) d).1⟩;by_cases b:i=j
 .subst b;have f:i<ρ.length:=by
   have:=(a0v.mp e).1
   rwa [a0V]at this
  rw[a0E f]at e;cases e;refine⟨v,by rw[a0E (by rw[R.len];exact f)],λz=>absurd rfl (qd (c:=0) z).2,λz=>?_,λ_ _=>q.sub sM⟩;rw[List.getElem?_set,if_pos rfl]at z;split at z<;>cases z
 .rw[a0G b]at e;obtain⟨w,r,g,n,h⟩:=R.var j y e;rw[a0G b,a0G b];exact⟨w,r,λz=>⟨(g z).1,(g z).2.gen rfl Fr.refl sM⟩,λz=>(n z).sub (λ_ m _=>m) sM,λz l=>(h z l).sub sM⟩
def Rel.za4(R:Rel W B S P H σ ρ)(s:zH H H')(hp:H p=none)(M:i<S.length)(r:i≠0)(C:ib W (λa=>Mof B S P a/\a≠p) H' p x):Rel W B (S.set i 2) (λj=>if j=i then p else P j) H' (σ.set i (some (.ref p))) (ρ.set i (some x)):=by
 have G:B.H0 p=none:=zH.none R.same hp;have g:∀{j},(S.set i 2)[j]?=some 2->j≠i->S[j]?=some 2:=λ{j} h n=>by rwa [a0G (λz=>n z.symm)]at h
 have sM:∀a,Mof B S P a->a≠p->Mof B (S.set i 2) (λj=>if j=i then p else P j) a:=λa m v=>⟨m.1,λj d=>by
  by_cases e:j=i
  .simp only[e,if_true];exact λz=>v z.symm
  .simp only[e,if_false];exact m.2 j (g d e)⟩
 have l:∀a,Mof B S P a->H a≠none->Mof B (S.set i 2) (λj=>if j=i then p else P j) a:=λa m v=>sM a m λz=>v (z▸hp);have D:∀{j},S[j]?=some 2->P j≠p:=λ{j} d z=>by obtain⟨_,o,e,_⟩:=R.act j d;rw[z,hp]at e;cases e
 refine⟨R.same.trans s,by rw[a0V,a0V];exact R.len,λj y e=>?_,λj d=>?_,λj k d F e=>?_,λA q I=>?_,λa h=>let⟨o,e,n⟩:=R.exc a h;⟨o,s _ _ e,n⟩,λj d=>?_⟩
 .by_cases b:i=j
  .subst b;have E:i<ρ.length:=by
    have:=(a0v.mp e).1
    rwa [a0V]at this
   rw[a0E E]at e;cases e;rw[a0E (by rw[R.len];exact E),a0E M];refine⟨.ref p,rfl,λ_=>⟨by simp,?_⟩,(λz=>by cases z),λz=>absurd rfl z⟩;simp only[if_true];exact C.gen rfl Fr.refl λa m _=>sM a m.1 m.2
  .rw[a0G b]at e;obtain⟨w,f,c,L,J⟩:=R.var j y e;rw[a0G b,a0G b];have u:¬j=i:=λz=>b z.symm;simp only[u,if_false];exact⟨w,f,λz=>⟨(c z).1,((c z).2.gen (H':=H) rfl Fr.refl l).same s⟩,λz=>((L z).sub (λ_ m _=>m) l).same s,λz N=>((J z N).sub l).same s⟩
 .by_cases b:j=i
  .subst b;simp only[if_true];exact⟨G,C.some⟩
  .simp only[b,if_false];obtain⟨K,o,e,n⟩:=R.act j (g d b);exact⟨K,o,s _ _ e,n⟩
 .by_cases f:j=i
  .by_cases c:k=i
   .rw[f,c]
   .simp only[f,c,if_true,if_false]at e;exact absurd e.symm (D (g F c))
  .by_cases c:k=i
   .simp only[f,c,if_true,if_false]at e;exact absurd e (D (g d f))
   .simp only[f,c,if_false]at e;exact R.inj j k (g d f) (g F c) e
 .rw[a0G r]at A;rw[if_neg (λz=>r z.symm)];exact R.pin A q I
 .by_cases e:j=i
  .rw[if_pos e];exact λz=>by obtain⟨o,q,_⟩:=R.exc p z;rw[hp]at q;cases q
  .rw[if_neg e];exact R.axc j (g d e)
def Rel.freeze(R:Rel W B S P H σ ρ)(d:S[i]?=some 2):Rel W B (S.set i 0) P H σ ρ:=by
 have sM:∀a,Mof B S P a->H a≠none->Mof B (S.set i 0) P a:=λa m _=>⟨m.1,λj b=>m.2 j (qd (c:=0) b).1⟩;refine⟨R.same,R.len,λj y e=>?_,λj b=>R.act j (qd (c:=0) b).1,λj k b s=>R.inj j k (qd (c:=0) b).1 (qd (c:=0) s).1,λn=>R.pin (qd (c:=0) n).1,R.exc,λj b=>R.axc j (qd (c:=0) b).1⟩;obtain⟨w,h,g,p,o⟩:=R.var j y e;by_cases f:i=j
 .subst f;obtain⟨rfl,q⟩:=g d;have r:i<S.length:=(a0v.mp d).1;rw[a0E r];refine⟨_,h,(λz=>by cases z),(λz=>by cases z),λ_ _=>qu.iff.mp ((q.gen (H':=H) rfl Fr.refl sM).RO ⟨⟨.inr (R.act i d).1,λz=>?_⟩,λj b e=>?_⟩)⟩
  .exact R.axc i d z
  obtain⟨l,u⟩:=qd (c:=0) b;exact u (R.inj j i l d e)
 .rw[a0G f];exact⟨w,h,λz=>⟨(g z).1,(g z).2.gen rfl Fr.refl sM⟩,λz=>(p z).sub (λ_ m _=>m) sM,λz v=>(o z v).sub sM⟩
def Rel.wrx(R:Rel W B S P H σ ρ)(f:B.xc a)(F:¬Imm o):Rel W B S P (upd H a o) σ ρ:=by
 obtain⟨J,u,w,d⟩:=R.exc a f;have b:Fr (Mof B S P) H (upd H a o):=λc q e m=>by
  have:c≠a:=λz=>by
   rcases m with m|m
   .exact m.1.2 (z▸f)
   .rw[z,u]at e;cases e;exact w m
  rw[zm this];exact e
 have I:Fr B.N0 H (upd H a o):=λc q e m=>by
  have:c≠a:=λz=>by
   rcases m with m|m
   .exact B.nz c m (z▸d)
   .rw[z,u]at e;cases e;exact w m
  rw[zm this];exact e
 have p:∀{i},S[i]?=some 2->P i≠a:=λ{i} E z=>R.axc i E (z▸f);refine⟨λc q e=>?_,R.len,λj x e=>?_,λj s=>?_,R.inj,R.pin,λc h=>?_,R.axc⟩
 .have:c≠a:=λz=>by rw[z,d]at e;cases e
  rw[zm this];exact R.same c q e
 .obtain⟨v,y,r,D,A⟩:=R.var j x e;exact⟨v,y,λz=>⟨(r z).1,(r z).2.gen (zm (p z)) b λ_ m _=>m⟩,λz=>qu.gen I b (λ_ m _=>m) (λ_ m _=>m) (D z),λz G=>Rep.gen b (λ_ m _=>m) (A z G)⟩
 .obtain⟨C,l,n,g⟩:=R.act j s;exact⟨C,l,by rw[zm (p s)];exact n,g⟩
 .by_cases e:c=a
  .subst e;exact⟨o,zl,F,d⟩
  .obtain⟨l,n,g⟩:=R.exc c h;exact⟨l,by rw[zm e];exact n,g⟩
abbrev ME:=Sto->Out PV
abbrev MT:=Sto->Out Bool
abbrev MA:=Sto->Out (List PV)
inductive Fw where
 |nx (ρ:Sto)|rt (x:PV)|bk (ρ:Sto)|ct (ρ:Sto)
abbrev MS:=Sto->Out Fw
def XPo(C:LC)(B:Bs)(c:Nat)(fs:a4m):Prop:=∀e b d a,zH B.H0 a->a e=some (XC e (C.W.cls c) b)->a b=some (XD b d)->vz C.W B.Mt a fs d->C.E (.ref e) (some b) a
def yj(C:LC)(B:Bs)(H:Hp)(R:Hp->PV->V->Prop)(Q:VK):Out PV->Prop
 |.ok r=>∀v a,zH H a->R a r v->Q v a
 |.exc c fs=>XPo C B c fs
 |.wall=>False
def m5(C:LC)(B:Bs)(H:Hp)(Q:Bool->Hp->Prop):Out Bool->Prop
 |.ok r=>∀a,zH H a->Q r a
 |.exc c fs=>XPo C B c fs
 |.wall=>False
def RV(C:LC)(B:Bs)(S:a39)(P:a49)(w:Bool)(H:Hp)(x:PV)(v:V):Prop:=qu C.W (if w=true then λ_=>True else Mof B S P) (Mof B S P) H x v
def RV.rep(h:RV C B S P false H x v):Rep C.W (Mof B S P) H x v:=qu.iff.mp h
def RV.of(h:Rep C.W (Mof B S P) H x v):RV C B S P false H x v:=qu.iff.mpr h
def RV.weak(h:RV C B S P w H x v):qu C.W (λ_=>True) (Mof B S P) H x v:=qu.sub h (λ_ _ _=>trivial) λ_ m _=>m
def RV.same(h:RV C B S P w H x v)(s:zH H H'):RV C B S P w H' x v:=qu.same h s
def LE(C:LC)(S:a39)(w:Bool)(c:TE)(m:ME):Prop:=∀B P H b a,Rel C.W B S P H b a->∀Q,yj C B H (RV C B S P w) Q (m a)->c b H Q
def LT(C:LC)(S:a39)(c:TT)(m:MT):Prop:=∀B P H b a,Rel C.W B S P H b a->∀Q,m5 C B H Q (m a)->c b H Q
def EM(X:Cx)(C:LC)(S:a39)(w:Bool)(e:a45)(m:ME):Prop:=X.K=C.W.K->∃a,PE X e a/\LE C S w a m
def TM(X:Cx)(C:LC)(S:a39)(e:a45)(m:MT):Prop:=X.K=C.W.K->∃a,PT X e a/\LT C S a m
def TWM(X:Cx)(C:LC)(S:a39)(e:a45)(m:MT):Prop:=X.K=C.W.K->∃a,PW X e a/\LT C S a m
def yj.bind(h:yj C B H R Q (o.bind f))(k:∀r,o=.ok r->∀v a,zH H a->R0 a r v->yj C B a R Q (f r)->Q' v a)(i:∀a,zH H a->∀x v,R a x v->R a x v):yj C B H R0 Q' o:=by
 cases o with
 |ok r=>exact λv a s d=>k r rfl v a s d (by
   show yj C B a R Q (f r);have h:yj C B H R Q (f r):=h;revert h;cases f r with
   |ok x=>exact λh v b e g=>h v b (s.trans e) g
   |exc c fs=>exact id
   |wall=>exact id)
 |exc c fs=>exact h
 |wall=>exact h
def z7(h:yj C B H R Q (o.bind f))(k:∀r v a,zH H a->R0 a r v->yj C B a R Q (f r)->Q' v a):yj C B H R0 Q' o:=
 yj.bind h (λr _ v a s b hp=>k r v a s b hp) λ_ _ _ _ h=>h
def Yp(h:yj C B H R Q o)(s:zH H H2):yj C B H2 R Q o:=by
 cases o with
 |ok x=>exact λv a b d=>h v a (s.trans b) d
 |exc c fs=>exact h
 |wall=>exact h
def bw(h:m5 C B H Q o)(s:zH H H2):m5 C B H2 Q o:=by
 cases o with
 |ok x=>exact λa b=>h a (s.trans b)
 |exc c fs=>exact h
 |wall=>exact h
def xZ(h:m5 C B H Q (o.bind f))(k:∀r v a,zH H a->R0 a r v->m5 C B a Q (f r)->Q' v a):yj C B H R0 Q' o:=by
 cases o with
 |ok r=>exact λv a s b=>k r v a s b (bw (o:=f r) h s)
 |exc c fs=>exact h
 |wall=>exact h
def V0(h:m5 C B H Q (o.bind f))(k:∀r a,zH H a->m5 C B a Q (f r)->Q' r a):m5 C B H Q' o:=by
 cases o with
 |ok r=>exact λa s=>k r a s (bw (o:=f r) h s)
 |exc c fs=>exact h
 |wall=>exact h
def zd(i:Nat):ME:=λa=>match a[i]? with|some (some x)=>.ok x|_=>.wall
def mC(x:PV):ME:=λ_=>.ok x
section
variable {X:Cx}{C:LC}{S:a39}{e a b:a45}{w w1 w2:Bool}{m m1 m2:ME}
def EM.weak(h:EM X C S w e m):EM X C S true e m:=λg=>by
 obtain⟨j,o,i⟩:=h g;refine⟨j,o,λB P H n d R Q q=>i B P H n d R Q ?_⟩;revert q;cases m d with
 |ok r=>exact λq v f s l=>q v f s (by unfold RV;rw[if_pos rfl];exact l.weak)
 |exc c fs=>exact id
 |wall=>exact id
def lv(R:Rel C.W B S P H σ ρ)(q:yj C B H R' Q (zd i ρ))(k:∀x v,σ[i]?=some (some v)->ρ[i]?=some (some x)->R' H x v):tR i σ H Q:=by
 unfold zd at q;cases e:ρ[i]? with
 |none=>rw[e]at q;exact q.elim
 |some o=>
  cases o with
  |none=>rw[e]at q;exact q.elim
  |some x=>rw[e]at q;obtain⟨v,c,_⟩:=R.var i x e;exact⟨v,c,q v H (zH.refl _) (k x v c e)⟩
def zj(h:PE X e (tR i))(d:S[i]?≠some 2/\S[i]?≠some 1:=by decide):EM X C S false e (zd i):=λ_=>⟨_,h,λB P H l j R Q q=>lv R q λx v g e=>by
 obtain⟨n,c,_,_,f⟩:=R.var i x e;rw[g]at c;cases c;exact RV.of (f d.1 d.2)⟩
def Ox(h:PE X e (tR i)):EM X C S true e (zd i):=λ_=>⟨_,h,λB P H p o R Q q=>lv R q λx v n e=>by
 obtain⟨r,c,g,l,j⟩:=R.var i x e;rw[n]at c;cases c;show qu C.W (if true=true then _ else _) _ _ _ _;rw[if_pos rfl];by_cases d:S[i]?=some 2
 .obtain⟨rfl,z⟩:=g d;exact z.RO trivial
 .by_cases f:S[i]?=some 1
  .exact(l f).sub (λ_ _ _=>trivial) λ_ m _=>m
  .exact(j d f).weak⟩
def RP(h:PE X e (tC v))(c:∀M H,Rep C.W M H x v):EM X C S false e (mC x):=λ_=>⟨_,h,λB P H f d R Q q=>q v H (zH.refl _) (RV.of (c _ _))⟩
def zV(h:PE X e (tC (.int i))):EM X C S false e (mC (.i i)):=RP h λ_ _=>rfl
def yX(h:PE X e (tC (.str i))):EM X C S false e (mC (.s i)):=RP h λ_ _=>rfl
def QQ(h:PE X e (tC (.bl i))):EM X C S false e (mC (.b i)):=RP h λ_ _=>rfl
def WG(h:PE X e (tC .non)):EM X C S false e (mC .n):=RP h λ_ _=>rfl
def mOp(p:a4N)(m1 m2:ME):ME:=λc=>(m1 c).bind λx=>(m2 c).bind λy=>p x y
def mUn(p:PV->Out PV)(m1:ME):ME:=λc=>(m1 c).bind p
def New(M:a43)(H:Hp):Prop:=∀p,H p=none->M p
def Rel.new(R:Rel W B S P H σ ρ):New (Mof B S P) H:=λp h=>⟨⟨.inr (zH.none R.same h),λz=>by obtain⟨o,q,_⟩:=R.exc p z;rw[h]at q;cases q⟩,λi c e=>by obtain⟨_,o,q,_⟩:=R.act i c;rw[e,h]at q;cases q⟩
def RV.eq:RV C B S P false=Rep C.W (Mof B S P):=by
 funext H x v;exact propext qu.iff
def Lf2(W:RC)(r:R2)(p:a4N):Prop:=∀(M:a43)(C:LC)(B:Bs) H x y v u Q,New M H->qu W (λ_=>True) M H x v->qu W (λ_=>True) M H y u->yj C B H (Rep W M) Q (p x y)->r v u H Q
def Lf1(W:RC)(r:V->Hp->VK->Prop)(p:PV->Out PV):Prop:=∀(M:a43)(C:LC)(B:Bs) H x v Q,New M H->qu W (λ_=>True) M H x v->yj C B H (Rep W M) Q (p x)->r v H Q
def E_(L:Lf2 C.W r p)(j:LE C S w1 ta m1)(h:LE C S w2 tb m2):LE C S false (tOp r ta tb) (mOp p m1 m2):=λB P H f c R Q q=>
 j B P H f c R _ (z7 q λx v o d n z=>h B P o f c (R.keep d) _ (z7 z λy u s g l i=>L _ C B s x y v u Q ((R.keep d).keep g).new (n.same g).weak l.weak (RV.eq▸i)))
def zt(o:OpR X (binaryOp op) r)(L:Lf2 C.W r p)(j:EM X C S w1 a m1)(g:EM X C S w2 b m2):EM X C S false (.BinOp a op b pos) (mOp p m1 m2):=λc=>by obtain⟨n,h,i⟩:=j c;obtain⟨l,d,f⟩:=g c;exact⟨_,NR o h d,E_ L i f⟩
def ic(o:UnR X (unaryOp op) r)(L:Lf1 C.W r p)(h:EM X C S w1 a m1):EM X C S false (.UnaryOp op a pos) (mUn p m1):=λj=>by obtain⟨u,d,n⟩:=h j;exact⟨_,Ss o d,λB P H g c R Q q=>n B P H g c R _ (z7 q λx v l f i s=>L _ C B l x v Q (R.keep f).new i.weak (RV.eq▸s))⟩
def Uw(o:OpR X (compareOp op) r)(L:Lf2 C.W r p)(l:EM X C S w1 a m1)(h:EM X C S w2 b m2)(g:behindInMarks op b=false):EM X C S false (.Compare a [op] [b] pos) (mOp p m1 m2):=λc=>by obtain⟨q,i,j⟩:=l c;obtain⟨n,d,f⟩:=h c;exact⟨_,IK o i d g,E_ L j f⟩
def asB:PV->Out Bool
 |.b c=>.ok c
 |_=>.wall
def z9(m:ME):MT:=λc=>(m c).bind asB
def bx(h:LE C S w te m):LT C S (IL te) (z9 m):=λB P H i f R Q q=>
 h B P H i f R _ (xZ q λx v g l j d=>by
  cases x with
  |b c=>exact⟨c,(show v=.bl c from j),d g (zH.refl _)⟩
  |_=>exact d.elim)
def yA(o:OpR X (compareOp op) r)(L:Lf2 C.W r p)(l:EM X C S w1 a m1)(h:EM X C S w2 b m2)(g:behindInMarks op b=false):TM X C S (.Compare a [op] [b] pos) (z9 (mOp p m1 m2)):=λc=>by obtain⟨q,i,j⟩:=l c;obtain⟨n,d,f⟩:=h c;exact⟨_,pV o i d g,bx (E_ L j f)⟩
def m6(p q:a4N)(m1 m2 d:ME):ME:=λc=>(m1 c).bind λx=>(m2 c).bind λy=>(p x y).bind λz=>(asB z).bind λk=>if k=true then(d c).bind λu=>q y u else .ok (.b false)
variable {c:a45}{w3:Bool}{m3:ME}
def Fb(L:Lf2 C.W r p)(N:Lf2 C.W r' p')(E:LE C S w1 ta m1)(s:LE C S w2 tb m2)(F:LE C S w3 tc m3):LE C S false (GY r r' ta tb tc) (m6 p p' m1 m2 m3):=λB P H i f R Q q=>
 E B P H i f R _ (z7 q λx v K g G O=>s B P K i f (R.keep g) _ (z7 O λy u T h n A=>L _ C B T x y v u _ ((R.keep g).keep h).new (G.same h).weak n.weak (z7 A λz W j l M d=>by
  cases z with
  |b k=>
   refine⟨k,(show W=.bl k from M),?_⟩;have d:yj C B j (RV C B S P false) Q (if k=true then(m3 f).bind λu=>p' y u else .ok (.b false)):=d;cases k with
   |true=>exact Ha (F B P j i f (((R.keep g).keep h).keep l) _ (z7 d λt U D o I J=>N _ C B D y t u U Q ((((R.keep g).keep h).keep l).keep o).new ((n.same l).same o).weak I.weak (RV.eq▸J)))
   |false=>exact G_ (d (.bl false) j (zH.refl _) (RV.of rfl))
  |_=>exact d.elim)))
def Fc(o:OpR X (compareOp op) r)(f:OpR X (compareOp op') r')(L:Lf2 C.W r p)(i:Lf2 C.W r' p')(x:EM X C S w1 a m1)(q:EM X C S w2 b m2)(j:EM X C S w3 c m3)
  (l:lastMarks [op,op'] [b,c]=false:=by with_unfolding_all rfl):TM X C S (.Compare a [op,op'] [b,c] pos) (z9 (m6 p p' m1 m2 m3)):=λd=>by
 obtain⟨A,s,v⟩:=x d;obtain⟨z,g,h⟩:=q d;obtain⟨y,u,n⟩:=j d;exact⟨_,EG o f s g u l,bx (Fb L i v h n)⟩
end
def pI(g:Int->Int->PV):PV->PV->Out PV
 |.i a,.i b=>.ok (g a b)
 |_,_=>.wall
def pU(g:Int->PV):PV->Out PV
 |.i a=>.ok (g a)
 |_=>.wall
def Oy(c:∀a b M H,Rep W M H (g a b) (gv a b)):Lf2 W (rI0 gv) (pI g):=λM C B H x y v u Q f d e q=>by
 cases x with
 |i a=>
  cases y with
  |i b=>exact⟨a,b,d,e,q _ H (zH.refl _) (c a b _ _)⟩
  |_=>exact q.elim
 |_=>exact q.elim
def za5(b:∀a M H,Rep W M H (g a) (gv a)):Lf1 W (rU gv) (pU g):=λM C B H x v Q d c q=>by
 cases x with
 |i a=>exact⟨a,c,q _ H (zH.refl _) (b a _ _)⟩
 |_=>exact q.elim
abbrev WH:=pI λa b=>.i (a-b)
abbrev pLt:=pI λa b=>.b (decide (a<b))
abbrev pLe:=pI λa b=>.b (decide (a<=b))
abbrev pGt:=pI λa b=>.b (decide (b<a))
abbrev pGe:=pI λa b=>.b (decide (b<=a))
abbrev pO:=pU λa=>.i (-a)
def jM:Lf2 W (rI0 λi j=>.int (i-j)) WH:=Oy λ_ _ _ _=>rfl
def WI:Lf1 W (rU λi=>.int (-i)) pO:=za5 λ_ _ _=>rfl
section
variable {W:RC}{M:a43}{H:Hp}
def yr.nil:yr W M H [] []:=rfl
def yr.cons(h:Rep W M H x v)(t:yr W M H xs vs):yr W M H (x::xs) (v::vs):=⟨v,vs,rfl,h,t⟩
def yr.len:∀{a:a4h}{b:a4a},yr W M H a b->b.length=a.length
 |[],_,h=>by cases(show _=_ from h);rfl
 |x::a,_,h=>by obtain⟨v,r,rfl,_,c⟩:=h;rw[a0b,a0b,yr.len c]
def yr.get:∀{a:a4h}{c:a4a}{i:Nat}{x:PV},yr W M H a c->a[i]?=some x->∃v,c[i]?=some v/\Rep W M H x v
 |[],_,_,_,_,e=>by simp at e
 |x::a,_,0,y,h,e=>by obtain⟨v,r,rfl,d,b⟩:=h;simp at e;subst e;exact⟨v,rfl,d⟩
 |x::a,_,i+1,y,h,e=>by obtain⟨v,r,rfl,d,b⟩:=h;simp only[List.getElem?_cons_succ]at e ⊢;exact yr.get b e
def yr.Nn:∀{a:a4h}{c:a4a}{i:Nat}{v:V},yr W M H a c->c[i]?=some v->∃x,a[i]?=some x/\Rep W M H x v
 |[],_,_,_,h,e=>by cases(show _=_ from h);simp at e
 |x::a,_,0,y,h,e=>by obtain⟨v,r,rfl,d,b⟩:=h;simp at e;subst e;exact⟨x,rfl,d⟩
 |x::a,_,i+1,y,h,e=>by obtain⟨v,r,rfl,d,b⟩:=h;simp only[List.getElem?_cons_succ]at e ⊢;exact yr.Nn b e
def yr.append:∀{a b:a4h}{c d:a4a},yr W M H a c->yr W M H b d->yr W M H (a++b) (c++d)
 |[],_,_,_,h,k=>by cases(show _=_ from h);exact k
 |x::a,_,_,_,h,k=>by obtain⟨v,r,rfl,f,e⟩:=h;exact⟨v,_,rfl,f,yr.append e k⟩
def yr.take:∀{a:a4h}{b:a4a}(n:Nat),yr W M H a b->yr W M H (a.take n) (b.take n)
 |[],_,_,h=>by cases(show _=_ from h);simp;exact yr.nil
 |x::a,_,0,h=>yr.nil
 |x::a,_,n+1,h=>by obtain⟨v,r,rfl,d,c⟩:=h;exact⟨v,_,rfl,d,yr.take n c⟩
def yr.drop:∀{a:a4h}{b:a4a}(n:Nat),yr W M H a b->yr W M H (a.drop n) (b.drop n)
 |[],_,_,h=>by cases(show _=_ from h);simp;exact yr.nil
 |x::a,_,0,h=>h
 |x::a,_,n+1,h=>by obtain⟨v,r,rfl,d,c⟩:=h;exact yr.drop n c
def yr.set{x:PV}{v:V}(d:Rep W M H x v):∀{a:a4h}{c:a4a}(n:Nat),yr W M H a c->yr W M H (a.set n x) (c.set n v)
 |[],_,_,h=>by cases(show _=_ from h);simp;exact yr.nil
 |y::a,_,0,h=>by obtain⟨v,r,rfl,e,b⟩:=h;exact⟨_,_,rfl,d,b⟩
 |y::a,_,n+1,h=>by obtain⟨v,r,rfl,e,b⟩:=h;exact⟨v,_,rfl,e,yr.set d n b⟩
def yr.ints:∀{a:a4k},yr W M H (a.map PV.i) (a.map V.int)
 |[]=>rfl
 |n::a=>⟨_,_,rfl,rfl,yr.ints⟩
theorem yr.at(h:yr W M H xs vs)(e:atI xs i=some x):∃v,atI vs i=some v/\Rep W M H x v:=by
 unfold atI at e ⊢;rw[h.len];cases q:ixN xs.length i with
 |none=>rw[q]at e;cases e
 |some j=>rw[q]at e;exact h.get e
def yr.cut{xs:a4h}{vs:a4a}{a b:a4D}(h:yr W M H xs vs):yr W M H ((xs.drop (HT.sIx xs.length 0 a)).take (HT.sIx xs.length xs.length b-HT.sIx xs.length 0 a)) (G4 vs a b):=by unfold G4;rw[h.len];exact(h.drop _).take _
def j7.iff:∀{c:a4l}{b:a4d},j7 W M H c b↔b.map (·.1)=c.map (·.1)/\yr W M H (c.map (·.2)) (b.map (·.2))
 |[],b=>⟨λh=>by cases(show _=_ from h);exact⟨rfl,rfl⟩,λh=>by cases b with|nil=>rfl|cons a r=>cases h.1⟩
 |i::r,b=>by
  constructor
  .rintro ⟨v,q,rfl,g,f⟩
   obtain⟨e,t⟩:=j7.iff.mp f;exact⟨by simp only[List.map_cons,e],v,_,rfl,g,t⟩
  .rintro ⟨e,v,q,d,g,f⟩
   cases b with
   |nil=>cases d
   |cons a b=>simp only[List.map_cons,List.cons.injEq]at e d;refine⟨a.2,b,by rw[<- e.1],by rw[d.1];exact g,j7.iff.mpr ⟨e.2,by rw[d.2];exact f⟩⟩
def vz.iff:∀{c:a4m}{b:a4o},vz W M H c b↔b.map (·.1)=c.map (·.1)/\yr W M H (c.map (·.2)) (b.map (·.2))
 |[],b=>⟨λh=>by cases(show _=_ from h);exact⟨rfl,rfl⟩,λh=>by cases b with|nil=>rfl|cons a r=>cases h.1⟩
 |i::r,b=>by
  constructor
  .rintro ⟨v,q,rfl,g,f⟩
   obtain⟨e,t⟩:=vz.iff.mp f;exact⟨by simp only[List.map_cons,e],v,_,rfl,g,t⟩
  .rintro ⟨e,v,q,d,g,f⟩
   cases b with
   |nil=>cases d
   |cons a b=>simp only[List.map_cons,List.cons.injEq]at e d;refine⟨a.2,b,by rw[<- e.1],by rw[d.1];exact g,vz.iff.mpr ⟨e.2,by rw[d.2];exact f⟩⟩
def vz.lookup:∀{a:a4m}{b:a4o}{f:Str}{x:PV},vz W M H a b->a.lookup f=some x->∃v,b.lookup f=some v/\Rep W M H x v
 |[],_,_,_,_,e=>by cases e
 |g::r,_,f,x,h,e=>by
  obtain⟨v,q,rfl,i,d⟩:=h;rw[a0M]at e ⊢;by_cases c:(f==g.1)=true
  .simp only[c]at e ⊢;cases e;exact⟨v,rfl,i⟩
  .simp only[c]at e ⊢;exact vz.lookup d e
def vz.BL:∀{a:a4m}{b:a4o}{f:Str},vz W M H a b->a.lookup f=none->b.lookup f=none
 |[],_,_,h,_=>by cases(show _=_ from h);rfl
 |g::r,_,f,h,e=>by
  obtain⟨v,q,rfl,i,d⟩:=h;rw[a0M]at e ⊢;by_cases c:(f==g.1)=true
  .simp only[c]at e;cases e
  .simp only[c]at e ⊢;exact vz.BL d e
def BM(n:New M H)(hp:H p=none)(h:yr W M H xs vs):Rep W M (upd H p (.lst vs)) (.l xs) (.ref p):=⟨p,vs,rfl,n p hp,zl,h.same (zH.upd hp)⟩
def Lm(hp:H p=none)(h:yr W M H xs vs):Rep W M (upd H p (.tup vs)) (.t xs) (.ref p):=⟨p,vs,rfl,SqT.of zl,h.same (zH.upd hp)⟩
end
def Oz:R2:=λx y H Q=>(rI0 (λi j=>.int (i+j)) x y H Q\/∃i j,x=.str i/\y=.str j/\i.length+j.length<=sizeLine/\Q (.str (i++j)) H)\/zal x y H Q
def zL:OpR X (binaryOp .Add) Oz:=(NT.or xM).or G7
def z0:PV->PV->Out PV
 |.i a,.i b=>.ok (.i (a+b))
 |.s a,.s b=>if a.length+b.length<=sizeLine then .ok (.s (a++b))else .wall
 |.l a,.l b=>if a.length+b.length<=sizeLine then .ok (.l (a++b))else .wall
 |_,_=>.wall
def zM:Lf2 W Oz z0:=λM C B H x y v u Q n c a q=>by
 unfold z0 at q;split at q
 .exact .inl (.inl ⟨_,_,c,a,q _ H (zH.refl _) rfl⟩)
 .split at q
  .rename_i h;exact .inl (.inr ⟨_,_,c,a,h,q _ H (zH.refl _) rfl⟩)
  .exact q.elim
 .split at q
  .rename_i h;obtain⟨p,i,rfl,_,e,r⟩:=c;obtain⟨f,b,rfl,_,g,d⟩:=a;exact .inr ⟨p,f,i,b,rfl,rfl,e,g,by rw[r.len,d.len];exact h,λz hz=>q _ _ (zH.upd hz) (BM n hz (r.append d))⟩
  .exact q.elim
 .exact q.elim
def OA:R2:=λx y H Q=>(rI GX (λi j=>.int (i*j)) x y H Q\/rI E4 (λi j=>.int (i*j)) x y H Q)\/(Ot x y H Q\/zam x y H Q)
def QY:OpR X (binaryOp .Mult) OA:=(NU.or Lf).or (xY.or N9)
instance{i j:Int}:Decidable (GX i j):=by unfold GX;infer_instance
instance{i j:Int}:Decidable (Nj i j):=by unfold Nj;infer_instance
instance{i j:Int}:Decidable (NS i j):=by unfold NS;infer_instance
def Ky:PV->PV->Out PV
 |.i a,.i b=>if GX a b\/(a.natAbs<2 ^ 8192/\b.natAbs<2 ^ 8192)then .ok (.i (a*b))else .wall
 |.s a,.i b=>if a.length<=16/\-2 ^ 63<=b/\b<=1048576 then .ok (.s (Txt.mul a b))else .wall
 |.l a,.i b=>if -(2 ^ 63)<=b/\b<2 ^ 63/\a.length*b.toNat<=sizeLine then .ok (.l (List.replicate b.toNat a).flatten)else .wall
 |_,_=>.wall
def yr.rep{W:RC}{M:a43}{H:Hp}{xs:a4h}{vs:a4a}(h:yr W M H xs vs):∀n,yr W M H (List.replicate n xs).flatten (List.replicate n vs).flatten
 |0=>rfl
 |n+1=>by rw[a1l,a1l,a1u,a1u];exact h.append (h.rep n)
def QZ:Lf2 W OA Ky:=λM C B H x y v u Q n a b q=>by
 unfold Ky at q;split at q
 .split at q
  .rename_i h;rcases h with h|h
   .exact .inl (.inl ⟨_,_,a,b,h,q _ H (zH.refl _) rfl⟩)
   .exact .inl (.inr ⟨_,_,a,b,h,q _ H (zH.refl _) rfl⟩)
  .exact q.elim
 .split at q
  .rename_i h;exact .inr (.inl ⟨_,_,a,b,h.1,h.2.1,h.2.2,q _ H (zH.refl _) rfl⟩)
  .exact q.elim
 .split at q
  .rename_i h;obtain⟨p,c,rfl,_,e,r⟩:=a;exact .inr (.inr ⟨p,_,c,rfl,b,e,h.1,h.2.1,by rw[r.len];exact h.2.2,λz hz=>q _ _ (zH.upd hz) (BM n hz (r.rep _))⟩)
  .exact q.elim
 .exact q.elim
def OB:R2:=λx y H Q=>rI Nj (λi j=>.int (i / j)) x y H Q\/rI Ou (λi j=>.int (i.fdiv j)) x y H Q
def jN:OpR X (binaryOp .FloorDiv) OB:=IH.or E7
def qM:PV->PV->Out PV
 |.i a,.i b=>if Nj a b then .ok (.i (a / b))else if b≠0/\b.natAbs<2 ^ 8192 then .ok (.i (a.fdiv b))else .wall
 |_,_=>.wall
def jO:Lf2 W OB qM:=λM C B H x y v u Q n a b q=>by
 unfold qM at q;split at q
 .split at q
  .rename_i h;exact .inl ⟨_,_,a,b,h,q _ H (zH.refl _) rfl⟩
  .split at q
   .rename_i h;exact .inr ⟨_,_,a,b,h,q _ H (zH.refl _) rfl⟩
   .exact q.elim
 .exact q.elim
def OC:R2:=λx y H Q=>rI (λ_ j=>0<j) (λi j=>.int (i % j)) x y H Q\/rI (λ_ j=>j≠0) (λi j=>.int (i.fmod j)) x y H Q
def zF:OpR X (binaryOp .Mod) OC:=NV.or II
def zQ:PV->PV->Out PV
 |.i a,.i b=>if 0<b then .ok (.i (a % b))else if b≠0 then .ok (.i (a.fmod b))else .wall
 |_,_=>.wall
def zG:Lf2 W OC zQ:=λM C B H x y v u Q n a b q=>by
 unfold zQ at q;split at q
 .split at q
  .rename_i h;exact .inl ⟨_,_,a,b,h,q _ H (zH.refl _) rfl⟩
  .split at q
   .rename_i h;exact .inr ⟨_,_,a,b,h,q _ H (zH.refl _) rfl⟩
   .exact q.elim
 .exact q.elim
def rj:PV->PV->Out PV
 |.i a,.i b=>if NS a b then .ok (.i (a ^ b.toNat))else .wall
 |_,_=>.wall
def bz:Lf2 W (rI NS λi j=>.int (i ^ j.toNat)) rj:=λM C B H x y v u Q n a b q=>by
 unfold rj at q;split at q
 .split at q
  .rename_i h;exact⟨_,_,a,b,h,q _ H (zH.refl _) rfl⟩
  .exact q.elim
 .exact q.elim
def ie:Lf2 W (rI0 λi j=>.bl (decide (i<j))) pLt:=Oy λ_ _ _ _=>rfl
def ig:Lf2 W (rI0 λi j=>.bl (decide (i<=j))) pLe:=Oy λ_ _ _ _=>rfl
def ij:Lf2 W (rI0 λi j=>.bl (decide (j<i))) pGt:=Oy λ_ _ _ _=>rfl
def Ln:Lf2 W (rI0 λi j=>.bl (decide (j<=i))) pGe:=Oy λ_ _ _ _=>rfl
def isN:PV->Bool
 |.n=>true
 |_=>false
def AR(a:Bool):PV->PV->Out PV
 |x,.n=>.ok (.b (xor a (isN x)))
 |_,_=>.wall
def OD(h:qu W N M H x v):decide (v=.non)=isN x:=by
 cases x with
 |n=>cases(show v=_ from h);rfl
 |i a=>cases(show v=_ from h);rfl
 |s a=>cases(show v=_ from h);rfl
 |b a=>cases(show v=_ from h);rfl
 |l a=>obtain⟨p,_,rfl,_⟩:=h;rfl
 |t a=>obtain⟨p,_,rfl,_⟩:=h;rfl
 |d a=>obtain⟨p,_,rfl,_⟩:=h;rfl
 |o c a=>obtain⟨p,_,_,rfl,_⟩:=h;rfl
 |x c a=>obtain⟨p,_,_,rfl,_⟩:=h;rfl
 |sc a=>obtain⟨p,rfl,_⟩:=h;rfl
 |dt a=>obtain⟨p,rfl,_⟩:=h;rfl
def uc:Lf2 W (λx y H Q=>y=.non/\Q (.bl (decide (x=.non))) H) (AR false):=λM C B H x y v u Q n a b q=>by
 unfold AR at q;split at q
 .refine⟨b,?_⟩;rw[OD a];exact q _ H (zH.refl _) (by rw[a1X];rfl)
 .exact q.elim
def BO:Lf2 W (λx y H Q=>y=.non/\Q (.bl (!decide (x=.non))) H) (AR true):=λM C B H x y v u Q n a b q=>by
 unfold AR at q;split at q
 .refine⟨b,?_⟩;rw[OD a];exact q _ H (zH.refl _) (by rw[a17];rfl)
 .exact q.elim
def tY.rk(e:Rd H a (.dK kvs)):tY H a (kV k) (dR kvs k):=.inl ⟨kvs,k,e,rfl,rfl⟩
def RFr(W:RC)(M:a43)(H:Hp)(b:Hp)(x:PV)(v:V):Prop:=∃p,v=.ref p/\H p=none/\ib W (λa=>M a/\a≠p) b p x
def RFr.rep(n:New M H)(h:RFr W M H H2 x v):Rep W M H2 x v:=by obtain⟨p,rfl,hp,h⟩:=h;exact qu.iff.mp ((h.RO (N:=M) (n p hp)).sub (λ_ m _=>m) λ_ m _=>m.1)
def LFr(C:LC)(S:a39)(c:TE)(m:ME):Prop:=∀B P H b a,Rel C.W B S P H b a->∀Q,yj C B H (RFr C.W (Mof B S P) H) Q (m a)->c b H Q
def FM(X:Cx)(C:LC)(S:a39)(e:a45)(m:ME):Prop:=X.K=C.W.K->∃a,PE X e a/\LFr C S a m
def WJ(h:yj C B H R Q o)(k:∀x v a,zH H a->R' a x v->R a x v):yj C B H R' Q o:=by
 cases o with
 |ok r=>exact λv a s b=>h v a s (k _ _ _ s b)
 |exc c fs=>exact h
 |wall=>exact h
def FM.em(h:FM X C S e m):EM X C S false e m:=λa=>by obtain⟨c,i,d⟩:=h a;exact⟨c,i,λB P H g b R Q q=>d B P H g b R Q (WJ q λx v j s f=>RV.of (f.rep R.new))⟩
def RVs(C:LC)(B:Bs)(S:a39)(P:a49)(H:Hp):List Bool->List PV->List V->Prop
 |[],b,a=>b=[]/\a=[]
 |w::e,b,a=>∃x v d c,b=x::d/\a=v::c/\RV C B S P w H x v/\RVs C B S P H e d c
def x3(C:LC)(B:Bs)(H:Hp)(R:Hp->List PV->List V->Prop)(Q:List V->Hp->Prop):Out (List PV)->Prop
 |.ok r=>∀v a,zH H a->R a r v->Q v a
 |.exc c fs=>XPo C B c fs
 |.wall=>False
def LA(C:LC)(S:a39)(ws:a47)(c:TA)(m:MA):Prop:=∀B P H b a,Rel C.W B S P H b a->∀Q,x3 C B H (λd=>RVs C B S P d ws) Q (m a)->c b H Q
def AM(X:Cx)(C:LC)(S:a39)(ws:a47)(es:a44)(m:MA):Prop:=X.K=C.W.K->∃a,PA X es a/\LA C S ws a m
def zk:MA:=λ_=>.ok []
def zb(m:ME)(ms:MA):MA:=λa=>(m a).bind λx=>(ms a).bind λb=>.ok (x::b)
def x4{b:Type}{f:PV->Out b}{T:Hp->Out b->Prop}(g:∀H a o,zH H a->T H o->T a o)(i:∀c fs,T H (.exc c fs)->XPo C B c fs)(d:T H .wall->False)
  (h:T H (o.bind f)) (k:∀r v a,zH H a->R a r v->T a (f r)->Q' v a):yj C B H R Q' o:=by
 cases o with
 |ok r=>exact λv a s e=>k r v a s e (g _ _ _ s h)
 |exc c fs=>exact i _ _ h
 |wall=>exact d h
def rn(s:zH H H2)(h:x3 C B H R Q o):x3 C B H2 R Q o:=by
 cases o with
 |ok x=>exact λv a b d=>h v a (s.trans b) d
 |exc c fs=>exact h
 |wall=>exact h
def qe(h:yj C B H R Q (o.bind f))(k:∀r v a,zH H a->R' a r v->yj C B a R Q (f r)->Q' v a):x3 C B H R' Q' o:=by
 cases o with
 |ok r=>exact λv a s b=>k r v a s b (Yp (o:=f r) h s)
 |exc c fs=>exact h
 |wall=>exact h
section
variable {X:Cx}{C:LC}{S:a39}{e a b:a45}{es:a44}{w w1:Bool}{ws:a47}{m m1 m2:ME}{ms:MA}{t1 t2:MT}{pos:Pos}
def ze:AM X C S [] [] zk:=λ_=>⟨_,fK,λB P H d c R Q q=>q [] H (zH.refl _) ⟨rfl,rfl⟩⟩
def za(h:EM X C S w e m)(I:AM X C S ws es ms)(D:starEach (e::es) X.env=(false,eval e X.env)::starEach es X.env:=by rfl):AM X C S (w::ws) (e::es) (zb m ms):=λj=>by
 obtain⟨K,r,F⟩:=h j;obtain⟨J,y,p⟩:=I j;refine⟨_,QW r y D,λB P H i d R Q q=>F B P H i d R _ (x4 (T:=λH o=>x3 C B H (λf=>RVs C B S P f (w::ws)) Q o) (λ_ _ _ s h=>rn s h) (λ_ _ h=>h) (λh=>h) q λx v E u A g=>?_)⟩;refine p B P E i d (R.keep u) _ ?_;revert g;cases ms d with
 |ok G=>exact λg n f l z=>g (v::n) f l ⟨x,v,G,n,rfl,rfl,A.same l,z⟩
 |exc c fs=>exact id
 |wall=>exact id
def RVs.RQ{B:Bs}{P:a49}{H:Hp}:∀{ws:a47}{h:a4h}{g:a4a},RVs C B S P H ws h g->ws.all (!·)=true->yr C.W (Mof B S P) H h g
 |[],_,_,⟨d,f⟩,_=>by subst d;subst f;rfl
 |w::ws,_,_,⟨x,v,n,l,d,f,i,j⟩,c=>by subst d;subst f;simp only[List.all_cons,Bool.and_eq_true,Bool.not_eq_true']at c;rw[c.1]at i;exact⟨v,l,rfl,i.rep,RVs.RQ j c.2⟩
def V1(ms:MA):ME:=λd=>(ms d).bind λc=>if c.length<=sizeLine then .ok (.l c)else .wall
def Ux(ms:MA):ME:=λd=>(ms d).bind λc=>if c.length<=sizeLine then .ok (.t c)else .wall
def q_(h:AM X C S ws es ms)(o:ws.all (!·)=true:=by rfl):FM X C S (.List es pos) (V1 ms):=λr=>by
 obtain⟨y,g,v⟩:=h r;refine⟨_,NX g,λB P H j f R Q q=>v B P H j f R _ (qe q λA u x i l c=>?_)⟩;have d:=l.RQ o;split at c
 .rename_i s;exact⟨by rw[d.len];exact s,λp hp=>c _ _ (zH.upd hp) ⟨p,rfl,zH.none i hp,u,zl,(d.sub λa m n=>⟨m,λz=>n (z▸hp)⟩).same (zH.upd hp)⟩⟩
 .exact c.elim
def jP{x1}(h:AM X C S ws es ms)(l:ws.all (!·)=true:=by rfl):EM X C S false (.Tuple es x1 pos) (Ux ms):=λn=>by
 obtain⟨x,g,r⟩:=h n;refine⟨_,fL g,λB P H i f R Q q=>r B P H i f R _ (qe q λy v u s j c=>?_)⟩;have d:=j.RQ l;split at c
 .rename_i o;exact⟨by rw[d.len];exact o,λp hp=>c _ _ (zH.upd hp) (RV.of (Lm hp d))⟩
 .exact c.elim
def fP(t u:MT):MT:=λd=>(t d).bind λc=>if c=true then u d else .ok false
def mOr(t u:MT):MT:=λd=>(t d).bind λc=>if c=true then .ok true else u d
def ud(t:MT):MT:=λd=>(t d).bind λc=>.ok (!c)
def BP(m1 m2:ME):ME:=λd=>(m1 d).bind λx=>(asB x).bind λc=>if c=true then m2 d else .ok (.b false)
def Np(m1 m2:ME):ME:=λd=>(m1 d).bind λx=>(asB x).bind λc=>if c=true then .ok (.b true)else m2 d
def TWM.tm(h:TWM X C S e t1):TM X C S e t1:=λc=>let⟨tt,a1,a2⟩:=h c;⟨tt,a1.pt,a2⟩
def Q1(h:TM X C S a t1):TWM X C S (.BoolOp .And [a] pos) t1:=λc=>let⟨tt,a1,a2⟩:=h c;⟨tt,pw_and1 a1,a2⟩
def m7(h:TM X C S a t1):TWM X C S (.BoolOp .Or [a] pos) t1:=λc=>let⟨tt,a1,a2⟩:=h c;⟨tt,pw_or1 a1,a2⟩
variable {rest:a44}
def WK(h:TM X C S a t1)(n:TWM X C S (.BoolOp .And (b::rest) pos) t2):TWM X C S (.BoolOp .And (a::b::rest) pos) (fP t1 t2):=λg=>by
 obtain⟨u,o,s⟩:=h g;obtain⟨v,r,l⟩:=n g;refine⟨_,pw_and o r,λB P H f d R Q q=>s B P H f d R _ (V0 q λc i p j=>?_)⟩;cases c with
 |true=>exact Ha (l B P i f d (R.keep p) _ j)
 |false=>exact G_ (j i (zH.refl _))
def x5(h:TM X C S a t1)(n:TWM X C S (.BoolOp .Or (b::rest) pos) t2):TWM X C S (.BoolOp .Or (a::b::rest) pos) (mOr t1 t2):=λg=>by
 obtain⟨u,o,s⟩:=h g;obtain⟨v,r,l⟩:=n g;refine⟨_,pw_or o r,λB P H f d R Q q=>s B P H f d R _ (V0 q λc i p j=>?_)⟩;cases c with
 |true=>exact Ha (j i (zH.refl _))
 |false=>exact G_ (l B P i f d (R.keep p) _ j)
def Uy(h:TM X C S a t1):TM X C S (.UnaryOp .Not a pos) (ud t1):=λd=>by obtain⟨o,j,n⟩:=h d;exact⟨_,NI j,λB P H l g R Q q=>n B P H l g R _ (V0 q λc i p f=>f i (zH.refl _))⟩
def KG(h:EM X C S w e m)(he:∀c,isTrue e X.env c=(do let v<-c;standAt e.pos;holding [v] (truthy v)):=by intro _;rfl):TM X C S e (z9 m):=λd=>by obtain⟨i,f,g⟩:=h d;exact⟨_,NH f he,bx g⟩
def m8{op}(h:EM X C S w a m):EM X C S w (.BoolOp op [a] pos) m:=λc=>let⟨tt,a1,a2⟩:=h c;⟨tt,NJ a1,a2⟩
def Hd(h:EM X C S w1 a m1)(n:EM X C S false (.BoolOp .And (b::rest) pos) m2):EM X C S false (.BoolOp .And (a::b::rest) pos) (BP m1 m2):=λi=>by
 obtain⟨y,o,u⟩:=h i;obtain⟨z,r,l⟩:=n i;refine⟨_,NK o r,λB P H g f R Q q=>u B P H g f R _ (z7 q λx v j p s d=>?_)⟩;cases x with
 |b c=>
  refine⟨c,(show v=.bl c from s),?_⟩;cases c with
  |true=>exact Ha (l B P j g f (R.keep p) _ d)
  |false=>exact G_ (d _ j (zH.refl _) (RV.of rfl))
 |_=>exact d.elim
def Lo(h:EM X C S w1 a m1)(n:EM X C S false (.BoolOp .Or (b::rest) pos) m2):EM X C S false (.BoolOp .Or (a::b::rest) pos) (Np m1 m2):=λi=>by
 obtain⟨y,o,u⟩:=h i;obtain⟨z,r,l⟩:=n i;refine⟨_,Sj o r,λB P H g f R Q q=>u B P H g f R _ (z7 q λx v j p s d=>?_)⟩;cases x with
 |b c=>
  refine⟨c,(show v=.bl c from s),?_⟩;cases c with
  |true=>exact Ha (d _ j (zH.refl _) (RV.of rfl))
  |false=>exact G_ (l B P j g f (R.keep p) _ d)
 |_=>exact d.elim
end
def z5{a b:Type}[DecidableEq a](kvs:List (a×b))(k:a):Option b:=(kvs.find? λc=>decide (c.1=k)).map (·.2)
def j7.get{W:RC}{M:a43}{H:Hp}:∀{a:a4l}{b:a4d}{k:Key}{x:PV},j7 W M H a b->z5 a k=some x->∃v,dR b k=some v/\Rep W M H x v
 |[],_,_,_,_,e=>by cases e
 |f::r,_,k,x,h,e=>by
  obtain⟨v,q,rfl,g,d⟩:=h;unfold z5 at e;unfold dR;rw[a2b]at e ⊢;by_cases c:f.1=k
  .simp only[c,decide_true]at e ⊢;cases e;exact⟨v,rfl,g⟩
  .simp only[c,decide_false]at e ⊢;exact j7.get d e
def j7.RS{W:RC}{M:a43}{H:Hp}:∀{a:a4l}{b:a4d}{k:Key},j7 W M H a b->z5 a k=none->dR b k=none
 |[],_,_,h,_=>by cases(show _=_ from h);rfl
 |f::r,_,k,h,e=>by
  obtain⟨v,q,rfl,g,d⟩:=h;unfold z5 at e;unfold dR;rw[a2b]at e ⊢;by_cases c:f.1=k
  .simp only[c,decide_true]at e;cases e
  .simp only[c,decide_false]at e ⊢;exact j7.RS d e
def j7.za6(h:j7 W M H kvs es):(dR es k).isSome=(z5 kvs k).isSome:=by
 cases e:z5 kvs k with
 |none=>rw[h.RS e];rfl
 |some x=>obtain⟨v,q,_⟩:=h.get e;rw[q];rfl
def pk:PV->Option Key
 |.i n=>some (.inl n)
 |.s x=>some (.inr x)
 |_=>none
def ik(h:qu W N M H x v)(e:pk x=some k):v=kV k:=by
 cases x with
 |i n=>cases e;exact h
 |s n=>cases e;exact h
 |_=>cases e
def zap:R2:=λx y H Q=>∃a v,x=.ref a/\tY H a y (some v)/\Q v H
def BQ(w:X.A.units+1<cLine):IxR X zap:=by
 intro d e f s o H x y v u Q I n p h z;obtain⟨a,A,rfl,g,q⟩:=h;cases n;have l:=pZ I g;unfold subscriptTail;refine f8 ?_;rw[getitemInPython_of_ne l.not_modules];refine f8 (wpAny_specialOf l PySem.F.slot_dict_getitem.lookup ?_);have c:wpAny (a4R X) X.A (subscripted e false (.ref a) u) (λr b=>wpAny (a4R X) X.A (letTemporaryGo d (.ref a) r >>= λ_=>pure r) (EP X f o Q) X.xe b) X.xe s:=by rw[z];exact wpAny_operating (a07 (Bt w I g p λA B m j=>⟨_,H,m,j,q⟩) (λr b i=>f8 (wpAny_letTemporaryGo (a0h i))) λ_ _ x=>x)
 first
  |exact a0h (f8 c)
  |exact f8 (a0h (f8 c))
  |exact f8 c
def za7(K:a4p):R2:=λx y H Q=>rIx K x y H Q\/zap x y H Q
def j8{b:Type}:Option b->Out b
 |some a=>.ok a
 |none=>.wall
def pIx:PV->PV->Out PV
 |.l b,.i k=>j8 (atI b k)
 |.t b,.i k=>j8 (atI b k)
 |.sc d,.i k=>j8 ((atI d k).map PV.i)
 |.s z,.i k=>if z.length<=sizeLine then j8 ((atI z.cps.toList k).map λc=>.s ⟨#[c]⟩)else .wall
 |.d a,y=>j8 ((pk y).bind λk=>z5 a k)
 |_,_=>.wall
def yW(h:yj C B H R Q (j8 o)):∃x,o=some x/\∀v a,zH H a->R a x v->Q v a:=by
 cases o with
 |none=>exact h.elim
 |some x=>exact⟨x,rfl,h⟩
def SX:Lf2 W (za7 W.K) pIx:=λM C B H x y v u Q n d b q=>by
 unfold pIx at q;split at q
 .obtain⟨x,e,q⟩:=yW q;obtain⟨p,h,rfl,_,a,r⟩:=d;obtain⟨v,f,g⟩:=r.at e;exact .inl (.inl ⟨p,h,_,v,rfl,b,SqL.of a,f,q v H (zH.refl _) g⟩)
 .obtain⟨x,e,q⟩:=yW q;obtain⟨p,h,rfl,a,r⟩:=d;obtain⟨v,f,g⟩:=r.at e;exact .inl (.inr (.inl ⟨p,h,_,v,rfl,b,a,f,q v H (zH.refl _) g⟩))
 .obtain⟨x,e,q⟩:=yW q;obtain⟨p,rfl,a⟩:=d;obtain⟨z,hz,rfl⟩:=a0c.mp e;refine .inl (.inl ⟨p,_,_,.int z,rfl,b,a.sq,?_,q _ H (zH.refl _) rfl⟩);unfold atI at hz ⊢;rw[v4];cases c:ixN _ _ with
  |none=>rw[c]at hz;cases hz
  |some j=>rw[c,Option.bind_some]at hz;show(List.map V.int _)[j]?=_;rw[a0D,hz];rfl
 .split at q
  .rename_i a;obtain⟨x,e,q⟩:=yW q;obtain⟨z,hz,rfl⟩:=a0c.mp e;exact .inl (.inr (.inr ⟨_,_,z,d,b,a,hz,q _ H (zH.refl _) rfl⟩))
  .exact q.elim
 .obtain⟨x,e,q⟩:=yW q;obtain⟨p,l,rfl,_,a,r⟩:=d;obtain⟨k,i,e⟩:=a0B.mp e;obtain⟨v,f,g⟩:=r.get e;exact .inr ⟨p,v,rfl,by rw[ik b i,<- f];exact tY.rk a,q v H (zH.refl _) g⟩
 .exact q.elim
def SY(g:X.A.units+1<cLine)(l:EM X C S w1 a m1)(h:EM X C S w2 b m2)(f:g9 b:=by intro _ _;rfl):EM X C S false (.Subscript a b pos) (mOp pIx m1 m2):=λc=>by obtain⟨n,i,j⟩:=l c;obtain⟨m,d,e⟩:=h c;exact⟨_,NZ (N6.or (BQ g)) i d f,E_ (by rw[c];exact SX) j e⟩
def toV:PV->Option V
 |.i a=>some (.int a)
 |.s a=>some (.str a)
 |.b a=>some (.bl a)
 |.n=>some .non
 |_=>none
def bA(h:qu W N M H x v)(e:toV x=some u):v=u/\ay u=true:=by cases x<;>first|(cases e;exact⟨h,rfl⟩)|cases e
def S0:Option Bool->Option Bool->Option Bool
 |some a,some b=>some (a&&b)
 |_,_=>none
def Nq(f:a4H):List PV->List PV->Option Bool
 |[],[]=>some true
 |x::b,y::a=>S0 (f x y) (Nq f b a)
 |_,_=>some false
def Nr(f:a4H)(b:a4l):List (Key×PV)->Option Bool
 |[]=>some true
 |a::r=>match z5 b a.1 with
  |none=>some false
  |some y=>S0 (f a.2 y) (Nr f b r)
def OE(x y:PV):Option Bool:=match toV x,toV y with|some a,some b=>some (eqV a b)|_,_=>none
def BR:Nat->PV->PV->Option Bool
 |n+1,.l a,.l b=>Nq (BR n) a b
 |n+1,.t a,.t b=>Nq (BR n) a b
 |_,x,y=>OE x y
def RT(n:Nat):PV->PV->Option Bool
 |.d a,.d b=>if a.length=b.length then Nr (BR n) b a else some false
 |x,y=>BR n x y
def WL(h:S0 a b=some c):∃p q,a=some p/\b=some q/\c=(p&&q):=by cases a<;>cases b<;>first|(cases h;done)|(cases h;exact⟨_,_,rfl,rfl,rfl⟩)
theorem ue{f:a4H}:∀{a c:a4h}{b:Bool},Nq f a c=some b->a.length≠c.length->b=false
 |[],[],_,_,h=>absurd rfl h
 |[],_::_,_,h,_=>by cases h;rfl
 |_::_,[],_,h,_=>by cases h;rfl
 |x::a,y::c,b,h,n=>by obtain⟨p,q,_,d,rfl⟩:=WL h;rw[ue d (λz=>n (by rw[a0b,a0b,z])),a1W]
theorem rA{f:a4H}:∀{d g:a4h}{b:Bool},Nq f d g=some b->∃e:Nat->Bool,(∀j x y,d[j]?=some x->g[j]?=some y->f x y=some (e j))/\b=((List.range (min d.length g.length)).all e&&d.length==g.length)
 |[],[],b,h=>⟨λ_=>true,(λj x y h=>by simp at h),by cases h;rfl⟩
 |[],_::_,b,h=>⟨λ_=>true,(λj x y h=>by simp at h),by cases h;simp⟩
 |_::_,[],b,h=>⟨λ_=>true,(λj x y _ h=>by simp at h),by cases h;simp⟩
 |x::d,y::g,b,h=>by
  obtain⟨p,q,o,n,rfl⟩:=WL h;obtain⟨e,m,rfl⟩:=rA n;refine⟨λj=>match j with|0=>p|j+1=>e j,λj a c i l=>?_,?_⟩
  .cases j with
   |zero=>simp only[List.getElem?_cons_zero,Option.some.injEq]at i l;subst i;subst l;exact o
   |succ j=>simp only[List.getElem?_cons_succ]at i l;exact m j a c i l
  .simp only[List.length_cons,Nat.add_min_add_right,List.range_succ_eq_map,List.all_cons,List.all_map,Bool.and_assoc];congr 1;simp[Function.comp_def]
section
variable {X:Cx}{pins:a38}{σ:St}{H:Hp}{s:a42}{W:RC}
def Lp(I:Inv X pins σ H s)(R:W.K=X.K):∀{n:Nat}{x y:PV}{b:Bool}{v:V}{N M o i:a43},BR n x y=some b->qu W N M H x v->qu W o i H y v->b=true:=by
 have C:∀{x y:PV}{b:Bool}{v:V}{N M o i:a43},OE x y=some b->qu W N M H x v->qu W o i H y v->b=true:=by
  intro x y b v N M o i h f d;unfold OE at h;cases A:toV x with
  |none=>rw[A]at h;cases h
  |some a=>
   cases G:toV y with
   |none=>rw[A,G]at h;cases h
   |some c=>rw[A,G]at h;obtain⟨T,J⟩:=bA f A;obtain⟨z,_⟩:=bA d G;cases h;rw[<- T]at J ⊢;rw[<- z];cases v<;>first|rfl|(cases J;done)|(simp[eqV];done)
 intro n
 induction n with
 |zero=>intro x y b v N M o i h;exact C (by cases x<;>cases y<;>exact h)
 |succ n L=>
  have u:∀{j g:a4h}{m:a4a}{b:Bool}{M i:a43},Nq (BR n) j g=some b->yr W M H j m->yr W i H g m->b=true:=by
   intro j
   induction j with
   |nil=>intro g m b M i h f d;cases(show _=_ from f);cases g with
    |nil=>cases h;rfl
    |cons y g=>obtain⟨_,_,e,_⟩:=d;cases e
   |cons x j F=>
    intro g m b M i h f d;obtain⟨v,r,rfl,Q,S⟩:=f;cases g with
    |nil=>cases(show _=_ from d)
    |cons y g=>obtain⟨U,B,e,O,D⟩:=d;cases e;obtain⟨p,q,hp,P,rfl⟩:=WL h;rw[L hp (qu.iff.mpr Q) (qu.iff.mpr O),F P S D];rfl
  intro x y b v N M o i h f d;cases x with
  |l j=>
   cases y with
   |l g=>obtain⟨p,m,rfl,_,e,r⟩:=f;obtain⟨K,E,z,_,w,B⟩:=d;cases z;rw[e]at w;cases w;exact u h r B
   |_=>exact C h f d
  |t j=>
   cases y with
   |t g=>obtain⟨p,m,rfl,e,r⟩:=f;obtain⟨K,E,z,w,B⟩:=d;cases z;rw[R]at e w;cases I.mD e w;exact u h r B
   |_=>exact C h f d
  |_=>exact C (by cases y<;>exact h) f d
def He(f:RelV y u)(d:RelV x v)(g:ay y=true)(e:ay x=true):SeqAt.RcAt A s u v (eqV y x)/\SeqAt.RcNeAt A s u v (!eqV y x):=by
 cases y with
 |non=>
  cases f;cases x with
  |non=>cases d;exact⟨SeqAt.RcAt.none_none,SeqAt.RcNeAt.none_none⟩
  |bl b=>cases d;exact⟨SeqAt.RcAt.none_bool b,SeqAt.RcNeAt.none_bool b⟩
  |int b=>obtain⟨t,rfl⟩:=d;exact⟨SeqAt.RcAt.none_int b t,SeqAt.RcNeAt.none_int b t⟩
  |str b=>obtain⟨t,rfl⟩:=d;exact⟨SeqAt.RcAt.none_str b t,SeqAt.RcNeAt.none_str b t⟩
  |_=>exact absurd (show false=true from e) a0q
 |bl a=>
  cases f;cases x with
  |non=>cases d;exact⟨SeqAt.RcAt.bool_none a,SeqAt.RcNeAt.bool_none a⟩
  |bl b=>cases d;exact⟨SeqAt.RcAt.bool_bool a b,SeqAt.RcNeAt.bool_bool a b⟩
  |int b=>obtain⟨t,rfl⟩:=d;exact⟨SeqAt.RcAt.bool_int a b t,SeqAt.RcNeAt.bool_int a b t⟩
  |str b=>obtain⟨t,rfl⟩:=d;exact⟨SeqAt.RcAt.bool_str a b t,SeqAt.RcNeAt.bool_str a b t⟩
  |_=>exact absurd (show false=true from e) a0q
 |int a=>
  obtain⟨c,rfl⟩:=f;cases x with
  |non=>cases d;exact⟨SeqAt.RcAt.int_none a c,SeqAt.RcNeAt.int_none a c⟩
  |bl b=>cases d;exact⟨SeqAt.RcAt.int_bool a c b,SeqAt.RcNeAt.int_bool a c b⟩
  |int b=>obtain⟨t,rfl⟩:=d;exact⟨SeqAt.RcAt.int_int a c b t,SeqAt.RcNeAt.int_int a c b t⟩
  |str b=>obtain⟨t,rfl⟩:=d;exact⟨SeqAt.RcAt.int_str a c b t,SeqAt.RcNeAt.int_str a c b t⟩
  |_=>exact absurd (show false=true from e) a0q
 |str a=>
  obtain⟨c,rfl⟩:=f;cases x with
  |non=>cases d;exact⟨SeqAt.RcAt.str_none a c,SeqAt.RcNeAt.str_none a c⟩
  |bl b=>cases d;exact⟨SeqAt.RcAt.str_bool a c b,SeqAt.RcNeAt.str_bool a c b⟩
  |int b=>obtain⟨t,rfl⟩:=d;exact⟨SeqAt.RcAt.str_int a c b t,SeqAt.RcNeAt.str_int a c b t⟩
  |str b=>obtain⟨t,rfl⟩:=d;exact⟨SeqAt.RcAt.str_str a c b t,SeqAt.RcNeAt.str_str a c b t⟩
  |_=>exact absurd (show false=true from e) a0q
 |_=>exact absurd (show false=true from g) a0q
def il(h:OE x y=some b)(m:qu W N M H x xv)(l:qu W N' M' H y yv)(f:RelV xv u)(g:RelV yv v):
  SeqAt.EqAt A s u v b/\SeqAt.RcAt A s u v b/\SeqAt.RcNeAt A s u v (!b):=by
 unfold OE at h;cases d:toV x with
 |none=>rw[d]at h;cases h
 |some a=>
  cases j:toV y with
  |none=>rw[d,j]at h;cases h
  |some c=>rw[d,j]at h;cases h;obtain⟨rfl,i⟩:=bA m d;obtain⟨rfl,e⟩:=bA l j;exact⟨G5 f g i e,(He f g i e).1,(He f g i e).2⟩
def Lq(I:Inv X pins σ H s)(hK:W.K=X.K):∀(n:Nat){A:a4i}{x y:PV}{b:Bool}{P K:V}{u v:Value}{N M N' M':a43},BR n x y=some b->qu W N M H x P->qu W N' M' H y K->RelV P u->RelV K v->A.units+n<cLine->
  SeqAt.EqAt A s u v b/\SeqAt.RcAt A s u v b/\SeqAt.RcNeAt A s u v (!b):=by
 intro n
 induction n with
 |zero=>intro A x y b P K u v N M N' M' h i g a d _;exact il (by cases x<;>cases y<;>exact h) i g a d
 |succ n ih=>
  intro A x y b P K u v N M N' M' h i g a d hu;have top:∀{p q:Addr},u=.ref p->v=.ref q->P=.ref p->K=.ref q->SeqAt.RcAt A s u v b/\SeqAt.RcNeAt A s u v (!b)->SeqAt.EqAt A s u v b/\SeqAt.RcAt A s u v b/\SeqAt.RcNeAt A s u v (!b):=λ{p q} e1 e2 e3 e4 hr=>by
   refine⟨?_,hr⟩;by_cases c:p=q
   .subst c;rw[e1,e2];rw[Lp I hK h (e3▸i) (e4▸g)];exact SeqAt.EqAt.same _
   .rw[e1,e2]at hr ⊢;exact SeqAt.EqAt.of_refs c hr.1
  cases x with
  |l S=>
   cases y with
   |l Q=>
    obtain⟨p,vs,rfl,_,e,r⟩:=i;obtain⟨p',Z,rfl,_,R,L⟩:=g;cases a;cases d;refine top rfl rfl rfl rfl ?_;obtain⟨us,O,w,_⟩:=I.list (SqL.of e);obtain⟨T,J,o,_⟩:=I.list (SqL.of R);have z:us.toArray.size=S.length:=by rw[a0o,<- O.length,r.len]
    have F:T.toArray.size=Q.length:=by rw[a0o,<- J.length,L.len]
    by_cases B:S.length=Q.length
    .obtain⟨f,hf,rfl⟩:=rA h;rw[B,a11,Bool.and_true,Nat.min_self,<- B,<- z];have G:=ub (A:=A.in1) (e:=f) (s:=s) O J λj x y u v hx U a d=>by obtain⟨Y,D,E⟩:=r.Nn hx;obtain⟨y',m,C⟩:=L.Nn U;exact(ih (A:=A.in1) (hf j Y y' D m) (qu.iff.mpr E) (qu.iff.mpr C) a d (by show A.units+1+n<cLine;omega)).1
     exact⟨SeqAt.RcAt.lists w.isList o.isList (by rw[z,F,B]) (by omega) G,SeqAt.RcNeAt.lists w.isList o.isList (by rw[z,F,B]) (by omega) G⟩
    .rw[ue h B];exact⟨SeqAt.RcAt.lists_lengths w.isList o.isList (by rw[z,F];simpa using B) (by omega),SeqAt.RcNeAt.lists_lengths w.isList o.isList (by rw[z,F];simpa using B) (by omega)⟩
   |_=>exact il h i g a d
  |t S=>
   cases y with
   |t Q=>
    obtain⟨p,vs,rfl,e,r⟩:=i;obtain⟨p',Z,rfl,R,L⟩:=g;cases a;cases d;refine top rfl rfl rfl rfl ?_;rw[hK]at e R;obtain⟨us,O,w,_⟩:=I.tuple e;obtain⟨T,J,o,_⟩:=I.tuple R;have z:us.toArray.size=S.length:=by rw[a0o,<- O.length,r.len]
    have F:T.toArray.size=Q.length:=by rw[a0o,<- J.length,L.len]
    obtain⟨f,hf,rfl⟩:=rA h;have G:=ub (A:=A.in1) (e:=f) (s:=s) O J λj x y u v hx U a d=>by obtain⟨Y,D,E⟩:=r.Nn hx;obtain⟨y',m,C⟩:=L.Nn U;exact(ih (A:=A.in1) (hf j Y y' D m) (qu.iff.mpr E) (qu.iff.mpr C) a d (by show A.units+1+n<cLine;omega)).1
    rw[<- z,<- F];exact⟨SeqAt.RcAt.tuples w o (by omega) G,SeqAt.RcNeAt.tuples w o (by omega) G⟩
   |_=>exact il h i g a d
  |_=>exact il (by cases y<;>exact h) i g a d
def OF{es:a4d}{vs:a4B}(r:KV es vs){k:Key}{v:V}(h:dR es k=some v):∃u,valueAt vs k=some u/\RelV v u:=aU.some_of (v:=v) (o:=valueAt vs k) (by rw[<- h];exact KV.val r k)
def Lr{es:a4d}{vs:a4B}(r:KV es vs){k:Key}(h:dR es k=none):valueAt vs k=none:=by
 have:=KV.val r k;rw[h]at this;cases e:valueAt vs k with
 |none=>rfl
 |some u=>rw[e]at this;exact this.elim
theorem rB(I:Inv X pins σ H s)(x:W.K=X.K){n:Nat}{A:a4i}(o:A.units+n<cLine){b:a4l}{m:a4d}{l:a4B}{M J:a43}(j:j7 W J H b m)(g:KV m l):
  ∀{a:a4l}{w:a4d}{z:a4B}{r:Bool},j7 W M H a w->KV w z->Nr (BR n) b a=some r->KeqHits A s l z r
 |[],_,_,_,h,k,e=>by cases(show _=_ from h);cases k;cases e;exact .nil
 |C::a,_,_,r,h,k,e=>by
  obtain⟨v,q,rfl,E,B⟩:=h;cases k with
  |@cons _ u _ Q K kk=>
   obtain⟨P,u⟩:=u;obtain⟨L,F⟩:=K;cases L;unfold Nr at e;cases c:z5 b C.1 with
   |none=>rw[c]at e;cases e;exact .miss (Lr g (j.RS c))
   |some y=>rw[c]at e;obtain⟨p,q,hp,G,rfl⟩:=WL e;obtain⟨N,d,D⟩:=j.get c;obtain⟨O,f,i⟩:=OF g d;exact .hit f (Lq I x n hp (qu.iff.mpr E) (qu.iff.mpr D) F i o).1 (rB I x o j g B kk G)
end
def S4(W:RC)(a:Bool):R2:=λd c H Q=>∃M x y b,qu W (λ_=>True) M H x d/\qu W (λ_=>True) M H y c/\RT 8 x y=some b/\Q (.bl (xor a b)) H
def BS:(∃a b,x=.d a/\y=.d b)\/RT n x y=BR n x y:=by
 cases x with
 |d a=>cases y with
  |d b=>exact .inl ⟨a,b,rfl,rfl⟩
  |_=>exact .inr rfl
 |_=>exact .inr rfl
def Hf(B:W.K=X.K)(U:X.A.units+64<cLine):OpR X (compareOp .Eq) (S4 W false):=by
 intro g s S H Z Y u v Q I l D h;obtain⟨M,x,y,b,i,f,e,q⟩:=h;rw[a1X]at q;rcases BS (n:=8) (x:=x) (y:=y)with⟨a,c,rfl,rfl⟩|z
 .obtain⟨p,T,rfl,_,L,w⟩:=i;obtain⟨R,N,rfl,_,O,J⟩:=f;cases l;cases D;obtain⟨_,na,P,F,G⟩:=Kx I.hok L;obtain⟨_,C,K,j,m⟩:=Kx I.hok O;have o:P.length=a.length:=by rw[<- a1M F];have:=a0O List.length (j7.iff.mp w).1;simpa using this
  have E:K.length=c.length:=by rw[<- a1M j];have:=a0O List.length (j7.iff.mp J).1;simpa using this
  have e:(if a.length=c.length then Nr (BR 8) c a else some false)=some b:=e;by_cases d:a.length=c.length
  .rw[if_pos d]at e;refine keq_eq na C G m (by omega) (λ_=>rB I B (A:=X.A.in1) (by show X.A.units+1+8<cLine;omega) J j w F e) ?_;rw[o,E,d,a11,a3F];exact⟨.bl b,H,I,rfl,q⟩
  .rw[if_neg d]at e;cases e;refine keq_eq (r:=false) na C G m (by omega) (λz=>absurd (by rw[<- o,<- E,z]) d) ?_;rw[a1W];exact⟨.bl false,H,I,rfl,q⟩
 .rw[z]at e;exact(Lq I B 8 e i f l D (by omega)).2.1 _ _ _ _ ⟨.bl b,H,I,rfl,q⟩
def OG(B:W.K=X.K)(U:X.A.units+64<cLine):OpR X (compareOp .NotEq) (S4 W true):=by
 intro g s S H Z Y u v Q I l D h;obtain⟨M,x,y,b,i,f,e,q⟩:=h;rw[a17]at q;rcases BS (n:=8) (x:=x) (y:=y)with⟨a,c,rfl,rfl⟩|z
 .obtain⟨p,T,rfl,_,L,w⟩:=i;obtain⟨R,N,rfl,_,O,J⟩:=f;cases l;cases D;obtain⟨_,na,P,F,G⟩:=Kx I.hok L;obtain⟨_,C,K,j,m⟩:=Kx I.hok O;have o:P.length=a.length:=by rw[<- a1M F];have:=a0O List.length (j7.iff.mp w).1;simpa using this
  have E:K.length=c.length:=by rw[<- a1M j];have:=a0O List.length (j7.iff.mp J).1;simpa using this
  have e:(if a.length=c.length then Nr (BR 8) c a else some false)=some b:=e;by_cases d:a.length=c.length
  .rw[if_pos d]at e;refine keq_ne na C G m (by omega) (λ_=>rB I B (A:=X.A.in1) (by show X.A.units+1+8<cLine;omega) J j w F e) ?_;rw[o,E,d,a11,a3F];exact⟨.bl (!b),H,I,rfl,q⟩
  .rw[if_neg d]at e;cases e;refine keq_ne (r:=false) na C G m (by omega) (λz=>absurd (by rw[<- o,<- E,z]) d) ?_;rw[a1W];exact⟨.bl (!false),H,I,rfl,q⟩
 .rw[z]at e;exact(Lq I B 8 e i f l D (by omega)).2.2 _ _ _ _ ⟨.bl (!b),H,I,rfl,q⟩
def ke(a:Bool)(x y:PV):Out PV:=match RT 8 x y with|some b=>.ok (.b (xor a b))|none=>.wall
def BU:Lf2 W (S4 W neg) (ke neg):=λM C B H x y v u Q n a c q=>by
 unfold ke at q;cases e:RT 8 x y with
 |none=>rw[e]at q;exact q.elim
 |some b=>rw[e]at q;exact⟨M,x,y,b,a,c,e,q _ H (zH.refl _) rfl⟩
def Ls(d:X.A.units+64<cLine)(e:EM X C S w1 a m1)(f:EM X C S w2 b m2):EM X C S false (.Compare a [.Eq] [b] pos) (mOp (ke false) m1 m2):=λc=>Uw (Hf c.symm d) BU e f (gY _ (by decide) (by decide)) c
def QR(d:X.A.units+64<cLine)(e:EM X C S w1 a m1)(f:EM X C S w2 b m2):TM X C S (.Compare a [.Eq] [b] pos) (z9 (mOp (ke false) m1 m2)):=λc=>yA (Hf c.symm d) BU e f (gY _ (by decide) (by decide)) c
def x6(d:X.A.units+64<cLine)(e:EM X C S w1 a m1)(f:EM X C S w2 b m2):TM X C S (.Compare a [.NotEq] [b] pos) (z9 (mOp (ke true) m1 m2)):=λc=>yA (OG c.symm d) BU e f (gY _ (by decide) (by decide)) c
def inP(v:V):List PV->Option Bool
 |[]=>some false
 |y::r=>match toV y,inP v r with
  |some u,some b=>some (eqV u v||b)
  |_,_=>none
theorem BV{W:RC}{M:a43}{H:Hp}{v:V}:∀{a:a4h}{d:a4a}{b:Bool},yr W M H a d->inP v a=some b->d.all ay=true/\inV v d=b
 |[],_,_,h,e=>by cases(show _=_ from h);cases e;exact⟨rfl,rfl⟩
 |y::a,_,b,h,e=>by
  obtain⟨u,r,rfl,m,l⟩:=h;unfold inP at e;cases c:toV y with
  |none=>rw[c]at e;cases e
  |some o=>
   cases g:inP v a with
   |none=>rw[c,g]at e;cases e
   |some n=>rw[c,g]at e;cases e;obtain⟨rfl,f⟩:=bA (qu.iff.mpr m) c;obtain⟨j,i⟩:=BV l g;exact⟨by rw[a15,f,j];rfl,by unfold inV at i ⊢;rw[a1b,i]⟩
def RU(K:a4p)(b:Bool):R2:=λx y H Q=>(rIn K b x y H Q\/∃i j,x=.str i/\y=.str j/\Q (.bl (xor b (!(Builtin.Str.occurrences j i 0 j.length 1).isEmpty))) H)\/∃a o,y=.ref a/\tY H a x o/\Q (.bl (xor b o.isSome)) H
def BW(f:X.A.units+1<cLine):OpR X (compareOp .In) (RU X.K false):=by
 intro b s e H x y v u Q I c d h;rcases h with(h|⟨i,j,e1,e2,q⟩)|⟨a,o,rfl,g,q⟩
 .exact Bq b s e H x y v u Q I c d h
 .exact Bd b s e H x y v u Q I c d ⟨i,j,e1,e2,by rw[a1X]at q;exact q⟩
 .obtain rfl:u=Value.ref a:=d;exact za0 f I g c λm l=>⟨.bl o.isSome,H,l,rfl,by rw[a1X]at q;exact q⟩
def m9(f:X.A.units+1<cLine):OpR X (compareOp .NotIn) (RU X.K true):=by
 intro b s e H x y v u Q I c d h;rcases h with(h|⟨i,j,e1,e2,q⟩)|⟨a,o,rfl,g,q⟩
 .exact mN b s e H x y v u Q I c d h
 .exact mO b s e H x y v u Q I c d ⟨i,j,e1,e2,by rw[a17]at q;exact q⟩
 .obtain rfl:u=Value.ref a:=d;exact I_ f I g c λm l=>⟨.bl (!o.isSome),H,l,rfl,by rw[a17]at q;exact q⟩
def pIn(a:Bool):PV->PV->Out PV
 |x,.l d=>j8 (((toV x).bind λv=>inP v d).map λb=>.b (xor a b))
 |x,.t d=>j8 (((toV x).bind λv=>inP v d).map λb=>.b (xor a b))
 |.s i,.s j=>.ok (.b (xor a (!(Builtin.Str.occurrences j i 0 j.length 1).isEmpty)))
 |x,.d c=>j8 ((pk x).map λk=>.b (xor a (z5 c k).isSome))
 |_,_=>.wall
def BX:(if neg=true then !b else b)=xor neg b:=by cases neg<;>simp
def Lu:Lf2 W (RU W.K neg) (pIn neg):=λM C B H x y v u Q n h g q=>by
 unfold pIn at q;split at q
 .obtain⟨z,e,q⟩:=yW q;obtain⟨b,c,rfl⟩:=a0c.mp e;obtain⟨o,a,c⟩:=a0B.mp c;obtain⟨p,j,rfl,_,d,r⟩:=g;obtain⟨rfl,f⟩:=bA h a;obtain⟨i,l⟩:=BV r c;exact .inl (.inl ⟨p,j,rfl,.inl (SqL.of d),f,i,by rw[l,BX];exact q _ H (zH.refl _) rfl⟩)
 .obtain⟨z,e,q⟩:=yW q;obtain⟨b,c,rfl⟩:=a0c.mp e;obtain⟨o,a,c⟩:=a0B.mp c;obtain⟨p,j,rfl,d,r⟩:=g;obtain⟨rfl,f⟩:=bA h a;obtain⟨i,l⟩:=BV r c;exact .inl (.inl ⟨p,j,rfl,.inr d,f,i,by rw[l,BX];exact q _ H (zH.refl _) rfl⟩)
 .exact .inl (.inr ⟨_,_,h,g,q _ H (zH.refl _) rfl⟩)
 .obtain⟨z,e,q⟩:=yW q;obtain⟨k,m,rfl⟩:=a0c.mp e;obtain⟨p,s,rfl,_,d,r⟩:=g;exact .inr ⟨p,_,rfl,by rw[ik h m];exact tY.rk d,by rw[r.za6];exact q _ H (zH.refl _) rfl⟩
 .exact q.elim
section
variable {X:Cx}{C:LC}{S:a39}{e a b:a45}{es:a44}{w w1 w2:Bool}{ws:a47}{m1 m2:ME}{ms:MA}{pos p:Pos}{x:Str}
def Lv(d:X.A.units+1<cLine)(h:EM X C S w1 a m1)(g:EM X C S w2 b m2)(f:behindInMarks .In b=false:=by with_unfolding_all rfl):EM X C S false (.Compare a [.In] [b] pos) (mOp (pIn false) m1 m2):=λc=>Uw (BW d) (by rw[c];exact Lu) h g f c
def OH(d:X.A.units+1<cLine)(h:EM X C S w1 a m1)(g:EM X C S w2 b m2)(f:behindInMarks .In b=false:=by with_unfolding_all rfl):TM X C S (.Compare a [.In] [b] pos) (z9 (mOp (pIn false) m1 m2)):=λc=>yA (BW d) (by rw[c];exact Lu) h g f c
def Kn(d:X.A.units+1<cLine)(h:EM X C S w1 a m1)(g:EM X C S w2 b m2)(f:behindInMarks .NotIn b=false:=by with_unfolding_all rfl):TM X C S (.Compare a [.NotIn] [b] pos) (z9 (mOp (pIn true) m1 m2)):=λc=>yA (m9 d) (by rw[c];exact Lu) h g f c
def Fd(W:RC)(M:a43)(H:Hp):List PV->List V->Prop
 |[],c=>c=[]
 |x::d,c=>∃v r,c=v::r/\qu W (λ_=>True) M H x v/\Fd W M H d r
def RVs.weak{B:Bs}{P:a49}{H:Hp}:∀{ws:a47}{g:a4h}{f:a4a},RVs C B S P H ws g f->Fd C.W (Mof B S P) H g f
 |[],_,_,⟨c,d⟩=>by subst c;subst d;rfl
 |w::ws,_,_,⟨x,v,l,i,c,d,j,h⟩=>by subst c;subst d;exact⟨v,i,rfl,j.weak,RVs.weak h⟩
def LfC(W:RC)(r:List V->Hp->VK->Prop)(p:a4c):Prop:=∀(M:a43)(C:LC)(B:Bs) H xs vs Q,New M H->Fd W M H xs vs->yj C B H (Rep W M) Q (p xs)->r vs H Q
def LfF(W:RC)(r:List V->Hp->VK->Prop)(p:a4c):Prop:=∀(M:a43)(C:LC)(B:Bs) H xs vs Q,New M H->Fd W M H xs vs->yj C B H (RFr W M H) Q (p xs)->r vs H Q
def zi(g:a4c)(ms:MA):ME:=λc=>(ms c).bind g
def S5(L:LfC C.W r g)(h:LA C S ws ta ms):LE C S false (tCB r ta) (zi g ms):=λB P H n d R Q q=>
 h B P H n d R _ (qe q λj i f l o c=>L _ C B f j i Q (R.keep l).new o.weak (RV.eq▸c))
def v9(h:yj C B H (RFr W M H) Q o)(s:zH H H2):yj C B H2 (RFr W M H2) Q o:=by
 cases o with
 |ok x=>exact λv d f g=>h v d (s.trans f) (let⟨p,e,hp,hr⟩:=g;⟨p,e,zH.none s hp,hr⟩)
 |exc c fs=>exact h
 |wall=>exact h
def YJ(h:yj C B H (RFr W M H) Q (o.bind f))(k:∀r v d,zH H d->R' d r v->yj C B d (RFr W M d) Q (f r)->Q' v d):x3 C B H R' Q' o:=by
 cases o with
 |ok r=>exact λv d s g=>k r v d s g (v9 (o:=f r) h s)
 |exc c fs=>exact h
 |wall=>exact h
def YK(h:yj C B H (RFr W M H) Q (o.bind f))(k:∀r v d,zH H d->R' d r v->yj C B d (RFr W M d) Q (f r)->Q' v d):yj C B H R' Q' o:=by
 cases o with
 |ok r=>exact λv d s g=>k r v d s g (v9 (o:=f r) h s)
 |exc c fs=>exact h
 |wall=>exact h
def S6(L:LfF C.W r g)(h:LA C S ws ta ms):LFr C S (tCB r ta) (zi g ms):=λB P H n d R Q q=>
 h B P H n d R _ (YJ q λj i f l o c=>L _ C B f j i Q (R.keep l).new o.weak c)
def Ko{id:String}{r:List V->Hp->VK->Prop}{g:a4c}(n:X.K=C.W.K->ZS X (.builtin id) r)(L:LfC C.W r g)(o:Gl X x)(i:X.mg x=none)(f:bootBuiltins x=some (.builtin id))(j:AM X C S ws (e::es) ms)(h:x≠"__name__":=by decide)(c:(x==("__debug__":Str))=false:=by decide)
  (he:starEach (e::es) X.env=(false,eval e X.env)::starEach es X.env:=by rfl) (hpl:(backTo pos (starEach es X.env)).any (·.1)=false:=by rfl):EM X C S false (.Call (.Name x p) (e::es) [] pos) (zi g ms):=λd=>by
 obtain⟨s,l,q⟩:=j d;exact⟨_,tU (n d) o i f l h c he hpl,S5 L q⟩
def uf{id:String}{r:List V->Hp->VK->Prop}{g:a4c}(n:X.K=C.W.K->ZS X (.type id) r)(L:LfF C.W r g)(o:Gl X x)(i:X.mg x=none)(f:bootBuiltins x=some (.type id))(j:AM X C S ws (e::es) ms)(h:x≠"__name__":=by decide)(c:(x==("__debug__":Str))=false:=by decide)
  (he:starEach (e::es) X.env=(false,eval e X.env)::starEach es X.env:=by rfl) (hpl:(backTo pos (starEach es X.env)).any (·.1)=false:=by rfl):FM X C S (.Call (.Name x p) (e::es) [] pos) (zi g ms):=λd=>by
 obtain⟨s,l,q⟩:=j d;exact⟨_,Bn (n d) o i f l h c he hpl,S6 L q⟩
end
def Yo:List PV->Out PV
 |[.l a]=>.ok (.i a.length)
 |[.t a]=>.ok (.i a.length)
 |[.sc a]=>.ok (.i a.length)
 |[.d a]=>.ok (.i a.length)
 |[.s z]=>if z.length<=sizeLine then .ok (.i z.length)else .wall
 |_=>.wall
def j7.len(h:j7 W M H a es):es.length=a.length:=by have:=a0O List.length (j7.iff.mp h).1;simpa using this
def OI(K:a4p):List V->Hp->VK->Prop:=λc H Q=>(∃x n,c=[x]/\zaf K x H n/\Q (.int n) H)\/∃a b,c=[V.ref a]/\Rd H a (.dK b)/\Q (.int b.length) H
def BY:ZS X (.builtin "len") (λc H Q=>∃a b,c=[V.ref a]/\Rd H a (.dK b)/\Q (.int b.length) H):=by intro d s l H c i Q I r h;obtain⟨a,b,rfl,e,q⟩:=h;obtain⟨u,rfl,f⟩:=vals1 r;cases f;exact SH I e λt j g=>⟨.int _,H,g,⟨t,rfl⟩,q⟩
def OJ:LfC W (OI W.K) Yo:=λM C B H g c Q n h q=>by
 unfold Yo at q;split at q
 .obtain⟨v,r,rfl,⟨p,c,rfl,_,b,d⟩,a⟩:=h;cases(show _=_ from a);exact .inl ⟨_,c.length,rfl,.inl ⟨c,SqL.of b,rfl⟩,q _ H (zH.refl _) (by rw[d.len];rfl)⟩
 .obtain⟨v,r,rfl,⟨p,c,rfl,b,d⟩,a⟩:=h;cases(show _=_ from a);exact .inl ⟨_,c.length,rfl,.inr ⟨c,b,rfl⟩,q _ H (zH.refl _) (by rw[d.len];rfl)⟩
 .obtain⟨v,r,rfl,⟨p,rfl,b⟩,a⟩:=h;cases(show _=_ from a);exact .inl ⟨_,_,rfl,.inl ⟨_,b.sq,rfl⟩,q _ H (zH.refl _) (by rw[v4];rfl)⟩
 .obtain⟨v,r,rfl,⟨p,e,rfl,_,b,d⟩,a⟩:=h;cases(show _=_ from a);exact .inr ⟨_,e,rfl,b,q _ H (zH.refl _) (by rw[d.len];rfl)⟩
 .split at q
  .rename_i hz;obtain⟨v,r,rfl,f,a⟩:=h;cases(show _=_ from a);cases(show _=_ from f);exact .inl ⟨_,_,rfl,⟨hz,rfl⟩,q _ H (zH.refl _) rfl⟩
  .exact q.elim
 .exact q.elim
def qo(b:Gl X "len")(c:X.mg "len"=none)(d:AM X C S ws [e] ms)(he:starEach [e] X.env=[(false,eval e X.env)]:=by rfl):EM X C S false (.Call (.Name "len" p) [e] [] pos) (zi Yo ms):=
 Ko (r:=OI C.W.K) (λa=>a▸EH.or BY) OJ b c PySem.boot_len d (he:=he)
def Lw:List PV->Out PV
 |[.l a]=>.ok (.l a)
 |[.t a]=>.ok (.l a)
 |[.sc a]=>.ok (.l (a.map PV.i))
 |_=>.wall
def KH(r:yr W M H xs vs)(b:H l=none):RFr W M H (upd H l (.lst vs)) (.l xs) (.ref l):=
 ⟨l,rfl,b,vs,zl,(r.sub λa m n=>⟨m,λz=>n (z▸b)⟩).same (zH.upd b)⟩
def Lx(r:j7 W M H xs vs)(b:H l=none):RFr W M H (upd H l (.dK vs)) (.d xs) (.ref l):=
 ⟨l,rfl,b,vs,zl,(r.sub λa m n=>⟨m,λz=>n (z▸b)⟩).same (zH.upd b)⟩
def Ly:LfF W (λf H Q=>∃p e,f=[.ref p]/\(SqL W.K H p e\/SqT W.K H p e)/\∀l,H l=none->Q (.ref l) (upd H l (.lst e))) Lw:=λM C B H f c Q n h q=>by
 unfold Lw at q;split at q
 .obtain⟨v,r,rfl,⟨p,c,rfl,_,a,d⟩,b⟩:=h;cases(show _=_ from b);exact⟨p,c,rfl,.inl (SqL.of a),λl a=>q _ _ (zH.upd a) (KH d a)⟩
 .obtain⟨v,r,rfl,⟨p,c,rfl,a,d⟩,b⟩:=h;cases(show _=_ from b);exact⟨p,c,rfl,.inr a,λl a=>q _ _ (zH.upd a) (KH d a)⟩
 .obtain⟨v,r,rfl,⟨p,rfl,a⟩,b⟩:=h;cases(show _=_ from b);exact⟨p,_,rfl,.inl a.sq,λl a=>q _ _ (zH.upd a) (KH yr.ints a)⟩
 .exact q.elim
def toI:PV->Option Int
 |.i a=>some a
 |_=>none
def AS:List PV->Option (List Int)
 |[]=>some []
 |x::r=>match toI x,AS r with|some a,some b=>some (a::b)|_,_=>none
theorem ip{W:RC}{M:a43}{H:Hp}:∀{c:a4h}{g:a4a}{d:a4k},yr W M H c g->AS c=some d->g=d.map V.int
 |[],_,_,h,e=>by cases(show _=_ from h);cases e;rfl
 |x::c,_,d,h,e=>by
  obtain⟨v,r,rfl,l,j⟩:=h;unfold AS at e;cases x with
  |i a=>
   cases f:AS c with
   |none=>rw[f]at e;cases e
   |some b=>rw[f]at e;cases e;rw[a0j,<- ip j f,(show v=_ from l)]
  |_=>cases e
theorem aW:∀{c:a4k},AS (c.map PV.i)=some c
 |[]=>rfl
 |n::c=>by show(match toI (.i n),AS (c.map PV.i)with|some a,some b=>some (a::b)|_,_=>none)=_;rw[aW];rfl
def AU:List Int->Int
 |[]=>0
 |[a]=>a
 |a::r=>max a (AU r)
theorem ug:∀{ns:a4k},ns≠[]->AU ns∈ns
 |[],h=>absurd rfl h
 |[a],_=>by simp[AU]
 |a::b::r,_=>by
  have ih:=ug (ns:=b::r) (by simp);show max a (AU (b::r))∈_;rcases a3W a (AU (b::r))with h|h
  .rw[Int.max_eq_right h];exact a0a _ ih
  .rw[Int.max_eq_left h];exact u8
theorem rC:∀{d:a4k}{a:Int},a∈d->a<=AU d
 |[],_,h=>by cases h
 |[b],a,h=>by simp at h;subst h;exact a03 _
 |b::c::r,a,h=>by
  show a<=max b (AU (c::r));rcases a0r.mp h with rfl|h
  .exact Int.le_max_left ..
  .exact a2g (rC h) (Int.le_max_right ..)
def x9:List PV->Out PV
 |[.i a,.i b]=>.ok (.i (max a b))
 |[.l d]=>j8 ((AS d).bind λc=>if c=[]then none else some (.i (AU c)))
 |_=>.wall
def bB:List PV->Out PV
 |[.i a,.i b]=>.ok (.i (min a b))
 |_=>.wall
def Hg:List PV->Out PV
 |[.l a]=>j8 ((AS a).map λb=>.i b.sum)
 |_=>.wall
def OK:LfC W (λb H Q=>∃i j,b=[.int i,.int j]/\Q (.int (if j<i then j else i)) H) bB:=λM C B H b f Q n h q=>by
 unfold bB at q;split at q
 .obtain⟨v,r,rfl,c,g,e,rfl,a,d⟩:=h;cases(show _=_ from d);cases(show _=_ from c);cases(show _=_ from a);exact⟨_,_,rfl,q _ H (zH.refl _) (by show V.int _=V.int _;congr 1;omega)⟩
 .exact q.elim
def OL:LfC W (λd H Q=>(∃i j,d=[.int i,.int j]/\Q (.int (if j>i then j else i)) H)\/Ov W.K d H Q) x9:=λM C B H d o Q n h q=>by
 unfold x9 at q;split at q
 .obtain⟨v,r,rfl,l,x,w,rfl,a,f⟩:=h;cases(show _=_ from f);cases(show _=_ from l);cases(show _=_ from a);exact .inl ⟨_,_,rfl,q _ H (zH.refl _) (by show V.int _=V.int _;congr 1;omega)⟩
 .obtain⟨z,e,q⟩:=yW q;obtain⟨b,u,e⟩:=a0B.mp e;by_cases hz:b=[]
  .rw[if_pos hz]at e;cases e
  .rw[if_neg hz]at e;cases e;obtain⟨v,r,rfl,⟨p,o,rfl,_,g,m⟩,f⟩:=h;cases(show _=_ from f);rw[ip m u]at g;refine .inr ⟨p,b,rfl,SqL.of g,hz,λM s c=>?_⟩;have:M=AU b:=Int.le_antisymm (rC s) (c _ (ug hz));rw[this];exact q _ H (zH.refl _) rfl
 .exact q.elim
def ON:LfC W (zao W.K) Hg:=λM C B H i d Q n h q=>by
 unfold Hg at q;split at q
 .obtain⟨z,e,q⟩:=yW q;obtain⟨b,f,rfl⟩:=a0c.mp e;obtain⟨v,r,rfl,⟨p,d,rfl,_,a,c⟩,g⟩:=h;cases(show _=_ from g);rw[ip c f]at a;exact⟨p,b,rfl,SqL.of a,q _ H (zH.refl _) rfl⟩
 .exact q.elim
def Fe:List PV->Option (List Bool)
 |[]=>some []
 |x::r=>match x,Fe r with | .b a,some b=>some (a::b)|_,_=>none
theorem BZ{W:RC}{M:a43}{H:Hp}:∀{c:a4h}{g:a4a}{d:a47},yr W M H c g->Fe c=some d->g=d.map V.bl
 |[],_,_,h,e=>by cases(show _=_ from h);cases e;rfl
 |x::c,_,d,h,e=>by
  obtain⟨v,r,rfl,j,i⟩:=h;unfold Fe at e;cases x with
  |b a=>
   cases f:Fe c with
   |none=>rw[f]at e;cases e
   |some b=>rw[f]at e;cases e;rw[a0j,<- BZ i f,(show v=_ from j)]
  |_=>cases e
theorem uh:∀{ns:a47},Fe (ns.map PV.b)=some ns
 |[]=>rfl
 |n::ns=>by unfold Fe;rw[a0j];simp only[uh]
def Ff:List PV->Out PV
 |[.l a]=>j8 ((Fe a).map λb=>.b (b.all id))
 |_=>.wall
def OO:LfC W (zan W.K) Ff:=λM C B H i d Q n h q=>by
 unfold Ff at q;split at q
 .obtain⟨z,e,q⟩:=yW q;obtain⟨b,f,rfl⟩:=a0c.mp e;obtain⟨v,r,rfl,⟨p,d,rfl,_,a,c⟩,g⟩:=h;cases(show _=_ from g);rw[BZ c f]at a;exact⟨p,b,rfl,SqL.of a,q _ H (zH.refl _) rfl⟩
 .exact q.elim
def bC(a:X.calm=true)(b:Gl X "max")(d:X.mg "max"=none)(f:AM X C S ws (e::es) ms)(he:starEach (e::es) X.env=(false,eval e X.env)::starEach es X.env:=by rfl)(hpl:(backTo pos (starEach es X.env)).any (·.1)=false:=by rfl):EM X C S false (.Call (.Name "max" p) (e::es) [] pos) (zi x9 ms):=
 Ko (λc=>c▸(Bf a).or (BJ a)) OL b d PyProof.Rows.boot_max f (he:=he) (hpl:=hpl)
def m_(d:X.calm=true)(a:Gl X "min")(b:X.mg "min"=none)(c:AM X C S ws (e::es) ms)(he:starEach (e::es) X.env=(false,eval e X.env)::starEach es X.env:=by rfl)(hpl:(backTo pos (starEach es X.env)).any (·.1)=false:=by rfl):EM X C S false (.Call (.Name "min" p) (e::es) [] pos) (zi bB ms):=
 Ko (λf=>Bg d) OK a b a3w c (he:=he) (hpl:=hpl)
def Hh(d:X.calm=true)(f:Gl X "sum")(b:X.mg "sum"=none)(c:AM X C S ws [e] ms)(he:starEach [e] X.env=[(false,eval e X.env)]:=by rfl):EM X C S false (.Call (.Name "sum" p) [e] [] pos) (zi Hg ms):=
 Ko (λa=>a▸BH d) ON f b PyProof.Rows.boot_sum c (he:=he)
def B0(d:X.calm=true)(f:Gl X "all")(b:X.mg "all"=none)(c:AM X C S ws [e] ms)(he:starEach [e] X.env=[(false,eval e X.env)]:=by rfl):EM X C S false (.Call (.Name "all" p) [e] [] pos) (zi Ff ms):=
 Ko (λa=>a▸E6 d) OO f b PyProof.Rows.boot_all c (he:=he)
def jQ(W:RC)(M:a43)(H:Hp):List Bool->List PV->List V->Prop
 |[],b,a=>b=[]/\a=[]
 |w::e,b,a=>∃x v d c,b=x::d/\a=v::c/\qu W (if w=true then λ_=>True else M) M H x v/\jQ W M H e d c
def RVs.args{C:LC}{B:Bs}{S:a39}{P:a49}{H:Hp}:∀{a:a47}{c:a4h}{b:a4a},RVs C B S P H a c b->jQ C.W (Mof B S P) H a c b
 |[],_,_,h=>h
 |w::a,_,_,⟨x,v,e,f,g,i,j,d⟩=>⟨x,v,e,f,g,i,j,RVs.args d⟩
def jQ.len{W:RC}{M:a43}{H:Hp}:∀{a:a47}{f:a4h}{e:a4a},jQ W M H a f e->e.length=a.length/\f.length=a.length
 |[],_,_,⟨b,c⟩=>by subst b;subst c;exact⟨rfl,rfl⟩
 |w::a,_,_,⟨x,v,g,h,b,c,i,d⟩=>by subst b;subst c;exact⟨by rw[a0b,a0b,(jQ.len d).1],by rw[a0b,a0b,(jQ.len d).2]⟩
def jQ.same{W:RC}{M:a43}{H H':Hp}(s:zH H H'):∀{a:a47}{c:a4h}{b:a4a},jQ W M H a c b->jQ W M H' a c b
 |[],_,_,h=>h
 |w::a,_,_,⟨x,v,e,f,g,i,j,d⟩=>⟨x,v,e,f,g,i,j.same s,jQ.same s d⟩
def RtV(W:RC)(fr:Bool)(M:a43)(H b:Hp)(r:PV)(v:V):Prop:=if fr=true then RFr W (λa=>M a\/H a=none) H b r v else Rep W (λa=>M a\/H a=none) b r v
def S7(W:RC)(fr:Bool)(M:a43)(H:Hp)(Q:VK)(E:XK):Out PV->Prop
 |.ok r=>∀v b,zH H b->RtV W fr M H b r v->Q v b
 |.exc c fs=>∀e d f b,zH H b->b e=some (XC e (W.cls c) d)->b d=some (XD d f)->vz W (λa=>M a\/H a=none) b fs f->E (.ref e) (some d) b
 |.wall=>False
def lsp(W:RC)(fr:Bool)(ws:a47)(g:a4c):Sp:=λb H Q E=>∃M a,jQ W M H ws a b/\S7 W fr M H Q E (g a)
def Lz{W:RC}{fr:Bool}{ws:a47}{g:a4c}{n:Nat}(h:ws.length=n):∀b H Q E,lsp W fr ws g b H Q E->b.length=n:=λb H Q E ⟨M,c,a,_⟩=>a.len.1.trans h
def RFr.sub(h:RFr W M H H2 x v)(s:∀a,M a->M' a):RFr W M' H H2 x v:=by obtain⟨p,e,hp,h⟩:=h;exact⟨p,e,hp,h.gen rfl Fr.refl λa m _=>⟨s a m.1,m.2⟩⟩
section
variable {X:Cx}{C:LC}{S:a39}{e a b o:a45}{es:a44}{w fr:Bool}{ws:a47}{m:ME}{ms:MA}{pos p jH:Pos}{x mn:Str}{k:Nat}{f:Addr}{fd:a4j}{ps:a40}{g:a4c}
def B3(R:Rel C.W B S P H σ ρ)(q:XPo C B c fs):∀e h es d,zH H d->d e=some (XC e (C.W.cls c) h)->d h=some (XD h es)->vz C.W (λa=>Mof B S P a\/H a=none) d fs es->C.E (.ref e) (some h) d:=
 λe h es d s l j i=>q e h es d (R.same.trans s) l j (i.sub λa m _=>m.elim (λm=>m.1.1) λn=>.inr (zH.none R.same n))
def Hi{B:Bs}{P:a49}{H:Hp}{σ:St}{ρ:Sto}{Q:VK}{o:Out PV}(R:Rel C.W B S P H σ ρ)(q:yj C B H (RV C B S P false) Q o):S7 C.W fr (Mof B S P) H Q C.E o:=by
 have sM:∀a,(Mof B S P a\/H a=none)->Mof B S P a:=λa m=>m.elim id λn=>R.new a n;cases o with
 |ok r=>
  intro v h s d;refine q v h s (RV.of ?_);unfold RtV at d;cases fr with
  |true=>rw[if_pos rfl]at d;exact(d.sub sM).rep R.new
  |false=>rw[if_neg a0q]at d;exact d.sub λa m _=>sM a m
 |exc c fs=>exact B3 R q
 |wall=>exact q
def B4{B:Bs}{P:a49}{H:Hp}{σ:St}{ρ:Sto}{Q:VK}{o:Out PV}(R:Rel C.W B S P H σ ρ)(q:yj C B H (RFr C.W (Mof B S P) H) Q o):S7 C.W true (Mof B S P) H Q C.E o:=by
 have sM:∀a,(Mof B S P a\/H a=none)->Mof B S P a:=λa m=>m.elim id λn=>R.new a n;cases o with
 |ok r=>intro v h s d;unfold RtV at d;rw[if_pos rfl]at d;exact q v h s (d.sub sM)
 |exc c fs=>exact B3 R q
 |wall=>exact q
def LB(F:yF X.prog X.w X.K X.mg X.base (CXe X.prog X.w) k f fd ps (lsp C.W fr ws g))(G:v8 k X.A)(n:Gl X x)(D:X.mg x=some (.ref f))(y:keepIn X.K (.ref f)=true)(v:Binds X.K fd ps [])(r:Passes (CXe X.prog X.w) X C.E)(l:AM X C S ws (e::es) ms)
  (c:(x==("__debug__":Str))=false:=by decide) (he:starEach (e::es) X.env=(false,eval e X.env)::starEach es X.env:=by rfl) (hpl:(backTo pos (starEach es X.env)).any (·.1)=false:=by rfl):EM X C S false (.Call (.Name x p) (e::es) [] pos) (zi g ms):=λu=>by
 obtain⟨K,h,z⟩:=l u;refine⟨_,Bk F G n D y v .nil r h c he hpl,λB P H j d R Q q=>z B P H j d R _ (qe q λE J I i s A=>?_)⟩;rw[a0s];exact⟨_,E,s.args,Hi (R.keep i) A⟩
def qf(F:yF X.prog X.w X.K X.mg X.base (CXe X.prog X.w) k f fd ps (lsp C.W true ws g))(G:v8 k X.A)(n:Gl X x)(D:X.mg x=some (.ref f))(y:keepIn X.K (.ref f)=true)(v:Binds X.K fd ps [])(r:Passes (CXe X.prog X.w) X C.E)(l:AM X C S ws (e::es) ms)
  (c:(x==("__debug__":Str))=false:=by decide) (he:starEach (e::es) X.env=(false,eval e X.env)::starEach es X.env:=by rfl) (hpl:(backTo pos (starEach es X.env)).any (·.1)=false:=by rfl):FM X C S (.Call (.Name x p) (e::es) [] pos) (zi g ms):=λu=>by
 obtain⟨K,h,z⟩:=l u;refine⟨_,Bk F G n D y v .nil r h c he hpl,λB P H j d R Q q=>z B P H j d R _ (YJ q λE J I i s A=>?_)⟩;rw[a0s];exact⟨_,E,s.args,B4 (R.keep i) A⟩
def vV(cs:a39)(f:Str)(m:ME):ME:=λd=>(m d).bind λx=>match x with
 |.o c fs=>if c∈cs then j8 (fs.lookup f)else .wall
 |_=>.wall
def qW(h:EM X C S w e m)(l:∀c∈cs,Cls X.K (C.W.cls c)/\qC X.K (C.W.cls c) fn)(D:attributeBase e fn X.env (eval e X.env)=eval e X.env:=by rfl):EM X C S false (.Attribute e fn pos) (vV cs fn m):=λA=>by
 obtain⟨J,r,E⟩:=h A;refine⟨_,GZ r D,λB P H s n R Q q=>E B P H s n R _ (z7 q λx v j I u d=>?_)⟩;cases x with
 |o c fs=>
  obtain⟨p,F,es,rfl,_,hp,hf⟩:=u;by_cases i:c∈cs
  .have d:yj C B j (RV C B S P false) Q (if c∈cs then j8 (fs.lookup fn)else .wall):=d;rw[if_pos i]at d;obtain⟨y,e,d⟩:=yW d;obtain⟨v,z,G⟩:=hf.lookup e;exact⟨p,_,F,es,v,rfl,hp,(l c i).1,(l c i).2,z,d v j (zH.refl _) (RV.of G)⟩
  .have d:yj C B j (RV C B S P false) Q (if c∈cs then j8 (fs.lookup fn)else .wall):=d;rw[if_neg i]at d;exact d.elim
 |_=>exact d.elim
def yE(tab:List (Nat×(List PV->Out PV)))(mn:Str)(m:ME)(ms:MA):ME:=λd=>(m d).bind λx=>match x with
 |.o c fs=>match tab.lookup c with
  |some g=>if(fs.lookup mn).isSome=true then .wall else(ms d).bind λh=>g (x::h)
  |none=>.wall
 |_=>.wall
def RW(W:RC)(fr:Bool)(ws:a47)(tab:List (Nat×(List PV->Out PV)))(K:Addr)(sp:Sp):Prop:=∃q∈tab,K=W.cls q.1/\sp=lsp W fr (true::ws) q.2
theorem lookup_mem{i:Type}:∀{d:List (Nat×i)}{c:Nat}{g:i},d.lookup c=some g->(c,g)∈d
 |[],_,_,h=>by cases h
 |q::r,c,g,h=>by
  rw[a0M]at h;by_cases e:(c==q.1)=true
  .simp only[e]at h;cases h;rw[a0I.mp e];exact u8
  .simp only[e]at h;exact a0a _ (lookup_mem h)
def B5{B:Bs}{P:a49}{H:Hp}{σ:St}{ρ:Sto}{Q:VK}{c:Nat}{fs:a4m}{v:V}{tab:List (Nat×(List PV->Out PV))}{t:TA}(R:Rel C.W B S P H σ ρ)(s:RV C B S P w H (.o c fs) v)
  (r:∀g,tab.lookup c=some g->fs.lookup mn=none->t σ H λj i=>lsp C.W fr (true::ws) g (v::j) i Q C.E)
  (q:(∃g,tab.lookup c=some g/\fs.lookup mn=none)):∃a d es K sp,RW C.W fr ws tab K sp/\v=.ref a/\H a=some (.ins K d es)/\es.lookup mn=none/\t σ H λj i=>sp (v::j) i Q C.E:=by
 obtain⟨g,n,l⟩:=q;have h:=r g n l;obtain⟨p,d,es,rfl,_,hp,hf⟩:=s;exact⟨p,d,es,_,_,⟨(c,g),lookup_mem n,rfl,rfl⟩,rfl,hp,hf.BL l,h⟩
def RVs.consW{B:Bs}{P:a49}{H:Hp}{x:PV}{v:V}{xs:a4h}{vs:a4a}(h:RV C B S P w H x v)(t:RVs C B S P H ws xs vs):jQ C.W (Mof B S P) H (true::ws) (x::xs) (v::vs):=⟨x,v,xs,vs,rfl,rfl,by rw[if_pos rfl];exact h.weak,t.args⟩
def qA(h:EM X C S w o m)(r:∀K sp,RW C.W fr ws tab K sp->Nl X.prog X.w X.K X.mg X.base X.A mn K sp)(O:Passes (CXe X.prog X.w) X C.E)(N:AM X C S ws (e::es) ms)
  (s:starEach (e::es) X.env=(false,eval e X.env)::starEach es X.env:=by rfl) (hpl:(backTo pos (starEach es X.env)).any (·.1)=false:=by rfl)
  (T:eval (.Call (.Attribute o mn jH) (e::es) [] pos) X.env=(do
   let ov<-eval o X.env
   standAt jH.atName
   let(f,first)<-holding [ov] (getMethod ov mn pl)
   callWith pos f first (backTo pos (starEach (e::es) X.env)) (backToKw pos (keywordEach [] X.env))):=by rfl):EM X C S false (.Call (.Attribute o mn jH) (e::es) [] pos) (yE tab mn m ms):=λD=>by
 obtain⟨Y,W,L⟩:=h D;obtain⟨ta,J,U⟩:=N D;refine⟨_,E9 (pl:=pl) W r O J s hpl T,λB P H y l R Q q=>L B P H y l R _ (z7 q λx v E n A d=>?_)⟩;cases x with
 |o c fs=>
  dsimp only at d;cases j:tab.lookup c with
  |none=>rw[j]at d;exact d.elim
  |some g=>
   rw[j]at d;dsimp only at d;cases u:fs.lookup mn with
   |some z=>rw[u]at d;exact d.elim
   |none=>rw[u]at d;have d:yj C B E (RV C B S P false) Q ((ms l).bind λG=>g (.o c fs::G)):=d;refine B5 (R.keep n) A (λg' i _=>?_) ⟨g,j,u⟩;rw[j]at i;cases i;exact U B P E y l (R.keep n) _ (qe d λG Z H2 F M I=>⟨_,_,RVs.consW (RV.same A F) M,Hi ((R.keep n).keep F) I⟩)
 |_=>exact d.elim
def aX(h:EM X C S w o m)(l:∀K sp,RW C.W true [] tab K sp->Nl X.prog X.w X.K X.mg X.base X.A mn K sp)(D:Passes (CXe X.prog X.w) X C.E)
  (F:eval (.Call (.Attribute o mn jH) [] [] pos) X.env=(do
   let ov<-eval o X.env
   standAt jH.atName
   let(f,first)<-holding [ov] (getMethod ov mn pl)
   callWith pos f first (backTo pos (starEach [] X.env)) (backToKw pos (keywordEach [] X.env))):=by rfl):FM X C S (.Call (.Attribute o mn jH) [] [] pos) (yE tab mn m zk):=λE=>by
 obtain⟨I,G,A⟩:=h E;refine⟨_,BK (pl:=pl) G l D F,λB P H y u R Q q=>A B P H y u R _ (YK q λx v J r s d=>?_)⟩;cases x with
 |o c fs=>
  dsimp only at d;cases j:tab.lookup c with
  |none=>rw[j]at d;exact d.elim
  |some g=>
   rw[j]at d;dsimp only at d;cases n:fs.lookup mn with
   |some z=>rw[n]at d;exact d.elim
   |none=>rw[n]at d;refine B5 (R.keep r) s (λL i _=>?_) ⟨g,j,n⟩;rw[j]at i;cases i;exact⟨_,_,RVs.consW (ws:=[]) s ⟨rfl,rfl⟩,B4 (R.keep r) d⟩
 |_=>exact d.elim
def erase(H:Hp)(x:Addr):Hp:=λa=>if a=x then none else H a
def zaq(W:RC)(M:a43)(H:Hp)(x:Addr)(Q:VK)(E:XK):Out PV->Prop
 |.ok r=>∀d,zH (erase H x) d->ib W (λa=>(M a\/erase H x a=none)/\a≠x) d x r->Q .non d
 |.exc c fs=>∀e h es d,zH (erase H x) d->d e=some (XC e (W.cls c) h)->d h=some (XD h es)->vz W (λa=>M a\/erase H x a=none) d fs es->E (.ref e) (some h) d
 |.wall=>False
def Fg(W:RC)(c:Nat)(ws:a47)(g:a4c):Sp:=λj H Q E=>∃M x i h d,j=.ref x::d/\H x=some (.ins (W.cls c) i [])/\jQ W M (erase H x) ws h d/\zaq W M H x Q E (g h)
def Fh(h:ws.length+1=n):∀d H Q E,Fg W c ws g d H Q E->d.length=n:=λd H Q E ⟨M,x,j,l,i,e,_,a,_⟩=>by rw[e,a0b,a.len.1,h]
def B6{H:Hp}{x c K:Addr}(l:H x=none)(i:H c=none)(j:c≠x):zH H (erase (upd (upd H c (.own x)) x (.ins K c [])) x):=λb o d=>by unfold erase;have h:b≠x:=zT d l;rw[if_neg h,zm h,zm (zT d i)];exact d
def B7{H:Hp}{x c K a:Addr}(i:H x=none)(h:erase (upd (upd H c (.own x)) x (.ins K c [])) x a=none):H a=none:=by
 by_cases e:a=x
 .rw[e];exact i
 .unfold erase at h;rw[if_neg e,zm e]at h;by_cases d:a=c
  .subst d;rw[zl]at h;cases h
  .rwa [zm d]at h
def X2(M:Mk X.K (C.W.cls c) f)(F:yF X.prog X.w X.K X.mg X.base (CXe X.prog X.w) k f fd ps (Fg C.W c ws g))(y:v8 (k+1) X.A)(T:Gl X x)(hm:X.mg x=some (.ref (C.W.cls c)))(Y:Binds X.K fd ps [])(d:Passes (CXe X.prog X.w) X C.E)(O:AM X C S ws (e::es) ms)
  (v:(x==("__debug__":Str))=false:=by decide) (he:starEach (e::es) X.env=(false,eval e X.env)::starEach es X.env:=by rfl) (hpl:(backTo pos (starEach es X.env)).any (·.1)=false:=by rfl):FM X C S (.Call (.Name x p) (e::es) [] pos) (zi g ms):=λW=>by
 obtain⟨ta,G,a2⟩:=O W;refine⟨_,Bl M F y T hm Y .nil d G v he hpl,λB P H J D R Q q=>a2 B P H J D R _ (YJ q λA vs Z I U h=>?_)⟩;intro x s d hd i;rw[a0s];have z:=R.keep I;have sm:=B6 (K:=C.W.cls c) d hd i;refine⟨_,x,s,A,vs,rfl,zl,U.args.same sm,?_⟩;have sM:∀a,(Mof B S P a\/erase (upd (upd Z s (.own x)) x (.ins (C.W.cls c) s [])) x a=none)->Mof B S P a:=λa m=>m.elim id λn=>z.new a (B7 d n);revert h;cases g A with
 |ok r=>exact λh u j y=>⟨rfl,h _ u (sm.trans j) ⟨x,rfl,d,y.gen rfl Fr.refl λa m _=>⟨sM a m.1,m.2⟩⟩⟩
 |exc c fs=>exact λh e l es u j L E N=>h e l es u ((z.same.trans sm).trans j) L E (N.sub λa m _=>(sM a m).1.1)
 |wall=>exact id
def S8(c:Nat):ME:=λ_=>.ok (.o c [])
def ui(M:MkO X.K (C.W.cls c))(s:Gl X x)(r:X.mg x=some (.ref (C.W.cls c)))(h:(x==("__debug__":Str))=false:=by decide):FM X C S (.Call (.Name x p) [] [] pos) (S8 c):=λu=>
 ⟨_,E8 M s r h,λB P H y v R Q q=>λx l i j n=>q _ _ (λb o d=>by rw[zm (zT d i),zm (zT d j)];exact d) ⟨x,rfl,i,l,[],zl,rfl⟩⟩
inductive Kd where
 |int|str|bool|none|list|tuple|dict|obj (c:Nat)|exc (c:Nat)
 deriving DecidableEq
def kd:PV->Option Kd
 |.i _=>some .int | .s _=>some .str | .b _=>some .bool | .n=>some .none | .l _=>some .list | .t _=>some .tuple | .d _=>some .dict | .o c _=>some (.obj c) | .x c _=>some (.exc c)
 |.sc _=>Option.none
 |.dt _=>Option.none
def tyK(W:RC):Kd->Value
 |.int=>.type "int" | .str=>.type "str" | .bool=>.type "bool" | .none=>.type "NoneType" | .list=>.type "list" | .tuple=>.type "tuple" | .dict=>.type "dict" | .obj c=>.ref (W.cls c) | .exc c=>.ref (W.cls c)
def RX(W:RC):Kd->Prop
 |.obj c=>Cls W.K (W.cls c)/\findIn W.K (.ref (W.cls c)) "__class__"=some (some (.builtin "object.__class__"))/\specialIn W.K (.builtin "object.__class__") "__get__"=some (some (.builtin "getset_descriptor.__get__"))/\takesIn W.K (.builtin "object.__class__")=some true/\mroIn W.K (W.cls c) (.type "object")=some true
 |.exc c=>QT W.K (W.cls c)/\XIs W.K (W.cls c)
 |_=>True
def B8(W:RC)(f:a4O):List (Kd×Bool)->Prop
 |[]=>True
 |q::r=>(RX W q.1/\f (tyK W q.1)=some q.2)/\B8 W f r
def B8.get{W:RC}{f:a4O}:∀{c:List (Kd×Bool)}{k:Kd}{b:Bool},B8 W f c->c.lookup k=some b->RX W k/\f (tyK W k)=some b
 |[],_,_,_,h=>by cases h
 |q::r,k,b,t,h=>by
  rw[a0M]at h;by_cases e:(k==q.1)=true
  .simp only[e]at h;cases h;rw[a0I.mp e];exact t.1
  .simp only[e]at h;exact B8.get t.2 h
def zar(tab:List (Kd×Bool))(x:PV):Out PV:=j8 (((kd x).bind λk=>tab.lookup k).map PV.b)
def za8(W:RC)(f:a4O)(d:V):List V->Hp->VK->Prop:=λc H Q=>∃(M:a43)(x:PV)(v:V)(k:Kd)(b:Bool),c=[v,d]/\qu W (λ_=>True) M H x v/\kd x=some k/\RX W k/\f (tyK W k)=some b/\Q (.bl b) H
def OP{pins:a38}{σ:St}{H:Hp}{s:a42}{W:RC}{N M:a43}{x:PV}{v:V}{u:Value}{k:Kd}(E:X.K=W.K)(I:Inv X pins σ H s)(h:qu W N M H x v)(r:RelV v u)(j:kd x=some k)(ok:RX W k):∃P,KitX X.K u (tyK W k) P/\P s.heap/\u≠.builtin "__main__.__loader__#opaque":=by
 cases x with
 |i a=>cases j;exact p8 I r (.inl (by rw[(show v=_ from h)];exact .int a))
 |s a=>cases j;exact p8 I r (.inl (by rw[(show v=_ from h)];exact .str a))
 |b a=>cases j;exact p8 I r (.inl (by rw[(show v=_ from h)];exact .bl a))
 |n=>cases j;exact p8 I r (.inl (by rw[(show v=_ from h)];exact .non))
 |l a=>cases j;obtain⟨p,K,rfl,_,q,_⟩:=h;exact p8 I r (.inl (.lst q))
 |t a=>cases j;obtain⟨p,K,rfl,q,_⟩:=h;cases(show u=Value.ref p from r);rw[<- E]at q;obtain⟨O,_,⟨o,D,B,_⟩,_⟩:=I.tuple q;exact⟨_,kitx_tuple,⟨o,D,B⟩,λz=>nomatch z⟩
 |d a=>cases j;obtain⟨p,K,rfl,_,q,_⟩:=h;cases(show u=Value.ref p from r);obtain⟨_,_,ws,_,dd⟩:=Kx I.hok q;obtain⟨o,es,R,D,B,_⟩:=dd;exact⟨_,kitx_dict,⟨o,D,B.1⟩,λz=>nomatch z⟩
 |o c a=>cases j;obtain⟨p,L,es,rfl,_,q,_⟩:=h;obtain⟨A,y,G,F,J⟩:=ok;rw[<- E]at A y G F J;exact p8 I r (.inl (.ins q A y G F J))
 |x c a=>cases j;obtain⟨p,L,es,rfl,q,Q,_⟩:=h;obtain⟨A,y⟩:=ok;rw[<- E]at A y;exact p8 I r (.inr ⟨p,_,L,es,rfl,rfl,A,y,.inl q,Q⟩)
 |sc a=>cases j
 |dt a=>cases j
def Fi(hK:X.K=W.K)(hc:SV cv=some cl):ZS X (.builtin "isinstance") (za8 W (λt=>kitOne W.K t cl) cv):=by intro pins s σ H xs us Q I r h;obtain⟨M,x,v,k,b,rfl,hx,hk,ok,hb,q⟩:=h;obtain⟨u,c,rfl,rx,rc⟩:=vals2 r;obtain⟨P,kx,hP,hne⟩:=OP hK I hx rx hk ok;rw[E3 rc hc];rw[<- hK]at hb;exact a0P (n:=X.m) (by ac_rfl)<|kia_one kx I.kIn hP hb hne λtk hn=>⟨.bl b,H,I.tok _ hn,rfl,q⟩
def OQ(y:Gl X "isinstance")(J:X.mg "isinstance"=none)(h:EM X C S w e m)(A:PE X ce (tC cv))(i:SV cv=some cl)(tb:B8 C.W (λt=>kitOne C.W.K t cl) tab)
  (he:starEach [e,ce] X.env=[(false,eval e X.env),(false,eval ce X.env)]:=by rfl) (c:starEach [ce] X.env=[(false,eval ce X.env)]:=by rfl):EM X C S false (.Call (.Name "isinstance" p) [e,ce] [] pos) (mUn (zar tab) m):=λl=>by
 obtain⟨L,s,I⟩:=h l;refine⟨_,tU (Fi l i) y J PyProof.Rows.boot_isinstance (QW s (QW A fK c) (by rw[he,c])) (by decide) (by decide) (by rw[he,c]) (by rw[c];rfl),λB P H u r R Q q=>I B P H u r R _ (z7 q λx v F K D j=>?_)⟩;obtain⟨z,n,j⟩:=yW j;obtain⟨b,d,rfl⟩:=a0c.mp n;obtain⟨k,G,d⟩:=a0B.mp d;obtain⟨ok,E⟩:=tb.get d;exact⟨_,x,v,k,b,rfl,D.weak,G,ok,E,j _ F (zH.refl _) (RV.of rfl)⟩
abbrev MO:=Sto->Out (Option Int)
def LO(C:LC)(S:a39)(j:TO)(m:MO):Prop:=∀B P H i h,Rel C.W B S P H i h->∀Q:Option Int->Hp->Prop,(match m h with | .ok r=>∀d,zH H d->Q r d | .exc c fs=>XPo C B c fs | .wall=>False)->j i H Q
def OM(X:Cx)(C:LC)(S:a39)(e:a4F)(m:MO):Prop:=X.K=C.W.K->∃c,PO X e c/\LO C S c m
def my:MO:=λ_=>.ok none
def asI:PV->Out (Option Int)
 |.i a=>.ok (some a)
 |_=>.wall
def Yq(m:ME):MO:=λc=>(m c).bind asI
def V2:OM X C S none my:=λ_=>⟨_,IV,λB P H d c R Q q=>q H (zH.refl _)⟩
def V3(h:EM X C S w e m):OM X C S (some e) (Yq m):=λl=>by
 obtain⟨z,n,y⟩:=h l;refine⟨_,IW n,λB P H u d R Q q=>y B P H u d R _ ?_⟩;unfold Yq at q;revert q;cases m d with
 |ok x=>
  intro q v j s r;cases x with
  |i a=>exact⟨a,r,q j s⟩
  |_=>exact q.elim
 |exc c fs=>exact id
 |wall=>exact id
def mz{d:Type}(xs:List d)(c h:a4D):List d:=(xs.drop (HT.sIx xs.length 0 c)).take (HT.sIx xs.length xs.length h-HT.sIx xs.length 0 c)
def pSl:PV->Option Int->Option Int->Out PV
 |.l h,d,c=>.ok (.l (mz h d c))
 |.sc i,d,c=>.ok (.l ((mz i d c).map PV.i))
 |.s z,d,c=>if z.length<=sizeLine then .ok (.s (Txt.slice z d c))else .wall
 |_,_,_=>.wall
def LD:PV->Option Int->Option Int->Out PV
 |.l h,d,c=>.ok (.l (mz h d c))
 |.sc i,d,c=>.ok (.l ((mz i d c).map PV.i))
 |_,_,_=>.wall
def mSl(i:PV->Option Int->Option Int->Out PV)(m:ME)(j d:MO):ME:=λc=>(m c).bind λx=>(j c).bind λl=>(d c).bind λh=>i x l h
def uj{ns:a4k}{d c:a4D}:G4 (ns.map V.int) d c=(mz ns d c).map V.int:=by unfold G4 mz;rw[v4,a18,a2T]
variable {lo hi:a4F}{ml mh:MO}{p2:Pos}
def uk(h:EM X C S w e m)(K:OM X C S lo ml)(F:OM X C S hi mh):FM X C S (.Subscript e (.Slice lo hi none p2) pos) (mSl LD m ml mh):=λj=>by
 obtain⟨Z,E,N⟩:=h j;obtain⟨tl,G,D⟩:=K j;obtain⟨U,T,I⟩:=F j;refine⟨_,tV Bp E G T,λB P H n i R Q q=>N B P H n i R _ (YK q λx v r u J d=>D B P r n i (R.keep u) _ ?_)⟩;revert d;cases ml i with
 |exc c fs=>exact id
 |wall=>exact id
 |ok l=>
  intro d O s;refine I B P O n i ((R.keep u).keep s) _ ?_;have d:yj C B r (RFr C.W (Mof B S P) r) Q ((mh i).bind λh=>LD x l h):=d;have d:=v9 d s;revert d;cases mh i with
  |exc c fs=>exact id
  |wall=>exact id
  |ok h=>
   intro d W A;have d:=v9 (o:=LD x l h) d A;have y:=(J.same s).same A;cases x with
   |l xs=>obtain⟨p,M,rfl,_,hp,L⟩:=y;exact⟨p,M,rfl,SqL.of hp,λz hz=>d _ _ (zH.upd hz) (KH L.cut hz)⟩
   |sc Y=>obtain⟨p,rfl,hp⟩:=y;exact⟨p,_,rfl,j▸hp.sq,λz hz=>d _ _ (zH.upd hz) (by rw[uj];exact KH yr.ints hz)⟩
   |_=>exact d.elim
def WM(h:EM X C S w e m)(N:OM X C S lo ml)(I:OM X C S hi mh):EM X C S false (.Subscript e (.Slice lo hi none p2) pos) (mSl pSl m ml mh):=λj=>by
 obtain⟨te,G,U⟩:=h j;obtain⟨tl,J,F⟩:=N j;obtain⟨Z,Y,L⟩:=I j;refine⟨_,tV (Bp.or Oo) G J Y,λB P H u i R Q q=>U B P H u i R _ (z7 q λx v E r M d=>F B P E u i (R.keep r) _ ?_)⟩;revert d;cases ml i with
 |exc c fs=>exact id
 |wall=>exact id
 |ok l=>
  intro d W n;refine L B P W u i ((R.keep r).keep n) _ ?_;have d:yj C B E (RV C B S P false) Q ((mh i).bind λh=>pSl x l h):=d;have d:=Yp d n;revert d;cases mh i with
  |exc c fs=>exact id
  |wall=>exact id
  |ok h=>
   intro d K A;have d:=Yp (o:=pSl x l h) d A;have y:=(M.same n).same A;have D:=(((R.keep r).keep n).keep A).new;cases x with
   |l xs=>obtain⟨p,T,rfl,_,hp,O⟩:=y;exact .inl ⟨p,T,rfl,SqL.of hp,λz hz=>d _ _ (zH.upd hz) (RV.of ((KH O.cut hz).rep D))⟩
   |sc ns=>obtain⟨p,rfl,hp⟩:=y;exact .inl ⟨p,_,rfl,j▸hp.sq,λz hz=>d _ _ (zH.upd hz) (by rw[uj];exact RV.of ((KH yr.ints hz).rep D))⟩
   |s z=>
    unfold pSl at d;by_cases hz:z.length<=sizeLine
    .simp only[hz,if_true]at d;exact .inr ⟨z,y,hz,d _ K (zH.refl _) (RV.of rfl)⟩
    .simp only[hz,if_false]at d;exact d.elim
   |_=>exact d.elim
end
def LF(C:LC)(B:Bs)(H:Hp)(x:PV)(v:V):Prop:=if C.fr=true then RFr C.W B.Mt B.H0 H x v else Rep C.W B.Mt H x v
def v_(C:LC)(B:Bs)(S' Sb Sc:a39)(D:Ends):Out Fw->Prop
 |.ok (.nx d)=>∀e b a,Rel C.W B S' e b a d->D.nx a b
 |.ok (.rt x)=>∀v b,zH B.H0 b->LF C B b x v->D.rt v b
 |.ok (.bk d)=>∀e b a,Rel C.W B Sb e b a d->D.bk a b
 |.ok (.ct d)=>∀e b a,Rel C.W B Sc e b a d->D.ct a b
 |.exc c fs=>XPo C B c fs
 |.wall=>False
def LS(C:LC)(S S' Sb Sc:a39)(c:TS)(m:MS):Prop:=∀B P H b a,Rel C.W B S P H b a->∀D,v_ C B S' Sb Sc D (m a)->c D b H
def SM(X:Cx)(C:LC)(S S' Sb Sc:a39)(st:a4z)(m:MS):Prop:=X.K=C.W.K->∃a,PS X st a/\LS C S S' Sb Sc a m
def SsM(X:Cx)(C:LC)(S S' Sb Sc:a39)(st:a4r)(m:MS):Prop:=X.K=C.W.K->∃a,PSs X st a/\LS C S S' Sb Sc a m
def zR:MS:=λa=>.ok (.nx a)
def zI(a b:MS):MS:=λd=>(a d).bind λf=>match f with
 |.nx c=>b c
 |.rt x=>.ok (.rt x)
 |.bk c=>.ok (.bk c)
 |.ct c=>.ok (.ct c)
def z8(i:Nat)(m:ME):MS:=λa=>(m a).bind λx=>.ok (.nx (a.set i (some x)))
def jd(m:ME):MS:=λa=>(m a).bind λ_=>.ok (.nx a)
def je(m:ME):MS:=λa=>(m a).bind λx=>.ok (.rt x)
def sIf(t:MT)(a b:MS):MS:=λd=>(t d).bind λc=>if c=true then a d else b d
section
variable {X:Cx}{C:LC}{S S' S1 Sb Sc:a39}{e a o:a45}{w:Bool}{m:ME}{t1:MT}{s1 s2:MS}{pos p pos':Pos}{x:Str}{st:a4z}{sts stt:a4r}{i:Nat}
def zN:SsM X C S S Sb Sc [] zR:=λ_=>⟨_,IE,λB P H c d R D q=>q P H c R⟩
def OR(v:LS C S S1 Sb Sc t s1)(l:LS C S1 S' Sb Sc u s2):LS C S S' Sb Sc (Sl t u) (zI s1 s2):=λB P H r h R D q=>by
 refine v B P H r h R _ ?_;unfold zI at q;revert q;cases s1 h with
 |ok f=>
  cases f with
  |nx d=>exact λq s j g n=>l B s j g d n D q
  |rt x=>exact id
  |bk d=>exact id
  |ct d=>exact id
 |exc c fs=>exact id
 |wall=>exact id
def zf(l:SM X C S S1 Sb Sc st s1)(g:SsM X C S1 S' Sb Sc sts s2):SsM X C S S' Sb Sc (st::sts) (zI s1 s2):=λc=>by obtain⟨t,h,j⟩:=l c;obtain⟨u,d,f⟩:=g c;exact⟨_,aV h d,OR j f⟩
def zh(g:SM X C S S' Sb Sc st s1):SsM X C S S' Sb Sc [st] s1:=λc=>by obtain⟨t,f,d⟩:=g c;exact⟨_,j_ f,d⟩
def Fj(i:Nat)(j:S1[i]?=some 2)(q:v_ C B (S1.set i 0) Sb Sc D f):v_ C B S1 Sb Sc D f:=by
 cases f with
 |ok f=>
  cases f with
  |nx d=>exact λn h g l=>q n h g (l.freeze j)
  |rt x=>exact q
  |bk d=>exact q
  |ct d=>exact q
 |exc c fs=>exact q
 |wall=>exact q
def LH(i:Nat)(h:SsM X C S S1 Sb Sc sts s1)(d:S1[i]?=some 2:=by rfl):SsM X C S (S1.set i 0) Sb Sc sts s1:=λc=>by obtain⟨t,g,l⟩:=h c;exact⟨t,g,λB P H j f R D q=>l B P H j f R D (Fj i d q)⟩
def Hj(h:LE C S false te m):LS C S (S.set i 0) Sb Sc (NO te (xH i)) (z8 i m):=λB P H g d R D q=>by
 refine h B P H g d R _ ?_;unfold z8 at q;revert q;cases m d with
 |ok x=>exact λq v f s r=>q P f _ ((R.keep s).set r.rep)
 |exc c fs=>exact id
 |wall=>exact id
def bE(l:X.N.Nodup)(f:X.N[i]?=some x)(n:Loc X.env.scope x)(h:EM X C S false e m)(d:swapsWith e (some (.Name x pos')) pos.line X.env=pure false:=by rfl)(hf:X.fn x=true\/X.env.scope.names.lookup x=some .local:=by first|exact .inl rfl|exact .inr rfl|assumption):
  SM X C S (S.set i 0) Sb Sc (.Assign [.Name x pos'] e pos) (z8 i m):=λc=>by
 obtain⟨q,g,j⟩:=h c;exact⟨_,GS l f n g d hf,Hj j⟩
def B9(h:LFr C S te m)(g:i<S.length)(j:i≠0):LS C S (S.set i 2) Sb Sc (NO te (xH i)) (z8 i m):=λB P H l d R D q=>by
 refine h B P H l d R _ ?_;unfold z8 at q;revert q;cases m d with
 |ok x=>exact λq v f s ⟨p,e,hp,r⟩=>by subst e;exact q _ f _ (R.za4 s hp g j r)
 |exc c fs=>exact id
 |wall=>exact id
def jR(q:X.N.Nodup)(f:X.N[i]?=some x)(r:Loc X.env.scope x)(h:FM X C S e m)(g:i<S.length:=by decide)(j:i≠0:=by decide)(d:swapsWith e (some (.Name x pos')) pos.line X.env=pure false:=by rfl)(hf:X.fn x=true\/X.env.scope.names.lookup x=some .local:=by first|exact .inl rfl|exact .inr rfl|assumption):
  SM X C S (S.set i 2) Sb Sc (.Assign [.Name x pos'] e pos) (z8 i m):=λc=>by
 obtain⟨s,l,n⟩:=h c;exact⟨_,GS q f r l d hf,B9 n g j⟩
def yo(h:EM X C S w e m)(l:swapsWith e none pos.line X.env=pure false:=by rfl):SM X C S S Sb Sc (.Expr e pos) (jd m):=λj=>by
 obtain⟨y,n,u⟩:=h j;refine⟨_,gZ n l,λB P H f d R D q=>u B P H f d R _ ?_⟩;unfold jd at q;revert q;cases m d with
 |ok x=>exact λq v g s r=>q P g f (R.keep s)
 |exc c fs=>exact id
 |wall=>exact id
def yH(h:EM X C S false e m)(hf:C.fr=false:=by rfl):SM X C S S' Sb Sc (.Return (some e) pos) (je m):=λg=>by
 obtain⟨u,j,n⟩:=h g;refine⟨_,A8 j,λB P H l d R D q=>n B P H l d R _ ?_⟩;unfold je at q;revert q;cases m d with
 |ok x=>exact λq v f s r=>q v f (R.same.trans s) (by unfold LF;rw[hf,if_neg a0q];exact r.rep.sub λa m _=>m.1.1)
 |exc c fs=>exact id
 |wall=>exact id
def kf(h:FM X C S e m)(hf:C.fr=true:=by rfl):SM X C S S' Sb Sc (.Return (some e) pos) (je m):=λg=>by
 obtain⟨u,j,n⟩:=h g;refine⟨_,A8 j,λB P H l d R D q=>n B P H l d R _ ?_⟩;unfold je at q;revert q;cases m d with
 |ok x=>exact λq v f s r=>q v f (R.same.trans s) (by
   unfold LF;rw[if_pos hf];obtain⟨p,e,hp,r⟩:=r;exact⟨p,e,zH.none R.same hp,r.gen rfl Fr.refl λa m _=>⟨m.1.1.1,m.2⟩⟩)
 |exc c fs=>exact id
 |wall=>exact id
def ZT(h:PE X e (tR i))(d:S[i]?=some 2:=by rfl)(hf:C.fr=true:=by rfl):SM X C S S' Sb Sc (.Return (some e) pos) (je (zd i)):=λn=>by
 refine⟨_,A8 h,λB P H r j R D q=>?_⟩;unfold je zd at q;cases c:j[i]? with
 |none=>rw[c]at q;exact q.elim
 |some o=>
  cases o with
  |none=>rw[c]at q;exact q.elim
  |some y=>rw[c]at q;obtain⟨v,f,l,_,_⟩:=R.var i y c;obtain⟨rfl,g⟩:=l d;refine⟨_,f,q _ H R.same ?_⟩;unfold LF;rw[if_pos hf];exact⟨P i,rfl,(R.act i d).1,g.gen rfl Fr.refl λa m _=>⟨m.1.1,λz=>m.2 i d z.symm⟩⟩
def yp(h:TM X C S c t1)(v:SsM X C S S' Sb Sc sts s1)(n:SsM X C S S' Sb Sc stt s2):SM X C S S' Sb Sc (.If c sts stt pos) (sIf t1 s1 s2):=λg=>by
 obtain⟨F,r,A⟩:=h g;obtain⟨t,y,l⟩:=v g;obtain⟨u,E,z⟩:=n g;refine⟨_,Sn r y E,λB P H f d R D q=>A B P H f d R _ ?_⟩;unfold sIf at q;revert q;cases t1 d with
 |ok k=>
  intro q j s;cases k with
  |true=>exact Ha (l B P j f d (R.keep s) D q)
  |false=>exact G_ (z B P j f d (R.keep s) D q)
 |exc c fs=>exact id
 |wall=>exact id
def Rel.at2(R:Rel W B S P H σ ρ)(f:S[i]?=some 2)(e:ρ[i]?=some (some y)):σ[i]?=some (some (.ref (P i)))/\ib W (Mof B S P) H (P i) y/\i<ρ.length:=by obtain⟨v,c,g,_,_⟩:=R.var i y e;obtain⟨rfl,d⟩:=g f;exact⟨c,d,(a0v.mp e).1⟩
def Mof.wr{W:RC}{B:Bs}{P:a49}{H:Hp}{σ:St}{ρ:Sto}{o:HO}(R:Rel W B S P H σ ρ)(c:S[i]?=some 2):Fr (Mof B S P) H (upd H (P i) o):=λa q e m=>by
 obtain⟨_,g,d,f⟩:=R.act i c;have:a≠P i:=λz=>by
  rcases m with m|m
  .exact m.2 i c z.symm
  .rw[z,d]at e;cases e;exact f m
 rw[zm this];exact e
def X3(i:Nat)(m:ME):MS:=λc=>match c[i]? with
 |some (some (.l d))=>(m c).bind λy=>if d.length<sizeLine then .ok (.nx (c.set i (some (.l (d++[y])))))else .wall
 |_=>.wall
def yk(F:PE X o (tR i))(h:EM X C S false e m)(j:S[i]?=some 2:=by rfl)(I:attributeBase o "append" X.env (eval o X.env)=eval o X.env:=by rfl)
  (K:((backTo p (starEach [e] X.env)).all (λx=>!x.1)&&(backToKw p (keywordEach [] X.env)).all (λx=>x.1.isSome)&&decide ([e].length+([]:List Keyword).length+(if([]:List Keyword).isEmpty then 0 else 1)<30))=true:=by rfl)
  (O:(jH.endLine==p.line)=true:=by rfl) (u:starEach [e] X.env=[(false,eval e X.env)]:=by rfl) (l:swapsWith (.Call (.Attribute o "append" jH) [e] [] p) none pos.line X.env=pure false:=by rfl):
  SM X C S S Sb Sc (.Expr (.Call (.Attribute o "append" jH) [e] [] p) pos) (X3 i m):=λL=>by
 obtain⟨T,G,N⟩:=h L;refine⟨_,gZ (IY a3h PySem.F.slot_list_append PySem.F.type_list_append mQ F (QW G fK u) I K O u rfl) l,λB P H n g R D q=>?_⟩;unfold X3 at q;split at q
 .rename_i E J;obtain⟨d,⟨A,hp,z⟩,M⟩:=R.at2 j J;refine⟨_,d,.inl ⟨rfl,_,SqL.of hp⟩,N B P H n g R _ ?_⟩;revert q;cases m g with
  |ok y=>
   intro q v Q s r;have q:v_ C B S Sb Sc D (if E.length<sizeLine then .ok (.nx (g.set i (some (.l (E++[y])))))else .wall):=q;split at q
   .rename_i hz;have R2:=R.keep s;refine⟨_,A,v,rfl,rfl,s _ _ hp,by rw[z.len];exact hz,q P _ n (R2.wr j M d (by exact id) ?_)⟩;have f:=Mof.wr (o:=.lst (A++[v])) R2 j;exact⟨_,zl,((z.same s).append (.cons r.rep .nil)).gen f λ_ m _=>m⟩
   .exact q.elim
  |exc c fs=>exact id
  |wall=>exact id
 .exact q.elim
def Nt(i:Nat)(m:ME):MS:=λc=>match c[i]? with
 |some (some (.l f))=>(m c).bind λy=>match y with
  |.l d=>if f.length+d.length<=sizeLine then .ok (.nx (c.set i (some (.l (f++d)))))else .wall
  |_=>.wall
 |_=>.wall
def B_(L:PE X o (tR i))(h:EM X C S w e m)(n:S[i]?=some 2:=by rfl)(O:attributeBase o "extend" X.env (eval o X.env)=eval o X.env:=by rfl)
  (T:((backTo p (starEach [e] X.env)).all (λx=>!x.1)&&(backToKw p (keywordEach [] X.env)).all (λx=>x.1.isSome)&&decide ([e].length+([]:List Keyword).length+(if([]:List Keyword).isEmpty then 0 else 1)<30))=true:=by rfl)
  (Z:(jH.endLine==p.line)=true:=by rfl) (F:starEach [e] X.env=[(false,eval e X.env)]:=by rfl) (u:swapsWith (.Call (.Attribute o "extend" jH) [e] [] p) none pos.line X.env=pure false:=by rfl):
  SM X C S S Sb Sc (.Expr (.Call (.Attribute o "extend" jH) [e] [] p) pos) (Nt i m):=λU=>by
 obtain⟨te,N,Y⟩:=h U;refine⟨_,gZ (IY a3h PySem.F.slot_list_extend PySem.F.type_list_extend Br L (QW N fK F) O T Z F rfl) u,λB P H z j R D q=>?_⟩;unfold Nt at q;split at q
 .rename_i J Q;obtain⟨d,⟨I,hp,G⟩,W⟩:=R.at2 n Q;refine⟨_,d,.inl ⟨rfl,_,SqL.of hp⟩,Y B P H z j R _ ?_⟩;revert q;cases m j with
  |ok y=>
   intro q v H2 s r;cases y with
   |l A=>
    have q:v_ C B S Sb Sc D (if J.length+A.length<=sizeLine then .ok (.nx (j.set i (some (.l (J++A)))))else .wall):=q;split at q
    .rename_i hz;have R2:=R.keep s;obtain⟨M,K,rfl,_,g,E⟩:=r;refine⟨_,M,I,K,rfl,rfl,s _ _ hp,g,by rw[G.len,E.len];exact hz,q P _ z (R2.wr n W d (by exact id) ?_)⟩;have f:=Mof.wr (o:=.lst (I++K)) R2 n;exact⟨_,zl,((G.same s).append E).gen f λ_ m _=>m⟩
    .exact q.elim
   |_=>exact q.elim
  |exc c fs=>exact id
  |wall=>exact id
 .exact q.elim
def dput{d f:Type}[DecidableEq d](kvs:List (d×f))(k:d)(v:f):List (d×f):=
 if kvs.any (λc=>decide (c.1=k))=true then kvs.map (λc=>if c.1=k then(c.1,v)else c)else kvs++[(k,v)]
end
def j7.put(h:j7 W M H a c)(j:Rep W M H x v):j7 W M H (dput a k x) (putK c k v):=by
 have f:∀{a:a4l}{c:a4d},j7 W M H a c->a.any (λb=>decide (b.1=k))=c.any (λb=>decide (b.1=k))/\j7 W M H (a.map λb=>if b.1=k then(b.1,x)else b) (c.map λb=>if b.1=k then(b.1,v)else b)/\j7 W M H (a++[(k,x)]) (c++[(k,v)]):=by
  intro a
  induction a with
  |nil=>intro c h;cases(show _=_ from h);exact⟨rfl,rfl,v,[],rfl,j,rfl⟩
  |cons o a n=>
   intro c h;obtain⟨u,q,rfl,l,m⟩:=h;obtain⟨i,d,g⟩:=n m;refine⟨by rw[a1b,a1b,i],?_,⟨u,_,rfl,l,g⟩⟩;rw[a0j,a0j];by_cases e:o.1=k
   .rw[if_pos e,if_pos e];exact⟨v,_,rfl,j,d⟩
   .rw[if_neg e,if_neg e];exact⟨u,_,rfl,l,d⟩
 obtain⟨i,d,g⟩:=f h;unfold dput putK;rw[i];split
 .exact d
 .exact g
section
variable {X:Cx}{C:LC}{S Sb Sc:a39}{e a o:a45}{es:a44}{w:Bool}{m m1 m2:ME}{pos p pos':Pos}{i:Nat}
def Eu(i:Nat)(mk f:ME):MS:=λd=>(f d).bind λv=>match d[i]? with
 |some (some (.d c))=>(mk d).bind λy=>match pk y with
  |some k=>if c.length<sizeLine then .ok (.nx (d.set i (some (.d (dput c k v)))))else .wall
  |none=>.wall
 |_=>.wall
def Ca(N:X.A.units+1<cLine)(J:PE X o (tR i))(A:EM X C S w a m1)(Q:EM X C S false e m2)(s:S[i]?=some 2:=by rfl)(T:swapsWith e (some (.Subscript o a pos')) pos.line X.env=pure false:=by rfl):
  SM X C S S Sb Sc (.Assign [.Subscript o a pos'] e pos) (Eu i m1 m2):=λF=>by
 obtain⟨ta,K,Y⟩:=A F;obtain⟨tv,M,I⟩:=Q F;refine⟨_,p6 N J K M T,λB P H l h R D q=>I B P H l h R _ ?_⟩;unfold Eu at q;revert q;cases m2 h with
 |ok y=>
  intro q v U E Z;have n:=R.keep E;have q:v_ C B S Sb Sc D (match h[i]? with
   |some (some (.d d))=>(m1 h).bind λz=>match pk z with
    |some k=>if d.length<sizeLine then .ok (.nx (h.set i (some (.d (dput d k y)))))else .wall
    |none=>.wall
   |_=>.wall):=q
  split at q
  .rename_i d O;obtain⟨j,⟨es,hp,G⟩,W⟩:=n.at2 s O;refine⟨_,j,Y B P U l h n _ ?_⟩;revert q;cases m1 h with
   |ok z=>
    intro q u H2 g L;have R2:=n.keep g;have q:v_ C B S Sb Sc D (match pk z with
     |some k=>if d.length<sizeLine then .ok (.nx (h.set i (some (.d (dput d k y)))))else .wall
     |none=>.wall):=q
    split at q
    .rename_i k A;split at q
     .rename_i hz;have r:=g _ _ hp;refine⟨_,_,rfl,by rw[ik L.weak A];exact EL.k r (by rw[j7.len G];exact hz),q P _ l (R2.wr s W j (by exact id) ?_)⟩;have f:=Mof.wr (o:=.dK (putK es k v)) R2 s;exact⟨_,zl,((G.same g).put (Z.rep.same g)).gen f λ_ m _=>m⟩
     .exact q.elim
    .exact q.elim
   |exc c fs=>exact id
   |wall=>exact id
  .exact q.elim
 |exc c fs=>exact id
 |wall=>exact id
def x_(i:Nat)(mk f:ME):MS:=λc=>(f c).bind λv=>match c[i]? with
 |some (some (.l d))=>(mk c).bind λy=>match y with
  |.i k=>match ixN d.length k with
   |some j=>.ok (.nx (c.set i (some (.l (d.set j v)))))
   |none=>.wall
  |_=>.wall
 |_=>.wall
def Cb(J:PE X o (tR i))(hk:EM X C S w a m1)(T:EM X C S false e m2)(s:S[i]?=some 2:=by rfl)
  (O:∀v,assign (.Subscript o a p) X.env v=(do
   let ov<-holding [v] (eval o X.env)
   let iv<-holding [v,ov] (eval a X.env)
   standAt p
   holding [v,ov,iv] (setItem ov iv v)
   release [v,ov,iv] []):=by intro _;rfl)
  (W:swapsWithSole [.Subscript o a p] e pos.line X.env=pure false:=by rfl) (U:swappedStores [.Subscript o a p] e X.env=pure none:=by rfl) (L:(assignEach [.Subscript o a p] X.env).map (·.2)=[assign (.Subscript o a p) X.env]:=by rfl):
  SM X C S S Sb Sc (.Assign [.Subscript o a p] e pos) (x_ i m1 m2):=λE=>by
 obtain⟨ta,K,a2⟩:=hk E;obtain⟨tv,N,I⟩:=T E;refine⟨_,NP N (NM J K set_list O) W U L,λB P H n g R D q=>I B P H n g R _ ?_⟩;unfold x_ at q;revert q;cases m2 g with
 |ok y=>
  intro q v Y A rv;have r:=R.keep A;have q:v_ C B S Sb Sc D (match g[i]? with
   |some (some (.l l))=>(m1 g).bind λz=>match z with
    |.i k=>match ixN l.length k with
     |some j=>.ok (.nx (g.set i (some (.l (l.set j y)))))
     |none=>.wall
    |_=>.wall
   |_=>.wall):=q
  split at q
  .rename_i l Q;obtain⟨h,⟨G,hp,F⟩,Z⟩:=r.at2 s Q;refine⟨_,h,a2 B P Y n g r _ ?_⟩;revert q;cases m1 g with
   |ok z=>
    intro q u H2 d M;have R2:=r.keep d;cases z with
    |i k=>
     have q:v_ C B S Sb Sc D (match ixN l.length k with
      |some j=>.ok (.nx (g.set i (some (.l (l.set j y)))))
      |none=>.wall):=q
     split at q
     .rename_i j hj;refine⟨_,G,k,j,rfl,M,d _ _ hp,by rw[F.len];exact hj,q P _ n (R2.wr s Z h (by exact id) ?_)⟩;have f:=Mof.wr (o:=.lst (G.set j v)) R2 s;exact⟨_,zl,(yr.set (rv.rep.same d) j (F.same d)).gen f λ_ m _=>m⟩
     .exact q.elim
    |_=>exact q.elim
   |exc c fs=>exact id
   |wall=>exact id
  .exact q.elim
 |exc c fs=>exact id
 |wall=>exact id
def Ew(fs:a4m)(f:Str)(v:PV):List (Str×PV):=match fs with
 |[]=>[(f,v)]
 |c::r=>if c.1=f then(f,v)::r else c::Ew r f v
end
def vz.put{W:RC}{M:a43}{H:Hp}{f:Str}{x:PV}{v:V}(b:Rep W M H x v):∀{a:a4m}{c:a4o},vz W M H a c->vz W M H (Ew a f x) (WB f v c)
 |[],_,h=>by cases(show _=_ from h);exact⟨v,[],rfl,b,rfl⟩
 |g::a,_,h=>by
  obtain⟨u,q,rfl,i,d⟩:=h;unfold Ew WB;by_cases e:g.1=f
  .rw[if_pos e,if_pos e,e];exact⟨v,q,rfl,b,d⟩
  .rw[if_neg e,if_neg e];exact⟨u,_,rfl,i,vz.put b d⟩
def vz.len(h:vz W M H a es):es.length=a.length:=by have:=a0O List.length (vz.iff.mp h).1;simpa using this
section
variable {X:Cx}{C:LC}{S S' S1 Sb Sc:a39}{e a b o:a45}{es:a44}{w:Bool}{m:ME}{pos p pos':Pos}{x:Str}{i:Nat}
def WN(i:Nat)(cs:a39)(f:Str)(m:ME):MS:=λd=>(m d).bind λv=>match d[i]? with
 |some (some (.o c fs))=>if c∈cs/\fs.length<1000 then .ok (.nx (d.set i (some (.o c (Ew fs f v)))))else .wall
 |_=>.wall
def KI(A:PE X o (tR i))(G:EM X C S false e m)(s:∀c∈cs,Cls X.K (C.W.cls c)/\qC X.K (C.W.cls c) fn)(j:S[i]?=some 2:=by rfl)(J:swapsWith e (some (.Attribute o fn pos')) pos.line X.env=pure false:=by rfl):
  SM X C S S Sb Sc (.Assign [.Attribute o fn pos'] e pos) (WN i cs fn m):=λI=>by
 obtain⟨N,E,z⟩:=G I;refine⟨_,G0 A E J,λB P H r g R D q=>z B P H r g R _ ?_⟩;unfold WN at q;revert q;cases m g with
 |ok y=>
  intro q v M l L;have h:=R.keep l;have q:v_ C B S Sb Sc D (match g[i]? with
   |some (some (.o c fs))=>if c∈cs/\fs.length<1000 then .ok (.nx (g.set i (some (.o c (Ew fs fn y)))))else .wall
   |_=>.wall):=q
  split at q
  .rename_i c fs F;split at q
   .rename_i hz;obtain⟨d,⟨n,es,hp,u⟩,K⟩:=h.at2 j F;refine⟨_,d,_,_,n,es,rfl,hp,(s c hz.1).1,(s c hz.1).2,by rw[u.len];exact hz.2,q P _ r (h.wr j K d (by exact id) ?_)⟩;have f:=Mof.wr (o:=.ins (C.W.cls c) n (WB fn v es)) h j;exact⟨n,_,zl,(vz.put L.rep u).gen f λ_ m _=>m⟩
   .exact q.elim
  .exact q.elim
 |exc c fs=>exact id
 |wall=>exact id
def OS(i:Nat)(g:a4N)(m:ME):MS:=λc=>match c[i]? with
 |some (some x)=>(m c).bind λy=>(g x y).bind λz=>.ok (.nx (c.set i (some z)))
 |_=>.wall
def Cc(N:X.N.Nodup)(F:X.N[i]?=some x)(G:Loc X.env.scope x)(h:EM X C S w e m)(j:PIp X op (ipI f))(g:S[i]?≠some 2/\S[i]?≠some 1:=by decide)(hf:X.fn x=true\/X.env.scope.names.lookup x=some .local:=by first|exact .inl rfl|exact .inr rfl|assumption):
  SM X C S (S.set i 0) Sb Sc (.AugAssign (.Name x pos') op e pos) (OS i (pI λa b=>.i (f a b)) m):=λJ=>by
 obtain⟨O,l,K⟩:=h J;refine⟨_,NQ N F G l j hf,λB P H n d R D q=>?_⟩;unfold OS at q;split at q
 .rename_i y A;obtain⟨v,I,_,_,E⟩:=R.var i y A;refine⟨v,I,K B P H n d R _ ?_⟩;have M:=E g.1 g.2;revert q;cases m d with
  |ok z=>
   intro q u L s r;have R2:=R.keep s;have q:v_ C B (S.set i 0) Sb Sc D ((pI (λa b=>.i (f a b)) y z).bind λz=>.ok (.nx (d.set i (some z)))):=q;cases y with
   |i a=>
    cases z with
    |i b=>exact⟨a,b,M,r,q P L _ (R2.set (x:=.i (f a b)) (v:=.int (f a b)) rfl)⟩
    |_=>exact q.elim
   |_=>exact q.elim
  |exc c fs=>exact id
  |wall=>exact id
 .exact q.elim
abbrev MG:=PV->Sto->Option Sto
def LG(C:LC)(S S':a39)(g:TG)(j:MG):Prop:=∀B P H h f x v,Rel C.W B S P H h f->Rep C.W (Mof B S P) H x v->∀Q:St->Hp->Prop,(∃d,j x f=some d/\∀c,Rel C.W B S' P H c d->Q c H)->g v h H Q
def GM(X:Cx)(C:LC)(S S':a39)(d:a45)(c:MG):Prop:=X.K=C.W.K->∃g,PG X d g/\LG C S S' g c
def gNm(i:Nat):MG:=λx c=>some (c.set i (some x))
def yw(f:X.N.Nodup)(c:X.N[i]?=some x)(g:Loc X.env.scope x)(hf:X.fn x=true\/X.env.scope.names.lookup x=some .local:=by first|exact .inl rfl|exact .inr rfl|assumption):GM X C S (S.set i 0) (.Name x pos) (gNm i):=
 λ_=>⟨_,A9 f c g hf,λB P H j h x v R r Q ⟨d,e,k⟩=>by cases e;exact k _ (R.set r)⟩
abbrev MGs:=List PV->Sto->Option Sto
def LGs(C:LC)(S S':a39)(g:TGs)(n:MGs):Prop:=∀B P H l f h j,Rel C.W B S P H l f->yr C.W (Mof B S P) H h j->∀Q:St->Hp->Prop,(∃d,n h f=some d/\∀c,Rel C.W B S' P H c d->Q c H)->g j l H Q
def GsM(X:Cx)(C:LC)(S S':a39)(c:a44)(d:MGs):Prop:=X.K=C.W.K->∃g,PGs X c g/\LGs C S S' g d
def ng:MGs:=λc d=>match c with
 |[]=>some d
 |_=>none
def jf(g:MG)(d:MGs):MGs:=λh f=>match h with
 |x::r=>(g x f).bind λc=>d r c
 |[]=>none
def bF:GsM X C S S [] ng:=λ_=>⟨_,IF,λB P H h f c g R r Q ⟨d,e,k⟩=>by
 cases c with
 |nil=>cases e;cases(show _=_ from r);exact⟨rfl,k _ R⟩
 |cons x c=>cases e⟩
def Mof.le{B:Bs}{S S':a39}{P:a49}(h:∀j:Nat,S'[j]?=some 2->S[j]?=some 2){a:Addr}(m:Mof B S P a):Mof B S' P a:=⟨m.1,λj c=>m.2 j (h j c)⟩
def yY(G:GM X C S S1 e g)(A:GsM X C S1 S' es gs)(z:∀j:Nat,S1[j]?=some 2->S[j]?=some 2)(K:(assignEach (e::es) X.env).map (·.2)=assign e X.env::(assignEach es X.env).map (·.2):=by rfl):GsM X C S S' (e::es) (jf g gs):=λq=>by
 obtain⟨t,D,M⟩:=G q;obtain⟨u,I,y⟩:=A q;refine⟨_,ED D I K,λB P H F h f N R r Q ⟨c,e,k⟩=>?_⟩;cases f with
 |nil=>cases e
 |cons x f=>
  obtain⟨v,s,rfl,E,L⟩:=r;have e:(g x h).bind (λc=>gs f c)=some c:=e;cases l:g x h with
  |none=>rw[l]at e;cases e
  |some d=>rw[l]at e;exact⟨v,s,rfl,M B P H F h x v R E _ ⟨d,l,λn J=>y B P H n d f s J (L.sub λa m _=>Mof.le z m) Q ⟨c,e,k⟩⟩⟩
def gTp(n:Nat)(d:MGs):MG:=λx f=>match x with
 |.t c=>if c.length=n then d c f else none
 |_=>none
def bG(z:X.calm=true)(h:GsM X C S S' es gs)(D:(assignEach es X.env).length=n:=by rfl)(f:(assignEach es X.env).findIdx? (·.1)=none:=by rfl):GM X C S S' (.Tuple es k pos) (gTp n gs):=λl=>by
 obtain⟨t,u,A⟩:=h l;refine⟨_,NL z u D f,λB P H y j x v R r Q ⟨c,e,k⟩=>?_⟩;cases x with
 |t d=>
  obtain⟨p,s,rfl,hp,q⟩:=r;have e:(if d.length=n then gs d j else none)=some c:=e;by_cases g:d.length=n
  .rw[if_pos g]at e;exact⟨p,s,rfl,l▸hp,by rw[q.len];exact g,A B P H y j d s R q Q ⟨c,e,k⟩⟩
  .rw[if_neg g]at e;cases e
 |_=>cases e
def NA(B:Bs)(S:a39)(P:a49):Addr->Prop:=λa=>¬B.xc a/\∀i,S[i]?=some 2->P i≠a
def LJ(W:RC)(M N:a43)(g:Hp)(J:It)(xs:a4h):Prop:=∀d,Fr N g d->
 (∀i x,xs[i]?=some x->J.go i d/\∀v c,J.yld i d v c->zH d c/\∀f:Addr->Prop,(∀a,M a->g a≠none->f a)->Rep W f c x v)/\J.stop xs.length d
abbrev MI:=Sto->Out (List PV)
def NAc(c:Bool)(B:Bs)(S:a39)(P:a49):Addr->Prop:=if c=true then λ_=>True else NA B S P
def Cd(C:LC)(B:Bs)(S:a39)(P:a49)(c:Bool)(H:Hp)(R:It->Hp->Prop):Out (List PV)->Prop
 |.ok f=>∀J d,zH H d->LJ C.W (Mof B S P) (NAc c B S P) d J f->R J d
 |.exc c fs=>XPo C B c fs
 |.wall=>False
def LI(C:LC)(S:a39)(c:Bool)(g:TI)(mi:MI):Prop:=∀B P H f d,Rel C.W B S P H f d->∀R:It->Hp->Prop,Cd C B S P c H R (mi d)->g f H R
def IM(X:Cx)(C:LC)(S:a39)(c:Bool)(f g:a45)(mi:MI):Prop:=X.K=C.W.K->∃d,PI X f g d/\LI C S c d mi
def Zg(g:MG)(b:MS):List PV->Sto->Out Fw
 |[],d=>.ok (.nx d)
 |x::j,d=>(j8 (g x d)).bind λh=>(b h).bind λf=>match f with
  |.nx c=>Zg g b j c
  |.ct c=>Zg g b j c
  |.bk c=>.ok (.nx c)
  |.rt v=>.ok (.rt v)
def Kz(mi:MI)(g:MG)(b:MS):MS:=λc=>(mi c).bind λd=>Zg g b d c
end
open Classical in
def Bs.loop(B:Bs)(S:a39)(P:a49)(H:Hp)(hz:∀a,B.N0 a->(¬((∃i,S[i]?=some 2/\P i=a)\/B.xc a))/\H a≠none):Bs where
 H0:=λa=>if(∃i,S[i]?=some 2/\P i=a)\/B.xc a then none else H a
 M0:=B.Mt
 N0:=B.N0
 nz:=λa h=>by rw[if_neg (hz a h).1];exact(hz a h).2
 pin:=B.pin
 xc:=B.xc
section
variable {W:RC}{B:Bs}{S S':a39}{P P':a49}{H H':Hp}{σ σ':St}{ρ ρ':Sto}
def Rel.hz(R:Rel W B S P H σ ρ):∀a,B.N0 a->(¬((∃i,S[i]?=some 2/\P i=a)\/B.xc a))/\H a≠none:=λa h=>by
 have b:=B.nz a h;refine⟨λz=>z.elim (λ⟨i,c,e⟩=>b (e▸(R.act i c).1)) (λz=>b (R.exc a z).choose_spec.2.2),λz=>?_⟩;cases q:B.H0 a with
 |none=>exact b q
 |some o=>rw[R.same a o q]at z;cases z
def WO(R:Rel W B S P H σ ρ)(h:(B.loop S P H R.hz).H0 a=none):B.H0 a=none:=by
 cases q:B.H0 a with
 |none=>rfl
 |some o=>have n:¬((∃i,S[i]?=some 2/\P i=a)\/B.xc a):=λz=>z.elim (λ⟨i,b,e⟩=>by rw[<- e,(R.act i b).1]at q;cases q) (λz=>by rw[(R.exc a z).choose_spec.2.2]at q;cases q);unfold Bs.loop at h;dsimp only at h;rw[if_neg n,R.same a o q]at h;cases h
def bH(R:Rel W B S P H σ ρ):zH B.H0 (B.loop S P H R.hz).H0:=λa o h=>by have n:¬((∃i,S[i]?=some 2/\P i=a)\/B.xc a):=λz=>z.elim (λ⟨i,b,e⟩=>by rw[<- e,(R.act i b).1]at h;cases h) (λz=>by rw[(R.exc a z).choose_spec.2.2]at h;cases h);unfold Bs.loop;dsimp only;rw[if_neg n];exact R.same a o h
def iq(R:Rel W B S P H σ ρ)(h:(B.loop S P H R.hz).Mt a):B.Mt a:=h.elim id λz=>.inr (WO R z)
def Rel.loop(R:Rel W B S P H σ ρ):Rel W (B.loop S P H R.hz) S P H σ ρ:=by
 have sM:∀a,Mof B S P a->H a≠none->Mof (B.loop S P H R.hz) S P a:=λa m _=>⟨⟨.inl m.1.1,m.1.2⟩,m.2⟩;refine⟨λa o h=>?_,R.len,λi x e=>?_,λi b=>⟨?_,(R.act i b).2⟩,R.inj,R.pin,λa h=>?_,R.axc⟩
 .unfold Bs.loop at h;dsimp only at h;split at h
  .cases h
  .exact h
 .obtain⟨v,j,c,g,d⟩:=R.var i x e;exact⟨v,j,λz=>⟨(c z).1,(c z).2.gen rfl Fr.refl sM⟩,λz=>(g z).sub (λ_ m _=>m) sM,λz f=>(d z f).sub sM⟩
 .unfold Bs.loop;dsimp only;rw[if_pos (.inl ⟨i,b,rfl⟩)]
 .obtain⟨o,e,n,_⟩:=R.exc a h;exact⟨o,e,n,by unfold Bs.loop;dsimp only;rw[if_pos (.inr h)]⟩
def Rel.Hk(R:Rel W B S P H σ ρ)(b:Rel W (B.loop S P H R.hz) S' P' H' σ' ρ'):Rel W B S' P' H' σ' ρ':=by have sM:∀a,Mof (B.loop S P H R.hz) S' P' a->H' a≠none->Mof B S' P' a:=λa m _=>⟨⟨iq R m.1.1,m.1.2⟩,m.2⟩;refine⟨(bH R).trans b.same,b.len,λi x e=>?_,λi c=>⟨WO R (b.act i c).1,(b.act i c).2⟩,b.inj,b.pin,λa h=>let⟨o,e,n⟩:=b.exc a h;⟨o,e,n.1,WO R n.2⟩,b.axc⟩;obtain⟨v,l,d,j,f⟩:=b.var i x e;exact⟨v,l,λz=>⟨(d z).1,(d z).2.gen rfl Fr.refl sM⟩,λz=>(j z).sub (λ_ m _=>m) sM,λz g=>(f z g).sub sM⟩
def LK(R:Rel W B S P H σ ρ)(s:zH (B.loop S P H R.hz).H0 H'):Fr (NA B S P) H H':=λa o h m=>by
 have n:¬((∃i,S[i]?=some 2/\P i=a)\/B.xc a):=λz=>by
  rcases z with⟨i,d,e⟩|z
  .rcases m with m|m
   .exact m.2 i d e
   .obtain⟨_,f,b,c⟩:=R.act i d;rw[e,h]at b;cases b;exact c m
  .rcases m with m|m
   .exact m.1 z
   .obtain⟨f,b,c,_⟩:=R.exc a z;rw[h]at b;cases b;exact c m
 refine s a o ?_;unfold Bs.loop;dsimp only;rw[if_neg n];exact h
def Fm(j:C.W=W)(R:Rel W B S P H σ ρ)(q:XPo C B c fs):XPo C (B.loop S P H R.hz) c fs:=λe b d f s i h g=>q e b d f ((bH R).trans s) i h (g.sub λa m _=>iq R m)
def LL(b:C.W=W)(R:Rel W B S P H σ ρ)(h:LF C (B.loop S P H R.hz) H' x v):LF C B H' x v:=by
 unfold LF at h ⊢;by_cases f:C.fr=true
 .rw[if_pos f]at h ⊢;obtain⟨p,e,hp,r⟩:=h;exact⟨p,e,WO R hp,r.gen rfl Fr.refl λa m _=>⟨iq R m.1,m.2⟩⟩
 .rw[if_neg f]at h ⊢;exact h.sub λa m _=>iq R m
end
section
variable {X:Cx}{C:LC}{S S1 Sb Sc:a39}{pos:Pos}
def Fn(hi:∀R:It->Hp->Prop,Cd C B S P false H R (mi ρ)->wi σ H R)(hg:LG C S S1 g mg)(hb:LS C S1 S S S tb mb)(R:Rel C.W B S P H σ ρ)(D:Ends)(q:v_ C B S Sb Sc D (Kz mi mg mb ρ)):RM wi g tb D σ H:=by
 refine hi _ ?_;unfold Kz at q;revert q;cases mi ρ with
 |exc c fs=>exact id
 |wall=>exact id
 |ok o=>
  intro q J Q s2 io;have R2:=R.keep s2;have q:v_ C B S Sb Sc D (Zg mg mb o ρ):=q;refine⟨λi n s M=>n=o.length-i/\i<=o.length/\∃l u,Rel C.W (B.loop S P Q R2.hz) S u M s l/\v_ C B S Sb Sc D (Zg mg mb (o.drop i) l),⟨_,rfl,a0Y _,ρ,P,R2.loop,q⟩,?_⟩
  rintro i n s M ⟨rfl,hle,l,u,N,d⟩
  have L:=io M (LK R2 N.same);by_cases r:i<o.length
  .have hx:o[i]?=some o[i]:=a0n r;obtain⟨go,U⟩:=L.1 i _ hx;refine .inr ⟨go,λG I=>i+1<=o.length/\∃l u,Rel C.W (B.loop S P Q R2.hz) S u I G l/\v_ C B S Sb Sc D (Zg mg mb (o.drop (i+1)) l),λG I h=>⟨o.length-(i+1),by omega,rfl,h.1,h.2⟩,λv y W=>?_⟩;obtain⟨sy,Z⟩:=U v y W;have Ry:=N.keep sy;have T:=Z (Mof (B.loop S P Q R2.hz) S u) λa m hn=>⟨⟨.inl m.1.1,m.1.2⟩,λj hj e=>by
    have z:=(N.act j hj).1;rw[e]at z;unfold Bs.loop at z;dsimp only at z;rw[if_neg (λz=>z.elim (λ⟨k,hk,ek⟩=>m.2 k hk ek) m.1.2)]at z;exact hn z⟩
   rw[a2c r]at d;have d:v_ C B S Sb Sc D ((j8 (mg o[i] l)).bind λp=>(mb p).bind λf=>match f with
    |.nx b=>Zg mg mb (o.drop (i+1)) b
    |.ct b=>Zg mg mb (o.drop (i+1)) b
    |.bk b=>.ok (.nx b)
    |.rt v=>.ok (.rt v)):=d
   cases A:mg o[i] l with
   |none=>rw[A]at d;exact d.elim
   |some p=>
    rw[A]at d;refine hg _ u y s l _ v Ry T _ ⟨p,A,λO Y=>hb _ u y O p Y _ ?_⟩;have d:v_ C B S Sb Sc D ((mb p).bind λf=>match f with
     |.nx b=>Zg mg mb (o.drop (i+1)) b
     |.ct b=>Zg mg mb (o.drop (i+1)) b
     |.bk b=>.ok (.nx b)
     |.rt v=>.ok (.rt v)):=d
    revert d;cases mb p with
    |exc c fs=>exact λd=>Fm rfl R2 d
    |wall=>exact id
    |ok f=>
     cases f with
     |nx b=>exact λd E F w K=>⟨r,b,E,K,d⟩
     |ct b=>exact λd E F w K=>⟨r,b,E,K,d⟩
     |bk b=>exact λd E F w K=>d E F w (R2.Hk K)
     |rt x=>exact λd v F s3 h3=>d v F ((bH R2).trans s3) (LL rfl R2 h3)
  .have e:i=o.length:=by omega
   subst e;rw[a27]at d;exact .inl ⟨L.2,d u M s (R2.Hk N)⟩
def OT(c:LI C S false wi mi)(e:LG C S S1 g mg)(a:LS C S1 S S S tb mb):LS C S S Sb Sc (RM wi g tb) (Kz mi mg mb):=λB P H d b R D q=>Fn (c B P H d b R) e a R D q
def y_(hp:PassesOwn (a4R X) X.A X.env X.xe)(m:X.calm=true)(h:IM X C S false tg jI mi)(b:GM X C S S1 tg mg)(f:SsM X C S1 S S S body mb)(e:∀x,foldedSetIterable jI X.env x=pure x:=by intro _;rfl):
  SM X C S S Sb Sc (.For tg jI body [] pos) (Kz mi mg mb):=λa=>by
 obtain⟨p,j,n⟩:=h a;obtain⟨g,c,d⟩:=b a;obtain⟨o,l,i⟩:=f a;exact⟨_,GW hp m j c l e,OT n d i⟩
def qX(c:MT)(b:MS):Nat->Sto->Out Fw
 |0,_=>.wall
 |n+1,d=>(c d).bind λt=>if t=true then(b d).bind λf=>match f with
   |.nx a=>qX c b n a
   |.ct a=>qX c b n a
   |.bk a=>.ok (.nx a)
   |.rt v=>.ok (.rt v)
  else .ok (.nx d)
open Classical in
def bI(c:MT)(b:MS):MS:=λa=>if h:∃n,qX c b n a≠.wall then qX c b (choose h) a else .wall
def Fo(A:LT C S tc c)(E:LS C S S S S tb b):LS C S S Sb Sc (GV tc tb) (bI c b):=λB P H F y R D q=>by
 unfold bI at q;split at q
 .rename_i h;generalize Classical.choose h=n0 at q;refine⟨λn g o=>∃a i,Rel C.W B S i o g a/\v_ C B S Sb Sc D (qX c b n a),⟨n0,y,P,R,q⟩,?_⟩
  rintro n g o ⟨a,i,p,e⟩
  cases n with
  |zero=>exact e.elim
  |succ n=>
   refine A B i o g a p _ ?_;unfold qX at e;revert e;cases c a with
   |exc c fs=>exact id
   |wall=>exact id
   |ok k=>
    intro e u s;cases k with
    |false=>exact G_ (e i u g (p.keep s))
    |true=>
     refine Ha ⟨λj w=>∃a i,Rel C.W B S i w j a/\v_ C B S Sb Sc D (qX c b n a),λj w h=>⟨n,a1w n,h⟩,E B i u g a (p.keep s) _ ?_⟩;have e:v_ C B S Sb Sc D ((b a).bind λf=>match f with
      |.nx d=>qX c b n d
      |.ct d=>qX c b n d
      |.bk d=>.ok (.nx d)
      |.rt v=>.ok (.rt v)):=e
     revert e;cases b a with
     |exc c fs=>exact id
     |wall=>exact id
     |ok f=>
      cases f with
      |nx d=>exact λe l z m r=>⟨d,l,r,e⟩
      |ct d=>exact λe l z m r=>⟨d,l,r,e⟩
      |bk d=>exact λe=>e
      |rt x=>exact λe=>e
 .exact q.elim
def um(hp:PassesOwn (a4R X) X.A X.env X.xe)(g:TM X C S c mc)(b:SsM X C S S S S body mb):SM X C S S Sb Sc (.While c body [] pos) (bI mc mb):=λa=>by obtain⟨i,e,h⟩:=g a;obtain⟨j,f,d⟩:=b a;exact⟨_,EE hp e f,Fo h d⟩
end
def LEn(C:LC)(S:a39)(d:TE)(m:ME):Prop:=∀B P H b a,Rel C.W B S P H b a->∀Q,yj C B H (λc=>qu C.W (NA B S P) (Mof B S P) c) Q (m a)->d b H Q
def EN(X:Cx)(C:LC)(S:a39)(e:a45)(m:ME):Prop:=X.K=C.W.K->∃a,PE X e a/\LEn C S a m
section
variable {X:Cx}{C:LC}{S:a39}{e a b o tg:a45}{w:Bool}{ws:a47}{m:ME}{ms:MA}{s1:MS}{pos p:Pos}{x:Str}{i:Nat}
def Mof.na{B:Bs}{P:a49}{a:Addr}(m:Mof B S P a):NA B S P a:=⟨m.1.2,m.2⟩
def EM.en(h:EM X C S false e m):EN X C S e m:=λc=>by obtain⟨f,j,n⟩:=h c;exact⟨f,j,λB P H l d R Q q=>n B P H l d R Q (WJ q λx v r s g=>qu.sub g (λa m _=>Mof.na m) λ_ m _=>m)⟩
def Zh(h:PE X e (tR i))(f:S[i]?=some 1:=by rfl):EN X C S e (zd i):=λ_=>⟨_,h,λB P H u s R Q q=>lv R q λx v l e=>by
 obtain⟨y,c,_,g,_⟩:=R.var i x e;rw[l]at c;cases c;refine qu.sub (g f) (λa n _=>?_) λ_ m _=>m;have d:=B.nz a n;exact⟨λz=>d (R.exc a z).choose_spec.2.2,λj r e=>d (e▸(R.act j r).1)⟩⟩
def zas(K:a4p)(g:TE):TI:=λf H R=>g f H λx c=>(∃a,x=.ref a/\(∃d,SqL K c a d)/\R (Itl K a) c)\/∃a,x=.ref a/\(∃d,SqT K c a d)/\R (Itt K a) c
def Hl(y:PE X l tl):PI X tg l (zas X.K tl):=by
 intro f s u H R I h;refine thn (y f s u H _ I h) λv s1 ⟨x,r,c,n,A⟩=>?_;rcases A with⟨a,e,⟨B,g⟩,q⟩|⟨a,e,⟨B,g⟩,q⟩
 .subst e;cases n;obtain⟨d,z,p,hz⟩:=c.list g;refine a21 p.isList ?_;refine⟨s1.heap.objs.size,[s1.heap.objs.size],_,_,r,rfl,c.kept (t':=s1.toks) λb o e=>a0d _ e,A_ a _,⟨_,a0x _ rfl,rfl,rfl⟩,λb j=>?_,q⟩;have e:b=s1.heap.objs.size:=by simpa using j
  subst e;exact c.Ni (a0e _) (c.hok.fresh (a0e _))
 .subst e;cases n;obtain⟨d,z,p,hz⟩:=c.tuple g;refine wpAny_pyIter_tuple (show s1.heap.IsTuple a d.toArray from p) ?_;refine⟨s1.heap.objs.size,[s1.heap.objs.size],_,_,r,rfl,c.kept (t':=s1.toks) λb o e=>a0d _ e,xJ a _,⟨_,a0x _ rfl,rfl,rfl⟩,λb j=>?_,q⟩;have e:b=s1.heap.objs.size:=by simpa using j
  subst e;exact c.Ni (a0e _) (c.hok.fresh (a0e _))
def Ce{W:RC}{K:a4p}{M N:a43}{d:Hp}{a:Addr}{xs:a4h}{vs:a4a}(g:∀a,M a->N a)(h:∀c,Fr N d c->SqL K c a vs)(r:yr W M d xs vs):LJ W M N d (Itl K a) xs:=λc f=>by refine⟨λi x s=>?_,vs,h c f,by rw[r.len];exact a0e _⟩;obtain⟨v,j,q⟩:=r.get s;refine⟨⟨vs,v,h c f,j⟩,λA l u=>?_⟩;obtain⟨rfl,y⟩:=u;have:=y vs (h _ f);rw[j]at this;cases this;exact⟨zH.refl _,λz sM=>Rep.gen (λa o h m=>f a o h (m.imp (g a) id)) (λa m n=>sM a m n) q⟩
def OU{W:RC}{K:a4p}{M N:a43}{d:Hp}{a:Addr}{xs:a4h}{vs:a4a}(g:∀a,M a->N a)(h:∀c,Fr N d c->SqT K c a vs)(r:yr W M d xs vs):LJ W M N d (Itt K a) xs:=λc f=>by refine⟨λi x s=>?_,vs,h c f,by rw[r.len];exact a0e _⟩;obtain⟨v,j,q⟩:=r.get s;refine⟨⟨vs,v,h c f,j⟩,λA l u=>?_⟩;obtain⟨rfl,y⟩:=u;have:=y vs (h _ f);rw[j]at this;cases this;exact⟨zH.refl _,λz sM=>Rep.gen (λa o h m=>f a o h (m.imp (g a) id)) (λa m n=>sM a m n) q⟩
def items:PV->Out (List PV)
 |.l c=>.ok c
 |.t c=>.ok c
 |.sc d=>.ok (d.map PV.i)
 |_=>.wall
def zS(m:ME):MI:=λc=>(m c).bind items
variable {cc:Bool}
def Mof.nac{B:Bs}{P:a49}{a:Addr}(m:Mof B S P a):NAc cc B S P a:=by
 unfold NAc;cases cc with
 |true=>rw[if_pos rfl];trivial
 |false=>rw[if_neg a0q];exact Mof.na m
def Cf(A:X.K=C.W.K)(E:∀B P H h d,Rel C.W B S P H h d->∀Q,yj C B H (λg=>qu C.W (NAc cc B S P) (Mof B S P) g) Q (m d)->te h H Q):LI C S cc (zas X.K te) (zS m):=λB P H h d R Q q=>by
 refine E B P H h d R _ ?_;unfold zS at q;revert q;cases m d with
 |exc c fs=>exact id
 |wall=>exact id
 |ok y=>
  intro q v g s r;cases y with
  |l F=>obtain⟨p,j,rfl,n,hp,u⟩:=r;exact .inl ⟨p,rfl,⟨j,SqL.of hp⟩,q _ g s (Ce (λa m=>Mof.nac m) (λz f=>SqL.of (f _ _ hp (.inl n))) u)⟩
  |t F=>obtain⟨p,j,rfl,hp,u⟩:=r;rw[<- A]at hp;exact .inr ⟨p,rfl,⟨j,hp⟩,q _ g s (OU (λa m=>Mof.nac m) (λz f=>f.sqT hp) u)⟩
  |sc D=>obtain⟨p,rfl,hp⟩:=r;rw[<- A]at hp;exact .inl ⟨p,rfl,⟨_,hp.sq⟩,q _ g s (Ce (vs:=D.map V.int) (λa m=>Mof.nac m) (λz f=>(hp.frame f).sq) yr.ints)⟩
  |_=>exact q.elim
def j9(h:EN X C S e m):IM X C S false tg e (zS m):=λc=>by obtain⟨g,f,d⟩:=h c;exact⟨_,Hl f,Cf c d⟩
def yS(h:EM X C S w e m):IM X C S true tg e (zS m):=λc=>by obtain⟨n,f,j⟩:=h c;exact⟨_,Hl f,Cf c λB P H g d R Q q=>j B P H g d R Q (WJ q λx v l s r=>r.weak)⟩
def AV(c:Int)(n:Nat):List PV:=(List.range n).map λk=>.i (c+(k:Nat))
def LM{c:Int}{n i:Nat}{x:PV}(h:(AV c n)[i]?=some x):i<n/\x=.i (c+i):=by unfold AV at h;rw[a0D]at h;obtain⟨k,d,rfl⟩:=a0c.mp h;rw[a0v]at d;obtain⟨f,g⟩:=d;rw[a02]at f;rw[a2h]at g;subst g;exact⟨f,rfl⟩
def LN{c:Int}{n:Nat}:(AV c n).length=n:=by unfold AV;rw[v4,a02]
def OV{W:RC}{M N:a43}{g:Hp}{c:Int}{n:Nat}:LJ W M N g (Itr c n) (AV c n):=λq f=>by refine⟨λi x j=>?_,by rw[LN];exact a0e _⟩;obtain⟨h,rfl⟩:=LM j;refine⟨h,λv d l=>?_⟩;obtain⟨rfl,rfl⟩:=l;exact⟨zH.refl _,λ_ _=>rfl⟩
def Cg:List PV->Out (List PV)
 |[.i n]=>if -(2 ^ 62)<=n/\n<2 ^ 62 then .ok (AV 0 n.toNat)else .wall
 |_=>.wall
def V4(ms:MA):MI:=λc=>(ms c).bind Cg
def Q2(l:Gl X "range")(D:X.mg "range"=none)(j:AM X C S ws [a] ms)(y:starEach [a] X.env=[(false,eval a X.env)]:=by rfl):IM X C S cc tg (.Call (.Name "range" p) [a] [] pos) (V4 ms):=λu=>by
 obtain⟨J,g,z⟩:=j u;refine⟨_,Ba l D g y,λB P H h d R Q q=>z B P H h d R _ ?_⟩;unfold V4 at q;revert q;cases ms d with
 |exc c fs=>exact id
 |wall=>exact id
 |ok E=>
  intro q I A s r;have r:=r.weak;have q:Cd C B S P cc H Q (Cg E):=q;unfold Cg at q;split at q
  .split at q
   .rename_i f;obtain⟨v,G,rfl,n,F⟩:=r;cases(show _=_ from F);cases(show _=_ from n);exact⟨_,rfl,f.1,f.2,q _ A s OV⟩
   .exact q.elim
  .exact q.elim
end
def noX{a:Type}:Out a->Out a
 |.exc _ _=>.wall
 |o=>o
def lcP(g:MG)(c:MT)(e:ME):List PV->Sto->List PV->Out PV
 |[],_,a=>.ok (.l a)
 |x::d,f,a=>(j8 (g x f)).bind λb=>(noX (c b)).bind λt=>if t=true then(noX (e b)).bind λy=>if a.length<sizeLine then lcP g c e d b (a++[y])else .wall else lcP g c e d b a
def rD(ρ:Sto)(fr:a4f):Sto:=fr.map λo=>match o with|none=>none|some j=>(ρ[j]?).join
def mLC(mi:MI)(fr:a4f)(g:MG)(c:MT)(e:ME):ME:=λa=>(mi a).bind λb=>lcP g c e b (rD a fr) []
def fQ:MT:=λ_=>.ok true
def inS(S:a39)(fr:a4f):List Nat:=fr.map λo=>match o with|none=>0|some j=>if S[j]?=some 2\/S[j]?=some 1 then 1 else 0
def lcB(B:Bs)(S:a39)(P:a49)(H:Hp)(acc:Addr):Bs:=⟨H,Mof B S P,λa=>H a≠none,λ_ h=>h,none,λa=>a=acc⟩
def Ci{S:a39}{fr:a4f}{k c:Nat}(h:(inS S fr)[k]?=some c):c≠2:=by
 unfold inS at h;rw[a0D]at h;obtain⟨o,a,e⟩:=a0c.mp h;intro z;rw[z]at e;cases o with
 |none=>cases e
 |some j=>dsimp only at e;split at e<;>cases e
section
variable {X:Cx}{C:LC}{S S1 Sb Sc:a39}{e a o jI tg elt:a45}{ifs:a44}{w:Bool}{m me:ME}{t1 mc:MT}{mg:MG}{mi:MI}{s1:MS}{pos:Pos}{x:Str}{i:Nat}{scope:Scope}
def Rel.comp{W:RC}{B:Bs}{P:a49}{H H':Hp}{σ:St}{ρ:Sto}{acc:Addr}{fr:a4f}{ys:a4a}(R:Rel W B S P H σ ρ)(y:H acc=none)(s:zH H H')(F:H' acc=some (.lst ys)):Rel W (lcB B S P H acc) (inS S fr) (λ_=>0) H' (Et σ fr) (rD ρ fr):=by
 have f:∀{k:Nat},(inS S fr)[k]?=some 2->False:=λ{k} h=>Ci h rfl;have sM:∀a,Mof B S P a->H a≠none->Mof (lcB B S P H acc) (inS S fr) (λ_=>0) a:=λa m n=>⟨⟨.inl m,λz=>n ((show a=acc from z)▸y)⟩,λi d=>(f d).elim⟩;refine⟨s,by unfold Et rD;rw[v4,v4],λk x e=>?_,λi d=>(f d).elim,λi j d=>(f d).elim,λd=>(f d).elim,λa h=>?_,λi d=>(f d).elim⟩
 .unfold rD at e;rw[a0D]at e;obtain⟨o,u,e⟩:=a0c.mp e;cases o with
  |none=>cases e
  |some j=>
   have e:(ρ[j]?).join=some x:=e;have L:ρ[j]?=some (some x):=by
    cases q:ρ[j]? with
    |none=>rw[q]at e;cases e
    |some z=>rw[q]at e;cases z with
     |none=>cases e
     |some z=>cases e;rfl
   obtain⟨v,J,E,I,G⟩:=R.var j x L;have r:(inS S fr)[k]?=some (if S[j]?=some 2\/S[j]?=some 1 then 1 else 0):=by unfold inS;rw[a0D,u];rfl
   refine⟨v,by unfold Et;rw[a0D,u];show some ((σ[j]?).join)=_;rw[J];rfl,λz=>(f z).elim,λz=>?_,λz l=>?_⟩
   .rw[r]at z;by_cases g:S[j]?=some 2
    .obtain⟨rfl,K⟩:=E g;obtain⟨_,o,D,_⟩:=R.act j g;exact((K.RO (N:=λa=>H a≠none) (by rw[D];intro z;cases z)).sub (λ_ m _=>m) sM).same s
    .by_cases A:S[j]?=some 1
     .exact((I A).sub (λa n q=>(R.hz a n).2) sM).same s
     .rw[if_neg (by rintro(q|q);exact g q;exact A q)]at z;cases z
   .rw[r]at l;by_cases c:S[j]?=some 2\/S[j]?=some 1
    .rw[if_pos c]at l;exact absurd rfl l
    .exact((G (λq=>c (.inl q)) (λq=>c (.inr q))).sub sM).same s
 .cases(show a=acc from h);exact⟨_,F,id,y⟩
def TsM(X:Cx)(C:LC)(S:a39)(ifs:a44)(m:MT):Prop:=X.K=C.W.K->∃c,PTs X ifs c/\LT C S c m
def k8:TsM X C S [] fQ:=λ_=>⟨_,Lh,λB P H d c R Q q=>q H (zH.refl _)⟩
def nh(h:TM X C S c t1):TsM X C S [c] t1:=λd=>let⟨tt,a1,a2⟩:=h d;⟨tt,Li a1,a2⟩
def rE{j:Type}{Y:j->Cx}(h:∀z,EM (Y z) C S w e m)(f:∀z,(Y z).K=C.W.K):∃g,(∀z,PE (Y z) e g)/\LE C S w g m:=
 ⟨λc H Q=>∀z,(Classical.choose (h z (f z))) c H Q,λz d s c H Q I q=>(a05 (h z (f z))).1 d s c H Q I (q z),λB P H c l R Q q z=>(a05 (h z (f z))).2 B P H c l R Q q⟩
def rF{j:Type}{Y:j->Cx}(h:∀z,TsM (Y z) C S ifs mc)(f:∀z,(Y z).K=C.W.K):∃g,(∀z,PTs (Y z) ifs g)/\LT C S g mc:=
 ⟨λc H Q=>∀z,(Classical.choose (h z (f z))) c H Q,λz d s c H Q I q=>(a05 (h z (f z))).1 d s c H Q I (q z),λB P H c l R Q q z=>(a05 (h z (f z))).2 B P H c l R Q q⟩
def rG{l:Type}{Y:l->Cx}(h:∀z,GM (Y z) C S S1 tg mg)(f:∀z,(Y z).K=C.W.K):∃g,(∀z,PG (Y z) tg g)/\LG C S S1 g mg:=
 ⟨λv c H Q=>∀z,(Classical.choose (h z (f z))) v c H Q,λz d s c H v u Q I r q=>(a05 (h z (f z))).1 d s c H v u Q I r (q z),λB P H c j x v R r Q q z=>(a05 (h z (f z))).2 B P H c j x v R r Q q⟩
def LP{wi:TI}{g:TG}{tc:TT}{te:TE}{fr:a4f}{Si:a39}{W:RC}{B:Bs}{P:a49}{H:Hp}{σ:St}{ρ:Sto}(hi:∀R:It->Hp->Prop,Cd C B S P true H R (mi ρ)->wi σ H R)(hW:W=C.W)(hS:Si=inS S fr)(hg:LG ⟨W,E0,false⟩ Si Si g mg)(ht:LT ⟨W,E0,false⟩ Si tc mc)(he:LE ⟨W,E0,false⟩ Si false te me)(R:Rel C.W B S P H σ ρ)(Q:VK)(q:yj C B H (RFr C.W (Mof B S P) H) Q (mLC mi fr mg mc me ρ)):tLC wi g tc te fr σ H Q:=by
 subst hW hS;refine hi _ ?_;unfold mLC at q;revert q;cases mi ρ with
 |exc c fs=>exact id
 |wall=>exact id
 |ok s=>
  intro q J I s1 io d ha;have R1:=R.keep s1;have q:yj C B H (RFr C.W (Mof B S P) H) Q (lcP mg mc me s (rD ρ fr) []):=q;have sM:∀a,Mof (lcB B S P I d) (inS S fr) (λ_=>0) a->Mof B S P a/\a≠d:=λa m=>⟨m.1.1.elim id λn=>R1.new a n,m.1.2⟩;refine⟨λi n N O=>n=s.length-i/\i<=s.length/\∃r u D,Rel C.W (lcB B S P I d) (inS S fr) (λ_=>0) O N r/\O d=some (.lst D)/\yr C.W (Mof (lcB B S P I d) (inS S fr) (λ_=>0)) O u D/\yj C B H (RFr C.W (Mof B S P) H) Q (lcP mg mc me (s.drop i) r u),
   ⟨_,rfl,a0Y _,rD ρ fr,[],[],R1.comp ha (zH.upd ha) zl,zl,rfl,q⟩,?_⟩
  rintro i n N O ⟨rfl,hle,r,u,D,R',K,U,l⟩
  have io':=io O (zH.fr R'.same);by_cases G:i<s.length
  .have hx:s[i]?=some s[i]:=a0n G;obtain⟨go,yl⟩:=io'.1 i _ hx;refine .inr ⟨go,λZ F=>i+1<=s.length/\∃r u D,Rel C.W (lcB B S P I d) (inS S fr) (λ_=>0) F Z r/\F d=some (.lst D)/\yr C.W (Mof (lcB B S P I d) (inS S fr) (λ_=>0)) F u D/\yj C B H (RFr C.W (Mof B S P) H) Q (lcP mg mc me (s.drop (i+1)) r u),λZ F h=>⟨s.length-(i+1),by omega,rfl,h.1,h.2⟩,λv L hy=>?_⟩;obtain⟨sy,ry⟩:=yl v L hy;have Ry:=R'.keep sy;have rx:=ry (Mof (lcB B S P I d) (inS S fr) (λ_=>0)) λa m hn=>⟨⟨.inl m,λz=>hn ((show a=d from z)▸ha)⟩,λj hj=>(Ci hj rfl).elim⟩;rw[a2c G]at l;unfold lcP at l;cases M:mg s[i] r with
   |none=>rw[M]at l;exact l.elim
   |some f=>
    rw[M]at l;refine hg _ _ L N r _ v Ry rx _ ⟨f,M,λT Y=>ht _ _ L T f Y _ ?_⟩;have l:yj C B H (RFr C.W (Mof B S P) H) Q ((noX (mc f)).bind λt=>if t=true then(noX (me f)).bind λy=>if u.length<sizeLine then lcP mg mc me (s.drop (i+1)) f (u++[y])else .wall else lcP mg mc me (s.drop (i+1)) f u):=l;revert l;cases mc f with
    |exc c fs=>exact λl=>l.elim
    |wall=>exact id
    |ok t=>
     intro l H5 s5;have R5:=Y.keep s5;have A:=s5 _ _ (sy _ _ K);have E:=(U.same sy).same s5;cases t with
     |false=>exact G_ ⟨G,f,u,D,R5,A,E,l⟩
     |true=>
      refine Ha (he _ _ H5 T f R5 _ ?_);have l:yj C B H (RFr C.W (Mof B S P) H) Q ((noX (me f)).bind λy=>if u.length<sizeLine then lcP mg mc me (s.drop (i+1)) f (u++[y])else .wall):=l;revert l;cases me f with
      |exc c fs=>exact λl=>l.elim
      |wall=>exact id
      |ok y=>
       intro l v6 H6 s6 r6;have l:yj C B H (RFr C.W (Mof B S P) H) Q (if u.length<sizeLine then lcP mg mc me (s.drop (i+1)) f (u++[y])else .wall):=l;split at l
       .rename_i hz;have R6:=R5.keep s6;have fr6:Fr (Mof (lcB B S P I d) (inS S fr) (λ_=>0)) H6 (upd H6 d (.lst (D++[v6]))):=λa o h m=>by
         have:a≠d:=λz=>by
          rcases m with m|m
          .exact m.1.2 z
          .rw[z,s6 _ _ A]at h;cases h;exact m
         rw[zm this];exact h
        exact⟨D,s6 _ _ A,by rw[E.len];exact hz,G,f,u++[y],D++[v6],R6.wrx (show(lcB B S P I d).xc d from rfl) (by exact id),zl,((E.same s6).append (.cons r6.rep .nil)).gen fr6 λ_ m _=>m,l⟩
       .exact l.elim
  .have e:i=s.length:=by omega
   subst e;rw[a27]at l;exact .inl ⟨io'.2,l _ O (s1.trans R'.same) ⟨d,rfl,zH.none s1 ha,D,K,U.sub λa m _=>sM a m⟩⟩
def LQ{h:TI}{g:TG}{d:TT}{f:TE}{fr:a4f}{c:a39}{W:RC}(s:LI C S true h mi)(j:W=C.W)(l:c=inS S fr)(v:LG ⟨W,E0,false⟩ c c g mg)(n:LT ⟨W,E0,false⟩ c d mc)(he:LE ⟨W,E0,false⟩ c false f me):LFr C S (tLC h g d f fr) (mLC mi fr mg mc me):=λB P H u r R Q q=>LP (s B P H u r R) j l v n he R Q q
abbrev CI:=List Addr×List (Addr×Obj)×Shared×Hp×Addr
abbrev cxI(X:Cx)(scope:Scope)(N:a40)(z:CI):Cx:=qV X scope N z.1 z.2.1 z.2.2.1 z.2.2.2.1 z.2.2.2.2
def KA(N:a40)(fr:a4f)(f:a39)(A:X.calm=true)(j:Es X scope N fr=true)(v:IM X C S true tg jI mi)(B:∀z:CI,GM (cxI X scope N z) ⟨C.W,E0,false⟩ f f tg mg)(D:∀z:CI,TsM (cxI X scope N z) ⟨C.W,E0,false⟩ f ifs mc)(he:∀z:CI,EM (cxI X scope N z) ⟨C.W,E0,false⟩ f false elt me)(n:f=inS S fr:=by rfl)
  (E:∀x,foldedSetIterable jI X.env x=pure x:=by intro _;rfl):FM X C S (.ListComp elt [⟨tg,jI,ifs,0⟩] scope pos) (mLC mi fr mg mc me):=λh=>by
 obtain⟨J,q,F⟩:=v h;obtain⟨g,u,l⟩:=rG B λ_=>h;obtain⟨K,I,y⟩:=rF D λ_=>h;obtain⟨M,G,r⟩:=rE he λ_=>h;exact⟨_,SW N fr A j q (λc d s H L=>u ⟨c,d,s,H,L⟩) (λc d s H L=>I ⟨c,d,s,H,L⟩) (λc d s H L=>G ⟨c,d,s,H,L⟩) E,LQ F rfl n l y r⟩
variable {y:Str}{pQ py:Pos}
def OW(N:a40)(fr:a4f)(f:a39)(R:X.N.Nodup)(B:X.N[i]?=some y)(M:X.env.scope.names.lookup y=some .local)(I:X.calm=true)(l:Es X scope N fr=true)(E:IM X C S true tg jI mi)(G:∀z:CI,GM (cxI X scope N z) ⟨C.W,E0,false⟩ f f tg mg)(J:∀z:CI,TsM (cxI X scope N z) ⟨C.W,E0,false⟩ f ifs mc)(he:∀z:CI,EM (cxI X scope N z) ⟨C.W,E0,false⟩ f false elt me)(r:f=inS S fr:=by rfl)(j:i<S.length:=by decide)(u:i≠0:=by decide)
  (n:swapsWith (.ListComp elt [⟨tg,jI,ifs,0⟩] scope pos) (some (.Name y py)) pQ.line X.env=pure true:=by rfl) (K:∀x,foldedSetIterable jI X.env x=pure x:=by intro _;rfl):SM X C S (S.set i 2) Sb Sc (.Assign [.Name y py] (.ListComp elt [⟨tg,jI,ifs,0⟩] scope pos) pQ) (z8 i (mLC mi fr mg mc me)):=λh=>by
 obtain⟨T,v,O⟩:=E h;obtain⟨g,D,q⟩:=rG G λ_=>h;obtain⟨U,Q,F⟩:=rF J λ_=>h;obtain⟨W,P,A⟩:=rE he λ_=>h;exact⟨_,Om N fr R B M I l v (λc d s H L=>D ⟨c,d,s,H,L⟩) (λc d s H L=>Q ⟨c,d,s,H,L⟩) (λc d s H L=>P ⟨c,d,s,H,L⟩) n K,B9 (LQ O rfl r q F A) j u⟩
def Cj(N:a40)(fr:a4f)(f:a39)(hN:X.N.Nodup)(F:X.N[i]?=some y)(U:X.env.scope.names.lookup y=some .local)(K:X.calm=true)(j:Es X scope N fr=true)(I:IM X C S true tg jI mi)(M:∀z:CI,GM (cxI X scope N z) ⟨C.W,E0,false⟩ f f tg mg)(O:∀z:CI,TsM (cxI X scope N z) ⟨C.W,E0,false⟩ f ifs mc)(he:∀z:CI,EM (cxI X scope N z) ⟨C.W,E0,false⟩ f false elt me)(r:f=inS S fr:=by rfl)
  (l:swapsWith (.ListComp elt [⟨tg,jI,ifs,0⟩] scope pos) (some (.Name y py)) pQ.line X.env=pure true:=by rfl) (T:∀x,foldedSetIterable jI X.env x=pure x:=by intro _;rfl):SM X C S (S.set i 0) Sb Sc (.Assign [.Name y py] (.ListComp elt [⟨tg,jI,ifs,0⟩] scope pos) pQ) (z8 i (mLC mi fr mg mc me)):=λh=>by
 obtain⟨wi,A,W⟩:=I h;obtain⟨g,G,n⟩:=rG M λ_=>h;obtain⟨tc,c1,J⟩:=rF O λ_=>h;obtain⟨te,Y,E⟩:=rE he λ_=>h;refine⟨_,Om N fr hN F U K j A (λc d s H L=>G ⟨c,d,s,H,L⟩) (λc d s H L=>c1 ⟨c,d,s,H,L⟩) (λc d s H L=>Y ⟨c,d,s,H,L⟩) l T,Hj λB P H D u R Q q=>LQ W rfl r n J E B P H D u R Q (WJ q λx v H2 s Z=>RV.of (Z.rep R.new))⟩
end
def kg(fr:Bool)(n:Nat)(ms:MS)(xs:a4h):Out PV:=match ms (xs.map some++List.replicate (n-xs.length) none)with
 |.ok (.nx _)=>if fr=true then .wall else .ok .n
 |.ok (.rt x)=>.ok x
 |.ok (.bk _)=>.wall
 |.ok (.ct _)=>.wall
 |.exc c fs=>.exc c fs
 |.wall=>.wall
def WQ(ws:a47)(n:Nat):List Nat:=ws.map (λw=>if w=true then 1 else 0)++List.replicate (n-ws.length) 0
def nj{ws:a47}{n k:Nat}:(WQ ws n)[k]?≠some 2:=by
 unfold WQ;rw[a2E];split
 .rw[a0D];intro h;obtain⟨w,_,e⟩:=a0c.mp h;split at e<;>cases e
 .rw[a1L];intro h;split at h<;>cases h
def jQ.get{W:RC}{M:a43}{H:Hp}:∀{b:a47}{f:a4h}{e:a4a}{k:Nat}{x:PV},jQ W M H b f e->f[k]?=some x->∃v w,e[k]?=some v/\b[k]?=some w/\qu W (if w=true then λ_=>True else M) M H x v
 |[],_,_,_,_,⟨a,c⟩,h=>by subst a;simp at h
 |w::b,_,_,0,x,⟨y,v,i,j,a,c,g,d⟩,h=>by subst a;subst c;simp at h;subst h;exact⟨v,w,rfl,rfl,g⟩
 |w::b,_,_,k+1,x,⟨y,v,i,j,a,c,g,d⟩,h=>by subst a;subst c;simp only[List.getElem?_cons_succ]at h ⊢;exact jQ.get d h
def nq{xs:a4h}{n k:Nat}{x:PV}(h:(xs.map some++List.replicate (n-xs.length) none)[k]?=some (some x)):xs[k]?=some x:=by
 rw[a2E]at h;split at h
 .rw[a0D]at h;obtain⟨y,a,e⟩:=a0c.mp h;cases e;exact a
 .rw[a1L]at h;split at h<;>cases h
def Hm(H:Hp)(M:a43):Bs:=⟨H,M,λa=>H a≠none,λ_ h=>h,none,λ_=>False⟩
def Ck(h:jQ W M H ws xs vs)(q:ws.length<=N.length):Rel W (Hm H M) (WQ ws N.length) (λ_=>0) H (start N vs) (xs.map some++List.replicate (N.length-xs.length) none):=by
 have c:∀{k:Nat},(WQ ws N.length)[k]?=some 2->False:=λ{k} h=>nj h;have sM:∀a,M a->H a≠none->Mof (Hm H M) (WQ ws N.length) (λ_=>0) a:=λa m _=>⟨⟨.inl m,id⟩,λi b=>(c b).elim⟩;obtain⟨g,p⟩:=h.len;refine⟨zH.refl _,?_,λk x e=>?_,λi b=>(c b).elim,λi j b=>(c b).elim,λb=>(c b).elim,λa h=>h.elim,λi b=>(c b).elim⟩
 .unfold start;rw[a0g,a0g,v4,v4,a1C,a1C,g,p]
 .obtain⟨v,w,f,o,r⟩:=h.get (nq e);have l:k<vs.length:=(a0v.mp f).1;have d:(WQ ws N.length)[k]?=some (if w=true then 1 else 0):=by unfold WQ;rw[a09 (by rw[v4,<- g];exact l),a0D,o];rfl
  refine⟨v,?_,λz=>(c z).elim,λz=>?_,λ_ z=>?_⟩
  .unfold L2.start;rw[a09 (by rw[v4];exact l),a0D,f];rfl
  .rw[d]at z;refine qu.sub r (λa _ n=>n) sM
  .rw[d]at z;cases w with
   |true=>exact absurd rfl z
   |false=>exact(qu.iff.mp r).sub sM
section
variable {P:a4b}{w:a4e}{K:a4p}{mg:a37}{base:Heap}
def zu{x b:Str}{st:a4z}{f:Addr}{l:a4j}{N j:a40}{k n:Nat}{W:RC}{fr:Bool}{ws:a47}{ms:MS}{S' Sb Sc:a39}(F:Fun K x b st f l)(S:zo N j (zg st))(o:K=W.K)(R:ws.length=j.length)(Z:N.length=n)(X:ws.length<=n)
  (h:∀(d:Value)(A:a4i)(a:List Env)(s:a42)(H:Hp)(E:XK),v8 k (A.deeper (envOfC b (zg st) s.heap.objs.size f d))->SsM (thr (xR (CXe P w) P w K mg base N b (zg st) f d A a s H E) E) ⟨W,E,fr⟩ (WQ ws n) S' Sb Sc (YI st) ms):
  yF P w K mg base (CXe P w) (k+1) f l j (lsp W fr ws (kg fr n ms)):=by
 subst Z;refine F.okX S (Lz R) λd A a s H vs Q E Y ⟨M,m,G,q⟩=>?_;obtain⟨O,p,B⟩:=h d A a s H E Y o;refine⟨O,p,B (Hm H M) _ H _ _ (Ck G X) _ ?_⟩;unfold kg at q;revert q;cases ms (m.map some++List.replicate (N.length-m.length) none)with
 |exc c fs=>exact λq e T C U s z u D=>q e T C U s z u D
 |wall=>exact id
 |ok L=>
  cases L with
  |nx g=>
   intro q P' i J I;cases fr with
   |true=>exact q.elim
   |false=>exact q .non i I.same rfl
  |rt y=>exact λq v i s r=>q v i s r
  |bk g=>exact λq=>q.elim
  |ct g=>exact λq=>q.elim
def Hn(c:Nat)(n:Nat)(ms:MS)(xs:a4h):Out PV:=match ms (some (.o c [])::(xs.map some++List.replicate (n-xs.length) none))with
 |.ok (.nx a)=>match a[0]? with
  |some (some x)=>.ok x
  |_=>.wall
 |.ok (.rt _)=>.wall
 |.ok (.bk _)=>.wall
 |.ok (.ct _)=>.wall
 |.exc c fs=>.exc c fs
 |.wall=>.wall
def bsI(H:Hp)(M:a43)(x:Addr):Bs:=⟨erase H x,M,λa=>erase H x a≠none,λ_ h=>h,some x,λ_=>False⟩
def Kp:zH (erase H x) H:=λa o h=>by
 unfold erase at h;split at h
 .cases h
 .exact h
def Aa(h:jQ W M (erase H x) ws xs vs)(f:H x=some (.ins (W.cls c) dx []))(D:N.length=n+1)(F:ws.length<=n):
  Rel W (bsI H M x) (2::WQ ws n) (λ_=>x) H (start N (.ref x::vs)) (some (.o c [])::(xs.map some++List.replicate (n-xs.length) none)):=by
 have s:erase H x x=none:=by unfold erase;rw[if_pos rfl]
 have d:∀{k:Nat},(2::WQ ws n)[k]?=some 2->k=0:=λ{k} h=>by
  cases k with
  |zero=>rfl
  |succ k=>rw[a0R]at h;exact(nj h).elim
 have sM:∀a,M a->erase H x a≠none->Mof (bsI H M x) (2::WQ ws n) (λ_=>x) a:=λa m z=>⟨⟨.inl m,id⟩,λi b q=>z (q▸s)⟩;obtain⟨l,B⟩:=h.len;refine⟨Kp,?_,λk y e=>?_,λi b=>⟨s,_,f,id⟩,λi j b C _=>(d b).trans (d C).symm,λb p hp=>(a0T hp),λa h=>h.elim,λi b=>id⟩
 .unfold L2.start;simp only[List.length_cons,List.length_append,List.length_map,List.length_replicate,l,B,D];omega
 .cases k with
  |zero=>cases e;exact⟨.ref x,rfl,λ_=>⟨rfl,dx,[],f,rfl⟩,(λz=>by cases z),λz=>absurd rfl z⟩
  |succ k=>
   rw[a0R]at e;obtain⟨v,w,g,A,r⟩:=h.get (nq e);have o:k<vs.length:=(a0v.mp g).1;have u:(2::WQ ws n)[k+1]?=some (if w=true then 1 else 0):=by rw[a0R];unfold WQ;rw[a09 (by rw[v4,<- l];exact o),a0D,A];rfl
   have E:qu W (if w=true then λ_=>True else M) M H y v:=qu.same r Kp;refine⟨v,?_,(λz=>by cases(d z)),λz=>?_,λ_ z=>?_⟩
   .unfold L2.start;rw[a0j,List.cons_append,a0R,a09 (by rw[v4];exact o),a0D,g];rfl
   .exact qu.same (qu.sub r (λa _ n=>n) sM) Kp
   .rw[u]at z;cases w with
    |true=>exact absurd rfl z
    |false=>exact Rep.same ((qu.iff.mp r).sub sM) Kp
def Yr{x d:Str}{st:a4z}{f:Addr}{p:a4j}{N o:a40}{k n c:Nat}{W:RC}{ws:a47}{ms:MS}{S' Sb Sc:a39}(F:Fun K x d st f p)(S:zo N o (zg st))(B:K=W.K)(hl:ws.length+1=o.length)(hN:N.length=n+1)(hn:ws.length<=n)(j:S'[0]?=some 2)
  (h:∀(g:Value)(A:a4i)(b:List Env)(s:a42)(H:Hp)(E:XK),v8 k (A.deeper (envOfC d (zg st) s.heap.objs.size f g))->SsM (thr (xR (CXe P w) P w K mg base N d (zg st) f g A b s H E) E) ⟨W,E,false⟩ (2::WQ ws n) S' Sb Sc (YI st) ms):
  yF P w K mg base (CXe P w) (k+1) f p o (Fg W c ws (Hn c n ms)):=by
 refine F.okX S (Fh hl) λg A b s H vs Q E hr ⟨M,x,u,v,O,e,U,T,q⟩=>?_;subst e;obtain⟨Z,C,I⟩:=h g A b s H E hr B;refine⟨Z,C,I (bsI H M x) _ H _ _ (Aa T U hN hn) _ ?_⟩;unfold Hn at q;revert q;cases ms (some (.o c [])::(v.map some++List.replicate (n-v.length) none))with
 |exc c fs=>exact λq e u L H2 s D j R=>q e u L H2 s D j R
 |wall=>exact id
 |ok Y=>
  cases Y with
  |nx i=>
   intro q P' J X l;have q:zaq W M H x Q E (match i[0]? with|some (some x)=>.ok x|_=>.wall):=q;split at q
   .rename_i y G;obtain⟨_,r,_⟩:=l.at2 j G;have e:=l.pin j x rfl;rw[e]at r;exact q J l.same (r.gen rfl Fr.refl λa m _=>⟨m.1.1,λz=>m.2 0 j (e.trans z.symm)⟩)
   .exact q.elim
  |rt y=>exact λq=>q.elim
  |bk i=>exact λq=>q.elim
  |ct i=>exact λq=>q.elim
end
def AW(C:Addr)(fs:a40):Sp:=λc H Q _=>∃e b,c=.ref e::b/\b.length=fs.length/\H e=some (XO e C none .none)/\∀a,H a=none->Q .non (upd (upd H a (XD a (fs.zip b))) e (XO e C (some a) .none))
def wa(c:Nat)(a:a40)(ms:MA):MS:=λd=>(ms d).bind λb=>if b.length=a.length/\b.length<=1000 then .exc c (a.zip b)else .wall
def vz.zip{W:RC}{M:a43}{H:Hp}:∀{a:a40}{b:a4h}{c:a4a},yr W M H b c->b.length=a.length->vz W M H (a.zip b) (a.zip c)
 |[],[],_,h,_=>by cases(show _=_ from h);rfl
 |f::a,x::b,_,h,e=>by obtain⟨v,r,rfl,g,d⟩:=h;exact⟨v,_,rfl,g,vz.zip d (by simpa using e)⟩
 |[],_::_,_,_,e=>by cases e
 |_::_,[],_,_,e=>by cases e
def qN(G:X.calm=true)(M:XMk X.K (C.W.cls c) f)(Q:QT X.K (C.W.cls c))(F:yF X.prog X.w X.K X.mg X.base (CXe X.prog X.w) k f fd ps (AW (C.W.cls c) fns))(U:v8 (k+1) X.A)(J:Gl X x)(T:X.mg x=some (.ref (C.W.cls c)))(g:Binds X.K fd ps [])
  (I:AM (thr X C.E) C S ws (e::es) ms) (L:ws.all (!·)=true:=by rfl) (l:(x==("__debug__":Str))=false:=by decide) (he:starEach (e::es) X.env=(false,eval e X.env)::starEach es X.env:=by rfl) (hpl:(backTo Ze (starEach es X.env)).any (·.1)=false:=by rfl):
  SM (thr X C.E) C S S' Sb Sc (.Raise (some (.Call (.Name x p) (e::es) [] Ze)) none pos) (wa c fns ms):=λv=>by
 obtain⟨O,A,N⟩:=I v;refine⟨_,E2 G (E1 (X:=thr X C.E) M F U J T g zE A l he hpl),λB P H r o R D q=>?_⟩;show O r H _;refine N B P H r o R _ ?_;unfold wa at q;revert q;cases ms o with
 |exc c fs=>exact id
 |wall=>exact id
 |ok n=>
  intro q j w E K;have i:=K.RQ L;have q:v_ C B S' Sb Sc D (if n.length=fns.length/\n.length<=1000 then .exc c (fns.zip n)else .wall):=q;split at q
  .rename_i hz;refine⟨by rw[i.len];exact hz.2,λy s=>⟨y,j,rfl,by rw[i.len];exact hz.1,zl,λh d=>⟨rfl,y,_,h,rfl,v▸Q,zl,?_⟩⟩⟩;have u:h≠y:=λz=>by rw[z,zl]at d;cases d
   rw[zm u]at d;rw[bj];have sm:zH w (upd (upd (upd w y (XO y (C.W.cls c) none .none)) h (XD h (fns.zip j))) y (XC y (C.W.cls c) h)):=λb q g=>by rw[zm (zT g s),zm (zT g d),zm (zT g s)];exact g
   exact q y h (fns.zip j) _ (R.same.trans (E.trans sm)) zl (by rw[zm u,zl]) ((vz.zip i hz.1).gen sm.fr λa m _=>m.1.1)
  .exact q.elim
def jC{S:a39}{i:Nat}:∀j:Nat,(S.set i 0)[j]?=some 2->S[j]?=some 2:=λ_ h=>(qd (c:=0) h).1
def LU(c:SqL W.K H p (ns.map V.int))(h:g [.sc ns]=.ok (.b true))(k:∀a,Q (.bl true) a):lsp W false [true] g [.ref p] H Q E:=by
 refine⟨λ_=>True,[.sc ns],⟨.sc ns,.ref p,[],[],rfl,rfl,⟨p,rfl,?_⟩,rfl,rfl⟩,?_⟩
 .rw[if_pos rfl];exact c.elim (λz=>.inl ⟨trivial,z⟩) .inr
 .rw[h];intro v b s r;unfold RtV at r;rw[if_neg a0q]at r;cases(show v=_ from r);exact k b
def Fp:PV->PV->Out PV
 |.l a,.l b=>if a.length+b.length<=sizeLine then .ok (.l (a++b))else .wall
 |_,_=>.wall
section
variable {X:Cx}{C:LC}{S:a39}{a b:a45}{w1 w2:Bool}{m1 m2:ME}{pos:Pos}
def OX(E:EM X C S w1 a m1)(s:EM X C S w2 b m2):FM X C S (.BinOp a .Add b pos) (mOp Fp m1 m2):=λl=>by
 obtain⟨O,A,L⟩:=E l;obtain⟨N,F,o⟩:=s l;refine⟨_,NR G7 A F,λB P H j i R Q q=>L B P H j i R _ (YK q λx v I D h M=>o B P I j i (R.keep D) _ (YK M λy u T J G c=>?_))⟩;have h:=h.same J;unfold Fp at c;split at c
 .split at c
  .rename_i hz;obtain⟨p,K,rfl,_,hp,n⟩:=h;obtain⟨r,g,rfl,_,f,d⟩:=G;exact⟨p,r,K,g,rfl,rfl,hp,f,by rw[n.len,d.len];exact hz,λz hz=>c _ _ (zH.upd hz) (KH (n.append d) hz)⟩
  .exact c.elim
 .exact c.elim
def Cm:ME:=λ_=>.ok (.d [])
def rH:FM X C S (.Dict [] [] pos) Cm:=λc=>⟨_,ER,λB P H f d R Q q=>λp hp=>q _ _ (zH.upd hp) (Lx (xs:=[]) (vs:=[]) rfl hp)⟩
end
section
variable {α β:Type}
def wb{a:α}{f:α->Out β}:(Out.ok a).bind f=f a:=rfl
def fR(c:-(2 ^ 64)<a)(d:a<2 ^ 64):Ky (.i a) (.i b)=.ok (.i (a*b)):=by show(if GX a b\/_ then _ else _)=_;rw[if_pos (.inl (.inl ⟨c,d⟩))]
def Ho(c:0<b)(d:b<1073741824):qM (.i a) (.i b)=.ok (.i (a / b)):=by show(if Nj a b then _ else _)=_;rw[if_pos ⟨c,d⟩]
def wc(c:0<b):zQ (.i a) (.i b)=.ok (.i (a % b)):=by show(if 0<b then _ else _)=_;rw[if_pos c]
def S9:pIx (.l xs) (.i a)=j8 (atI xs a):=rfl
def WR{a:α}:j8 (some a)=.ok a:=rfl
def OY(h:z.length<=sizeLine):Yo [.s z]=.ok (.i z.length):=by show(if _ then _ else _)=_;rw[if_pos h]
def LV{xs:List α}{x:α}:atI (x::xs) 0=some x:=by unfold atI ixN;rw[if_pos (a03 _),if_pos (by simp)];rfl
def Co{xs:List α}(h:0<=k):atI xs k=xs[k.toNat]?:=by
 unfold atI ixN;rw[if_pos h];by_cases c:k<xs.length
 .rw[if_pos c];rfl
 .rw[if_neg c];symm;exact List.getElem?_eq_none_iff.mpr (by omega)
def uo{xs:List α}:atI xs (-1)=xs.getLast?:=by
 unfold atI ixN;rw[if_neg (by decide)];cases xs with
 |nil=>rfl
 |cons x xs=>rw[if_pos (by simp only[List.length_cons];omega)];rw[List.getLast?_eq_getElem?];show(x::xs)[((-1:Int)+((xs.length+1:Nat):Int)).toNat]?=(x::xs)[xs.length+1-1]?;congr 1;omega
def nr(h:qX c b n a=o)(i:o≠.wall):bI c b a=o:=by
 have mono:∀(n k:Nat)(a:Sto),qX c b n a≠.wall->qX c b (n+k) a=qX c b n a:=by
  intro n
  induction n with
  |zero=>intro k a h;exact absurd rfl h
  |succ n l=>
   intro k a h;rw[show n+1+k=(n+k)+1 by omega];unfold qX at h ⊢;cases p:c a with
   |exc c fs=>rfl
   |wall=>rfl
   |ok t=>
    rw[p]at h;cases t with
    |false=>rfl
    |true=>
     simp only[wb,if_true]at h ⊢;cases m:b a with
     |exc c fs=>rfl
     |wall=>rfl
     |ok f=>
      rw[m]at h;cases f with
      |nx d=>exact l k d h
      |ct d=>exact l k d h
      |bk d=>rfl
      |rt v=>rfl
 have e:∃n,qX c b n a≠.wall:=⟨n,h▸i⟩;unfold bI;rw[dif_pos e];have j:=a05 e;generalize Classical.choose e=n0 at j;rcases Nat.le_total n n0 with g|g
 .obtain⟨k,rfl⟩:=Nat.le.dest g;rw[mono n k a (h▸i)];exact h
 .obtain⟨k,rfl⟩:=Nat.le.dest g;rw[<- mono n0 k a j];exact h
def Cp:Zg g b (x::xs) ρ=(j8 (g x ρ)).bind λc=>(b c).bind λf=>match f with
  |.nx a=>Zg g b xs a
  |.ct a=>Zg g b xs a
  |.bk a=>.ok (.nx a)
  |.rt v=>.ok (.rt v):=rfl
def Cq{α:Type}[BEq α][LawfulBEq α][DecidableEq α]{a b:α}:(a==b)=decide (a=b):=by
 by_cases h:a=b
 .subst h;simp
 .simp[h]
def LW:ke n (.i a) (.i b)=.ok (.b (xor n (decide (a=b)))):=by show Out.ok (PV.b (xor n (a==b)))=_;rw[Cq]
def dS:ke n (.s x) (.s y)=.ok (.b (xor n (decide (x=y)))):=by show Out.ok (PV.b (xor n (x==y)))=_;rw[Cq]
def zC{fr:Bool}{n:Nat}{ms:MS}{xs:a4h}{x:PV}(h:ms (xs.map some++List.replicate (n-xs.length) none)=.ok (.rt x)):kg fr n ms xs=.ok x:=by unfold kg;rw[h]
def LX(h:s ρ=.ok (.nx ρ')):zI s t ρ=t ρ':=by unfold zI;rw[h];rfl
def Q3(h:s ρ=.ok (.rt x)):zI s t ρ=.ok (.rt x):=by unfold zI;rw[h];rfl
def bJ{k:Str}{v:PV}{r:a4m}:List.lookup k ((k,v)::r)=some v:=by simp[List.lookup]
def yi{k j:Str}{v:PV}{r:a4m}(h:(k==j)=false):List.lookup k ((j,v)::r)=List.lookup k r:=by simp[List.lookup,h]
def Q4:List.lookup k ([]:List (Str×PV))=none:=rfl
def ir:Ew [] k v=[(k,v)]:=rfl
def bK(h:(j==k)=false):Ew ((j,x)::r) k v=(j,x)::Ew r k v:=by show(if j=k then _ else _)=_;rw[if_neg (by simpa using h)]
end
def Hq{b:Type}{a:b}:noX (.ok a)=.ok a:=rfl
theorem Q5{j:Type}{g:MG}{c:MT}{e:ME}(l:j->PV)(keep:j->Bool)(d:j->PV)(J:Sto->Prop):∀(i:List j)(f:Sto)(a:a4h),J f->(∀x∈i,∀f,J f->∃b,g (l x) f=some b/\J b/\c b=.ok (keep x)/\(keep x=true->e b=.ok (d x)))->a.length+i.length<=100000->lcP g c e (i.map l) f a=.ok (.l (a++(i.filter keep).map d))
 |[],f,a,_,_,_=>by simp[lcP]
 |x::i,f,a,s,h,q=>by
  obtain⟨b,r,n,p,o⟩:=h x u8 f s;rw[a0b]at q;rw[a0j];unfold lcP;rw[r,WR,wb,p,Hq,wb];cases m:keep x with
  |true=>rw[if_pos rfl,o m,Hq,wb,if_pos (a0u (show a.length<100000 by omega) (by decide)),a3i m,a0j];rw[Q5 l keep d J i b (a++[d x]) n (λz hz=>h z (a0a _ hz)) (by rw[a0g];show a.length+1+_<=_;omega),a0w];rfl
  |false=>rw[if_neg a0q,a3j (by rw[m];exact a0q)];exact Q5 l keep d J i b a n (λz hz=>h z (a0a _ hz)) (by omega)
def qD{j:Type}(l:j->PV)(f:j->PV)(J:Sto->Prop)(xs:List j)(ρ:Sto)(n:J ρ)(h:∀x∈xs,∀ρ,J ρ->∃d,g (l x) ρ=some d/\J d/\e d=.ok (f x))(m:xs.length<=100000):lcP g fQ e (xs.map l) ρ []=.ok (.l (xs.map f)):=by rw[Q5 (c:=fQ) l (λ_=>true) f J xs ρ [] n (λx o ρ i=>let⟨d,a,b,c⟩:=h x o ρ i;⟨d,a,b,rfl,λ_=>c⟩) (by simpa using m)];rw[List.filter_eq_self.mpr λ_ _=>rfl];rfl
def Cr{α:Type}{f:α->Bool}{xs:List α}:Fe (xs.map λx=>PV.b (f x))=some (xs.map f):=by
 have:=uh (ns:=xs.map f)
 rwa [a0L]at this
def iu{a:Type}{f:a->Bool}{xs:List a}:Ff [.l (xs.map λx=>PV.b (f x))]=.ok (.b (xs.all f)):=by show j8 ((Fe (xs.map λx=>PV.b (f x))).map _)=_;rw[Cr,Option.map_some,WR,List.all_map];rfl
def Hr{ns:a4k}:Hg [.l (ns.map PV.i)]=.ok (.i ns.sum):=by show j8 ((AS (ns.map PV.i)).map _)=_;rw[aW,Option.map_some,WR]
end L2
namespace L2
open PySem
end L2
namespace L2
open PySem PySem.Spec PyProof.Rows PySem.W
section
variable {X:Cx}
theorem bL:∀{a:a4a}{b:a46},a.length=b.length->(∀(j:Nat) x u,a[j]?=some x->b[j]?=some u->RelV x u)->Vals a b
 |[],[],_,_=>.nil
 |x::a,u::b,c,h=>.cons (h 0 x u rfl rfl) (bL (by simpa using c) λj y v d e=>h (j+1) y v (by simpa using d) (by simpa using e))
def Fq(I:Inv X pins σ H s)(a:s.heap.objs.size<=l)(g:∀b o,s.heap.get? b=some o->h'.get? b=some o)
  (e:h'.get? l=some { cls:=.type "list",dict:=none,data:=.seq acc c,slots:=#[] }) (hz:ys.length<=sizeLine) (i:ys.length=acc.size) (d:∀(j:Nat) x u,ys[j]?=some x->acc[j]?=some u->RelV x u) (q:∀l,H l=none->Q (.ref l) (upd H l (.lst ys))) (m:X.m<=tk:=by ac_rfl):
  EP X pins σ Q (.ref l) { s with heap:=h',toks:=tk }:=
 ⟨.ref l,_,I.laid (t':=tk) g a (show qB X.prog X.w _ h' _ (.lst ys)from⟨hz,acc.toList,c,bL (by rw[a1J];exact i) (λj x u f h=>d j x u f (by simpa using h)),by rw[Array.toArray_toList];exact e⟩),rfl,q _ (I.hok.fresh a)⟩
end
def OZ(h:KV es vs):∀{i:Nat}{k:Key}{v:V},es[i]?=some (k,v)->∃w,vs[i]?=some (k,w):=by
 induction h with
 |nil=>intro i k v e;simp at e
 |@cons p q _ _ hp _ a=>
  intro i k v e;cases i with
  |zero=>simp at e;subst e;exact⟨q.2,by simp;exact Prod.ext hp.1.symm rfl⟩
  |succ i=>simp at e ⊢;exact a e
def Cs(h:(yG P w).is k u=true):RelV (kV k) u:=by
 rw[xG]at h;rcases yR h with⟨i,t,rfl,rfl⟩|⟨x,t,rfl,rfl⟩
 .exact⟨t,rfl⟩
 .exact⟨t,rfl⟩
def kP:Key->PV
 |.inl i=>.i i
 |.inr x=>.s x
def Hs{W:RC}{M:a43}{H:Hp}:∀k:Key,Rep W M H (kP k) (kV k)
 |.inl _=>rfl
 |.inr _=>rfl
def O0:List V->Hp->VK->Prop:=λb H Q=>∃(p:Addr)(a:a4d),b=[.ref p]/\Rd H p (.dK a)/\∀l,H l=none->Q (.ref l) (upd H l (.dK a))
def Ab:ZS X (.type "dict") O0:=by intro a s f H i m Q I r h;obtain⟨p,g,rfl,b,q⟩:=h;obtain⟨u,rfl,d⟩:=vals1 r;cases d;exact EW I b λl j e c=>⟨.ref l,_,c,rfl,q l e⟩
end L2
namespace L2
open PySem
def S_{c:Type}{P:List c->Prop}{us:List c}(d:us.length=1)(h:∀a,P [a]):P us:=by rcases us with _|⟨a,_|⟨b,us⟩⟩<;>first|exact h _|cases d
def Tc{d:Type}{P:List d->Prop}{us:List d}(e:us.length=2)(h:∀a b,P [a,b]):P us:=by rcases us with _|⟨a,_|⟨b,_|⟨c,us⟩⟩⟩<;>first|exact h _ _|cases e
def Td{e:Type}{P:List e->Prop}{us:List e}(f:us.length=3)(h:∀a b c,P [a,b,c]):P us:=by rcases us with _|⟨a,_|⟨b,_|⟨c,_|⟨d,us⟩⟩⟩⟩<;>first|exact h _ _ _|cases f
def Te{f:Type}{P:List f->Prop}{us:List f}(g:us.length=4)(h:∀a b c d,P [a,b,c,d]):P us:=by rcases us with _|⟨a,_|⟨b,_|⟨c,_|⟨d,_|⟨e,us⟩⟩⟩⟩⟩<;>first|exact h _ _ _ _|cases g
def Tf{g:Type}{P:List g->Prop}{us:List g}(i:us.length=5)(h:∀a b c d e,P [a,b,c,d,e]):P us:=by rcases us with _|⟨a,_|⟨b,_|⟨c,_|⟨d,_|⟨e,_|⟨f,us⟩⟩⟩⟩⟩⟩<;>first|exact h _ _ _ _ _|cases i
def nt(z:CXe P w outer H s (λ_ _ _=>False) v s'):False:=by obtain⟨_,_,_,_,_,_,_,_,_,_,_,_,_,_,_,_,_,_,q⟩:=z;exact q
def okb{b c:Type}{a:b}{f:b->Out c}:(Out.ok a).bind f=f a:=Eq.trans (Eq.refl _) (Eq.refl _)
section
variable {α:Type}{g:MG}{b:MS}{c:MT}{e:ME}{ρ ρ':Sto}{s t:MS}{m:ME}{x:PV}{mi:MI}{o:Out Fw}{i:Nat}
def zc(h:∃ρ',s ρ=.ok (.nx ρ')/\t ρ'=o):zI s t ρ=o:=let⟨_,a,b⟩:=h;(LX a).trans b
def Zd{fr:a4f}{xs:a4h}(h:mi ρ=.ok xs)(a:lcP g c e xs (rD ρ fr) []=.ok x):mLC mi fr g c e ρ=.ok x:=by unfold mLC;rw[h,wb,a]
def zK(h:m ρ=.ok x):z8 i m ρ=.ok (.nx (ρ.set i (some x))):=by unfold z8;rw[h,wb]
def yZ(h:mi ρ=.ok xs)(a:Zg g b xs ρ=o):Kz mi g b ρ=o:=by unfold Kz;rw[h,wb,a]
def Fs{n:Nat}(h:n<=1000000):Cg [.i (n:Int)]=.ok (AV 0 n):=by unfold Cg;exact(if_pos ⟨by omega,by omega⟩).trans (by rw[a2n])
def bM(h:ms ρ=.ok [.i (n:Int)])(a:n<=1000000):V4 ms ρ=.ok (AV 0 n):=by unfold V4;rw[h,wb,Fs a]
def Ct(h:ms ρ=.ok [.i n])(a:0<=n)(d:n<=1000000):V4 ms ρ=.ok (AV 0 n.toNat):=bM (n:=n.toNat) (by rw[h];congr 3;omega) (by omega)
def zA(h:m ρ=.ok (.l xs)):zS m ρ=.ok xs:=by unfold zS;rw[h,wb];rfl
def uq:AV 0 n=(List.range n).map λk=>PV.i ((k:Nat):Int):=by unfold AV;exact a1K λk _=>by congr 1;omega
theorem ur(l:α->PV)(J:Nat->Sto->Prop):∀(f:List α)(j:Nat)(ρ:Sto),J j ρ->(∀(k:Nat)(h:k<f.length)(ρ:Sto),J (j+k) ρ->∃d,g (l f[k]) ρ=some d/\∃a,J (j+k+1) a/\(b d=.ok (.nx a)\/b d=.ok (.ct a)))->∃ρ',J (j+f.length) ρ'/\Zg g b (f.map l) ρ=.ok (.nx ρ')
 |[],j,ρ,h,_=>⟨ρ,h,rfl⟩
 |x::f,j,ρ,h,r=>by
  obtain⟨d,z,a,v,n⟩:=r 0 (Nat.zero_lt_succ _) ρ h;obtain⟨q,u,y⟩:=ur l J f (j+1) a v λk w ρ p=>by have:=r (k+1) (Nat.succ_lt_succ w) ρ (by rw[show j+(k+1)=j+1+k by omega];exact p);rw[show j+(k+1)+1=j+1+k+1 by omega]at this;exact this
  refine⟨q,by rw[a0b,show j+(f.length+1)=j+1+f.length by omega];exact u,?_⟩;rw[a0j,Cp,show g (l x) ρ=some d from z,WR,wb];rcases n with n|n<;>(rw[n,wb];exact y)
def X4(j:α->PV)(J:Nat->Sto->Prop)(xs:List α)(ρ:Sto)(h:J 0 ρ)(l:∀(k:Nat)(h:k<xs.length)(ρ:Sto),J k ρ->∃d,g (j xs[k]) ρ=some d/\∃a,J (k+1) a/\(b d=.ok (.nx a)\/b d=.ok (.ct a))):∃ρ',J xs.length ρ'/\Zg g b (xs.map j) ρ=.ok (.nx ρ'):=by
 have:=ur (g:=g) (b:=b) j J xs 0 ρ h λk n ρ f=>by have:=l k n ρ (by rwa [a3X]at f);rwa [a3X]
 rwa [a3X]at this
def YL(J:Nat->Sto->Prop)(n:Nat)(ρ:Sto)(h:J 0 ρ)(j:∀(k:Nat),k<n->∀(ρ:Sto),J k ρ->∃d,g (.i (k:Int)) ρ=some d/\∃a,J (k+1) a/\(b d=.ok (.nx a)\/b d=.ok (.ct a))):∃ρ',J n ρ'/\Zg g b (AV 0 n) ρ=.ok (.nx ρ'):=by
 have:=X4 (g:=g) (b:=b) (λk:Nat=>PV.i (k:Int)) J (List.range n) ρ h λk l ρ f=>by rw[a2h];exact j k (by rwa [a02]at l) ρ f
 rwa [a02,<- uq]at this
end
end L2
namespace L2
open PySem PySem.Spec PyProof.Rows PySem.W
section
variable {prog:a4b}{w:a4e}{A:a4i}{E:a41}{h:Heap}{g:Array GenState}{d:Drawn}{t:Nat}{os:OsState}{a:Addr}{its:a4u}{n:Nat}{sl:a4t}
def nu:typeLookup (.type "list") "keys"=pure none:=by rw[a3m,a2u];kernel_rfl
def bN:typeLookup (.type "list") "__getattr__"=pure none:=by rw[a3m,a2u];kernel_rfl
def Cu:isSubtype (.type "AttributeError") (.type "AttributeError")=pure true:=by rw[isSubtype_type];kernel_rfl
def LY(he:h.get? e=some ⟨.type "AttributeError",none,.fields #[T,.none,.none,.none,.bool false,X,rawInt 0,rawInt 0],#[]⟩)
  (j:∀c,(∀b o,b≠e->h.get? b=some o->c.get? b=some o)->(∃f,c.get? e=some f/\f.cls=.type "AttributeError")->Q () ⟨c,g,d,t,os⟩):
  wpAny (model prog w) A (noteAttr (.ref e) o name) Q E ⟨h,g,d,t,os⟩:=by
 have i:(⟨h,g,d,t,os⟩:Shared).TypeIs (.ref e) "AttributeError":=⟨_,he,rfl⟩;unfold noteAttr lacksNameAndObj;refine f8 ?_;refine f8 (a2t (b:=true) i Cu ?_);rw[if_neg (by decide)];refine f8 (a3z he ?_);dsimp only;rw[if_neg (λz=>by cases(show false=true from z))];rw[if_neg (λz=>by cases(show false=true from z))];refine a0h ?_;rw[if_pos rfl];refine f8 (a3D ?_);refine f8 (a2i (T:="AttributeError") i ?_);dsimp only;unfold layMembers;refine f8 (a3z he ?_);dsimp only;refine wpAny_update he ?_;refine j _ (λb o l m=>(a0F _ _ (Ne.symm l)).trans m) ⟨_,a1g _ he rfl,rfl⟩
def Ac(hh:A.handled=none)(hx:h.get? a=some ⟨.type "list",none,.seq its n,sl⟩)
  (hE:∀h' tk e,(∀b o,h.get? b=some o->h'.get? b=some o)->(∃oe,h'.get? e=some oe/\oe.cls=.type "AttributeError")->E (.ref e) ⟨h',g,d,tk,os⟩):
  wpAny (model prog w) A (Builtin.«object.__getattribute__» ⟨[.ref a,.str "keys" tk],[]⟩) Q E ⟨h,g,d,t,os⟩:=by
 have hT:(⟨h,g,d,t,os⟩:Shared).TypeIs (.ref a) "list":=⟨_,hx,rfl⟩;have f4:=nu
 repeat(any_goals(first|assumption|wp_step))
 unfold raiseAttrError;refine f8 (wpAny_mkStr (f8 ?_) (by decide +kernel));unfold newExc newTuple;refine f8 (a2l ?_);refine f8 (m:=firstArgMember _ _) (a3s (a:=Value.none) (by simp only[firstArgMember];kernel_rfl) ?_);refine a2l ?_;refine f8 (a3V (f8 ?_));refine LY (a0x _ rfl) λh' hk he=>?_;unfold raiseNew;refine f8 (wpAny_handled ?_);rw[hh]
 first
  |refine a35 ?_
  |refine f8 (a0h (a35 ?_))
 exact hE _ _ _ (λb o e=>hk b o (a0t (a0u (a0i e) (by simp))) (a0d _ (a0d _ e))) he
def Cv(l:A.handled=none)(j:h.get? a=some ⟨.type "list",none,.seq its n,sl⟩)
  (m:∀c f e,(∀b o,h.get? b=some o->c.get? b=some o)->(∃i,c.get? e=some i/\i.cls=.type "AttributeError")->R (.error (.ref e)) ⟨c,g,d,f,os⟩):
  codeAny (model prog w) A (.call (.builtin "list.__getattribute__") ⟨[.ref a,.str "keys" f],[]⟩) R ⟨h,g,d,t,os⟩:=
 a10 F.slot_list_getattribute.plain F.entry_list_ga (F.slot_list_getattribute.check _ _ _ _ _ _ _ _ (show(⟨h,g,d,t,os⟩:Shared).TypeIs (.ref a) "list" from⟨_,j,rfl⟩) (F.args_list_getattribute_2 _ _) (Ac l j m))
def LZ(q:A.handled=none)(l:h.get? a=some ⟨.type "list",none,.seq its n,sl⟩)(p:∀f i,(∀b o,h.get? b=some o->f.get? b=some o)->Q none ⟨f,g,d,i,os⟩):
  wpAny (model prog w) A (getAttr? (.ref a) "keys") Q E ⟨h,g,d,t,os⟩:=by
 have s:∀t,(⟨h,g,d,t,os⟩:Shared).TypeIs (.ref a) "list":=λt=>⟨_,l,rfl⟩;have m:=F.slot_list_getattribute.lookup;have v:=F.slot_list_getattribute.bind (.ref a);unfold getAttr? getAttrBy?;refine f8 (a3V ?_);refine f8 (a2q ?_);unfold getAttrBy;refine a1a ?_;refine f8 (a2i (T:="list") (s _) ?_);refine f8 (a3s m ?_);dsimp only;rw[if_neg (λz=>by cases(show false=true from z))];unfold getAttrByItsOwn hookBefore;rw[if_neg (λz=>by cases(show false=true from z))];refine f8 (a0h ?_);refine f8 (a2q ?_);refine a1a ?_;unfold callGetattribute;rw[if_neg (λz=>by cases(show false=true from z))];unfold boundAndCalled;refine f8 (a3s v ?_);dsimp only;refine a1N (Cv q l λf i e r j=>?_);obtain⟨x,j,u⟩:=j;have c:(⟨f,g,d,i,os⟩:Shared).TypeIs (.ref e) "AttributeError":=⟨_,j,u⟩;dsimp only;unfold getattributeRaised;refine f8 (a2t (b:=true) c Cu ?_);rw[if_pos rfl];unfold hookBehind;rw[if_neg (λz=>by cases(show false=true from z))];refine f8 (a3s bN ?_);unfold hookOrError attributeErrorLeaves;dsimp only;rw[if_pos (show(!false)=true from rfl)];refine f8 (a35 ?_);refine f8 (a2t (b:=true) c Cu ?_);rw[if_pos rfl];exact a0h (p f i r)
end
def KJ:entryFor table "dict.update.loop"=some Builtin.«dict.update.loop»:=entryFor_of_tree (by kernel_rfl)
def kH:plainId "dict.update.loop"=true:=by decide +kernel
section
variable {prog:a4b}{w:a4e}{A:a4i}{R:Result->Shared->Prop}{I:Addr}{fp wr:a4w}{G:Array GenState->Array GenState->Prop}{n:Nat}{P:a4K}{St:a4J}{K:Type}[DecidableEq K] {knd:KeyKind prog w K}
def TupAt(h:Heap)(a:Addr)(k v:Value):Prop:=∃o m,h.get? a=some o/\o.cls=.type "tuple"/\o.data=.seq #[k,v] m
def Ex(key:Nat->K)(val:a4P):Nat->List (K×Value)
 |0=>[]
 |i+1=>stored (Ex key val i) (key i) (val i)
theorem iw(key:Nat->K)(val:a4P):∀i,(Ex key val i).length<=i
 |0=>a0e _
 |i+1=>by
  have:=iw key val i;unfold Ex stored;split
  .rw[v4];omega
  .rw[a0g];show _+1<=_;omega
def Ft(W:WalksS prog w A.in1 I fp wr G n P St)(D:Addr)(l:D∉fp)(key:Nat->K)(kv val:a4P)(ad:a49)(hP:∀i v,P i v->v=.ref (ad i))(hk:∀i,i<n->knd.is (key i) (kv i)=true)(hw:∀i,i<n->ad i∉D::wr)(hn:n<=sizeLine):
  ∀(k i:Nat)(M:Tok)(s:a42),n-i=k->i<=n->St i s->(∀j,j<n->TupAt s.heap (ad j) (kv j) (val j))->s.heap.DictOf knd D (Ex key val i)->
   (∀a,Moved (D::wr) G s a->a.heap.DictOf knd D (Ex key val n)->R (.ok (.ret .none)) a)->
   codeAny (model prog w) A (.builtin "dict.update.loop" ⟨[.ref D,.ref I,.int (i:Int) M,.none],[]⟩) R s:=by
 have C:D∉wr:=λh=>l (W.sub _ h);have d:∀b∈wr,b∈D::wr:=λb x=>a0a _ x;have B:∀{s a:a42},Moved (D::wr) G s a->(∀j,j<n->TupAt s.heap (ad j) (kv j) (val j))->∀j,j<n->TupAt a.heap (ad j) (kv j) (val j):=λg h j hj=>by obtain⟨o,m,E,L,S⟩:=h j hj;exact⟨o,m,g.heap _ _ (hw j hj) E,L,S⟩
 intro k
 induction k with
 |zero=>
  intro i M s H hi f Y hD hR;have U:i=n:=by omega
  subst U;refine codeAny_builtin KJ ?_;rw[a3E kH _];show wpAny _ A.in1 (pyNext (.ref I) >>= _) _ _ s;refine f8 (W.done s _ _ f λa g=>?_);dsimp only;refine f8 (m:=Builtin.Dict.addKeywords D []) ?_;refine a0h ?_;exact a0h (hR a (g.mono d) (by
   obtain⟨o,Q,X,J,rest⟩:=hD;exact⟨o,Q,X,g.heap D _ C J,rest⟩))
 |succ k ih=>
  intro i M s H hi f Y hD hR;have c:i<n:=by omega
  refine codeAny_builtin KJ ?_;rw[a3E kH _];show wpAny _ A.in1 (pyNext (.ref I) >>= _) _ _ s;refine f8 (W.item i s _ _ c f λv a O r g=>?_);cases hP i v O;have u:=g.mono d;have N:=B u Y;obtain⟨o,m,E,L,S⟩:=N i c;have hD':a.heap.DictOf knd D (Ex key val i):=by obtain⟨o,Q,X,J,rest⟩:=hD;exact⟨o,Q,X,g.heap D _ C J,rest⟩
  have hT:a.TypeIs (.ref (ad i)) "tuple":=⟨o,E,L⟩;dsimp only;refine f8 (a1a (f8 (wpAny_tryCatch ?_)));unfold Builtin.Dict.pairItems;refine f8 (a2i (T:="tuple") hT ?_);rw[if_pos (by decide)];unfold seqItems?;refine f8 (f8 (a3z E ?_));rw[S];dsimp only;refine a0h (a0h ?_);show wpAny _ _ (holding [kv i,val i] (dictSet D (kv i) (val i))) _ _ _;refine a1a (wpAny_dictSet_pairs (hsz:=a0y (iw key val i) (a0y hi hn)) (hk i c) hD' λh' F z=>?_);have e1:((i:Int)+1)=((i+1:Nat):Int):=by omega
  have y:Moved (D::wr) G s { a with heap:=h',toks:=a.toks+1 }:=u.then_heap (a1m _) λb o x e=>by rw[z.2 b (λh:b=D=>x (by rw[h];exact u8))];exact e
  refine a0h ⟨a3G kH _,?_⟩;rw[show rawInt ((i:Int)+1)=Value.int ((i+1:Nat):Int) 0 by rw[e1];rfl];refine ih (i+1) 0 _ (by omega) c (W.frame _ a _ _ r (a1m _) λb x o e=>?_) (B y Y) F λZ p q=>hR Z (Moved.trans W.gtrans y p) q;rw[z.2 b (λh:b=D=>l (by rw[<- h];exact x))];exact e
end
section
variable {prog:a4b}{w:a4e}{A:a4i}{E:a41}{s:a42}{K:Type}[DecidableEq K] {knd:KeyKind prog w K}
def iy{l:Addr}{items:a4u}{m:Nat}{sl:a4t}{Q:a41}{key:Nat->K}{kv val:a4P}{ad:a49}(hh:A.handled=none)(hl:s.heap.get? l=some ⟨.type "list",none,.seq items m,sl⟩)
  (hP:∀i,i<items.size->items[i]?=some (.ref (ad i))) (ht:∀i,i<items.size->TupAt s.heap (ad i) (kv i) (val i)) (hk:∀i,i<items.size->knd.is (key i) (kv i)=true) (hn:items.size<=sizeLine)
  (h:∀h' tk,(∀b o,s.heap.get? b=some o->h'.get? b=some o)->h'.DictOf knd s.heap.objs.size (Ex key val items.size)->Q (.ref s.heap.objs.size) { s with heap:=h',toks:=tk }):
  wpAny (model prog w) A (call (.type "dict") [.ref l]) Q E s:=by
 refine callType_codes (Q₁:=λobj s₁=>obj=.ref s.heap.objs.size/\s₁={ s with heap:=s.heap.push { cls:=.type "dict",data:=.dict #[] } }) F.kt_called_dict (F.kt_typeCall_dict_1 _) F.entry_dict_init (kt_code_dict_new _ ⟨rfl,rfl⟩) ?_
 rintro obj s₁ ⟨rfl,rfl⟩
 have hnew:(s.heap.push { cls:=.type "dict",data:=.dict #[] }).DictOf knd s.heap.objs.size []:=Heap.DictOf.new s.heap;have hl':(s.heap.push { cls:=.type "dict",data:=.dict #[] }).get? l=some ⟨.type "list",none,.seq items m,sl⟩:=a0d _ hl;refine⟨hnew.typeIs,F.args_dict_init_2 _ _,?_⟩;unfold Builtin.«dict.__init__»;refine f8 ?_;unfold Builtin.Dict.selfAndRest;refine f8 (wpAny_notOrdered_dict hnew.typeIs ?_);show wpAny _ _ (pure (s.heap.objs.size,[Value.ref l])) _ _ _;refine a0h ?_;show wpAny _ _ (Builtin.Dict.updateFrom "dict.__init__" s.heap.objs.size (.ref l) [] .none) _ _ _;unfold Builtin.Dict.updateFrom;refine f8 (a2i (T:="list") ⟨_,hl',rfl⟩ ?_);rw[if_pos (by decide)];refine f8 ?_;refine LZ hh hl' λh1 t1 k1=>?_;rw[if_pos (show(none:Option Value).isNone=true from rfl)];refine f8 (a3D ?_);have hl1:h1.get? l=some ⟨.type "list",none,.seq items m,sl⟩:=k1 _ _ hl';have hil:h1.IsList l items:=⟨_,hl1,rfl,m,rfl⟩;refine f8 (a21 hil ?_);have D1:h1.DictOf knd s.heap.objs.size []:=by obtain⟨o,es,ep,ho,rest⟩:=hnew;exact⟨o,es,ep,k1 _ _ ho,rest⟩
 have ls:l<s.heap.objs.size:=a0i hl;have l1:l<h1.objs.size:=a0i hl1;have ds:s.heap.objs.size<h1.objs.size:=by obtain⟨o,_,_,ho,_⟩:=D1;exact a0i ho
 have hne:l≠h1.objs.size:=a0t l1;have kp:∀b o,h1.get? b=some o->(h1.push { cls:=.type "list_iterator",data:=.fields #[.ref l,.int 0 0] }).get? b=some o:=λb o e=>a0d _ e;have tl:∀j,j<items.size->ad j<s.heap.objs.size:=λj hj=>by obtain⟨o,_,h1,_⟩:=ht j hj;exact a0i h1
 refine a0h ⟨a3G kH _,Ft (knd:=knd) (Walks.list (A:=A.in1.in1) hh h1.objs.size l hne items).toS s.heap.objs.size (by simp;exact⟨a0t ds,a1U ls⟩) key kv val ad (λi v hv=>?_) hk (λi hi=>?_) hn items.size 0 0 _ (by omega) (a0Y _) ⟨⟨_,a0x _ rfl,rfl,rfl⟩,?_⟩ (λj hj=>?_) ?_ λs' hm hD=>?_⟩
 .have hi:i<items.size:=by
   by_cases c:i<items.size
   .exact c
   .rw[a3r (by omega)]at hv;cases hv
  rw[hP i hi]at hv;cases hv;rfl
 .have:=tl i hi;intro hm;rcases a0r.mp hm with e|hm
  .exact a0t this e
  .exact a0t (a2C this ds) (a0l.mp hm)
 .exact⟨_,kp _ _ hl1,rfl,m,rfl⟩
 .obtain⟨o,q,e1,e2,e3⟩:=ht j hj;exact⟨o,q,kp _ _ (k1 _ _ (a0d _ e1)),e2,e3⟩
 .obtain⟨o,es,ep,ho,rest⟩:=D1;exact⟨o,es,ep,kp _ _ ho,rest⟩
 .rw[Moved.eq_with hm];refine⟨rfl,h s'.heap s'.toks (λb o e=>hm.heap b o (λhmem=>?_) (kp _ _ (k1 _ _ (a0d _ e)))) hD⟩;have:=a0i e;rcases a0r.mp hmem with e'|hm
  .exact a0t this e'
  .exact a0t (a2C this ds) (a0l.mp hm)
end
section
variable {X:Cx}
def iz(K:a4p)(H:Hp):List V->List (Key×V)->Prop
 |[],b=>b=[]
 |x::c,b=>∃a k v r,x=.ref a/\b=(k,v)::r/\SqT K H a [kV k,v]/\iz K H c r
def Cw(es:a4d):List (Key×V):=es.foldl (λa b=>putK a b.1 b.2) []
def Hu(K:a4p):List V->Hp->VK->Prop:=λc H Q=>∃(p:Addr)(b:a4a)(a:a4d),c=[.ref p]/\SqL K H p b/\iz K H b a/\∀l,H l=none->Q (.ref l) (upd H l (.dK (Cw a)))
theorem uu{pins:a38}{σ:St}{H:Hp}{s:a42}(I:Inv X pins σ H s):∀{g:a4a}{f:a4d}{b:a46},iz X.K H g f->Vals g b->∃c:List (Addr×Value×Value),b=c.map (λp=>Value.ref p.1)/\c.length=f.length/\(∀p∈c,TupAt s.heap p.1 p.2.1 p.2.2)/\∀(i:Nat) p e,c[i]?=some p->f[i]?=some e->RelV (kV e.1) p.2.1/\RelV e.2 p.2.2
 |[],_,b,h,r=>by cases(show _=_ from h);cases r;exact⟨[],rfl,rfl,(λ_ h=>by cases h),λ_ _ _ h=>by cases h⟩
 |x::g,_,b,h,r=>by
  obtain⟨a,k,v,f,rfl,rfl,A,F⟩:=h;cases r with
  |cons l r=>
   cases l;obtain⟨c,B,D,E,G⟩:=uu I F r;obtain⟨J,q,⟨o,n,j,m,w⟩,_⟩:=I.tuple A;obtain⟨y,C,rfl,z,u⟩:=vals2 q;refine⟨(a,y,C)::c,by rw[B];rfl,by rw[a0b,a0b,D],λp hp=>?_,λi p e hp d=>?_⟩
   .rcases a0r.mp hp with rfl|hp
    .exact⟨o,m,n,j,w⟩
    .exact E p hp
   .cases i with
    |zero=>rw[List.getElem?_cons_zero]at hp d;cases hp;cases d;exact⟨z,u⟩
    |succ i=>rw[a0R]at hp d;exact G i p e hp d
theorem Cy{es:a4d}{key:Nat->Key}{val:a4P}:∀n,n<=es.length->(∀i e,i<n->es[i]?=some e->key i=e.1/\RelV e.2 (val i))->KV ((es.take n).foldl (λb c=>putK b c.1 c.2) []) (Ex key val n)
 |0,_,_=>.nil
 |n+1,g,h=>by have a:n<es.length:=g;have d:=a0n a;rw[List.take_succ,d,List.foldl_append];obtain⟨l,m⟩:=h n _ (a1w n) d;show KV (putK _ _ _) (stored (Ex key val n) (key n) (val n));rw[l];exact(Cy n (a2y a) λi e j f=>h i e (a2m j) f).put _ m
def Ad(U:X.calm=true):ZS X (.type "dict") (Hu X.K):=by
 intro G s σ H Z us Q I r h;obtain⟨p,Z,b,rfl,P,hp,q⟩:=h;obtain⟨u,rfl,T⟩:=vals1 r;cases T;obtain⟨v,C,⟨o,m,S,E,K,J⟩,hz⟩:=I.list P;obtain⟨g,O,N,Y,F⟩:=uu I hp C;have f:v.length=b.length:=by rw[O,v4,N]
 have A:∀i,i<b.length->∃a,g[i]?=some a/\b[i]?=some (b.getD i (.inl 0,.non))/\g.getD i (0,.none,.none)=a:=λi c=>by
  have w:i<g.length:=by rw[N];exact c
  refine⟨g[i],a0n w,by rw[a01,a0n c];rfl,by rw[a01,a0n w];rfl⟩
 have d:v.toArray.size=b.length:=by simpa using f
 obtain⟨cls,L,M,D⟩:=o;dsimp only at E K J;subst E K J;refine a0P (n:=X.m) (by ac_rfl)<|iy (knd:=yG X.prog X.w) (key:=λi=>(b.getD i (.inl 0,.non)).1) (kv:=λi=>(g.getD i (0,.none,.none)).2.1) (val:=λi=>(g.getD i (0,.none,.none)).2.2) (ad:=λi=>(g.getD i (0,.none,.none)).1) (I.ok.hd U) S (λi c=>?_) (λi c=>?_) (λi c=>?_) ?_ λh' R W hD hn=>?_
 .rw[d]at c;obtain⟨a,j,_,l⟩:=A i c;rw[l];simp[O,j]
 .rw[d]at c;obtain⟨a,j,_,l⟩:=A i c;rw[l];exact Y a (a1Z j)
 .rw[d]at c;obtain⟨a,j,x,l⟩:=A i c;rw[l];exact h8 (F i a _ j x).1
 .rw[d,<- f,<- C.length];exact hz
 .rw[d]at hD;have z:KV (Cw b) (Ex (λi=>(b.getD i (.inl 0,.non)).1) (λi=>(g.getD i (0,.none,.none)).2.2) b.length):=by
   have:=Cy (es:=b) (key:=λi=>(b.getD i (.inl 0,.non)).1) (val:=λi=>(g.getD i (0,.none,.none)).2.2) b.length (a0e _) λi e c x=>?_
   .rwa [a1o]at this
   .obtain⟨a,j,y,l⟩:=A i c;rw[x]at y;cases y;rw[l];exact⟨by rw[a01,x],(F i a _ j x).2⟩
  have B:=I.hok.fresh (a0e s.heap.objs.size);refine⟨.ref s.heap.objs.size,_,I.laid (a:=s.heap.objs.size) (o:=.dK (Cw b)) (t':=R) W (a0e _) (tZ ?_ (a0Z.mpr (Ne.symm (a0t I.big))) z hD),rfl,q _ B⟩;rw[z.length];refine a0y (iw _ _ _) ?_;rw[<- f,<- C.length];exact hz
end
def Ey:List PV->Option (List (Key×PV))
 |[]=>some []
 |.t [k,v]::a=>(pk k).bind λq=>(Ey a).map ((q,v)::·)
 |_=>none
def bO(es:a4l):List (Key×PV):=es.foldl (λa b=>dput a b.1 b.2) []
def bP:List PV->Out PV
 |[.d a]=>.ok (.d a)
 |[.l a]=>j8 ((Ey a).map λb=>.d (bO b))
 |_=>.wall
section
variable {W:RC}{M:a43}{H:Hp}
theorem Cz:∀{d:a4h}{f:a4a}{a:a4l},yr W M H d f->Ey d=some a->∃ev,iz W.K H f ev/\j7 W M H a ev
 |[],_,_,h,e=>by cases e;cases(show _=_ from h);exact⟨[],rfl,rfl⟩
 |x::d,_,a,h,e=>by
  obtain⟨v,r,rfl,i,g⟩:=h;unfold Ey at e;split at e
  .cases ‹_::_=[]›
  .rename_i k y w c;cases c;obtain⟨q,j,e⟩:=a0B.mp e;obtain⟨u,hz,rfl⟩:=a0c.mp e;obtain⟨ev,s,m⟩:=Cz g hz;obtain⟨p,C,rfl,hp,A,B,rfl,n,b,z,rfl,l,o⟩:=i;cases(show _=_ from o);cases ik (qu.iff.mpr n) j;exact⟨(q,b)::ev,⟨p,q,b,ev,rfl,rfl,hp,s⟩,⟨b,ev,rfl,l,m⟩⟩
  .cases e
theorem fS:∀{es:a4l}{ev:a4d}{a:a4l}{av:a4d},j7 W M H a av->j7 W M H es ev->j7 W M H (es.foldl (λacc kv=>dput acc kv.1 kv.2) a) (ev.foldl (λacc kv=>putK acc kv.1 kv.2) av)
 |[],_,_,_,h,e=>by cases(show _=_ from e);exact h
 |kx::es,_,a,av,h,⟨v,q,e,h1,h2⟩=>by subst e;rw[a1t,a1t];exact fS (a:=dput a kx.1 kx.2) (av:=putK av kx.1 v) (h.put h1) h2
def Fu:LfF W (λc H Q=>O0 c H Q\/Hu W.K c H Q) bP:=λM C B H o c Q n h q=>by
 unfold bP at q;split at q
 .obtain⟨v,r,rfl,⟨p,f,rfl,_,a,b⟩,d⟩:=h;cases(show _=_ from d);exact .inl ⟨p,f,rfl,a,λl a=>q _ _ (zH.upd a) (Lx b a)⟩
 .obtain⟨z,e,q⟩:=yW q;obtain⟨f,i,rfl⟩:=a0c.mp e;obtain⟨v,r,rfl,⟨p,g,rfl,_,a,b⟩,d⟩:=h;cases(show _=_ from d);obtain⟨ev,m,j⟩:=Cz b i;exact .inr ⟨p,g,ev,rfl,SqL.of a,m,λl a=>q _ _ (zH.upd a) (Lx (fS (show j7 W M H [] []from rfl) j) a)⟩
 .exact q.elim
end
def uv(d:X.calm=true)(f:Gl X "dict")(b:X.mg "dict"=none)(c:AM X C S ws [e] ms)(he:starEach [e] X.env=[(false,eval e X.env)]:=by rfl):FM X C S (.Call (.Name "dict" p) [e] [] pos) (zi bP ms):=
 uf (λa=>a▸Ab.or (Ad d)) Fu f b PyProof.Rows.boot_dict c (he:=he)
section
variable {prog:a4b}{w:a4e}{A:a4i}{E:a41}{s:a42}
def len_dict:typeLookup (.type "dict") "__len__"=pure (some (.builtin "dict.__len__")):=by rw[a3m,a2u];kernel_rfl
def L4(a:s.TypeIs (.ref d) "dict")(h:Q false s):wpAny (model prog w) A (Builtin.List.listLengthHint (.ref d)) Q E s:=by
 unfold Builtin.List.listLengthHint;refine f8 (wpAny_specialOf a len_dict ?_);generalize hid:("dict.__len__":String)=id0
 (fail_if_success (clear hid id0));wp_delta
 rw[show splitId id0=some ("dict","__len__")from by subst hid;decide +kernel];dsimp only;refine f8 (a2t (b:=true) a (by rw[isSubtype_type];kernel_rfl) ?_);subst hid;rw[if_neg (by decide)];rw[if_pos (by decide +kernel)];refine f8 (a2i (T:="dict") a ?_);exact a0h h
variable {K:Type}[DecidableEq K] {knd:KeyKind prog w K}
def L5{Q:a41}{d:Addr}{kvs:List (K×Value)}{ep:Nat}(hh:A.handled=none)(hd:(d==sysModules)=false)(hm:s.heap.DictAt knd d kvs ep)(hn:kvs.length<=sizeLine)
  (X:∀J Z c M,(∀b o,s.heap.get? b=some o->J.get? b=some o)->J.get? s.heap.objs.size=some { cls:=.type "list",dict:=none,data:=.seq c M,slots:=#[] }->ItemsOf (λi v=>∃k x,kvs[i]?=some (k,x)/\knd.is k v=true) c kvs.length->Q (.ref s.heap.objs.size) { s with heap:=J,toks:=Z }):
  wpAny (model prog w) A (call (.type "list") [.ref d]) Q E s:=by
 have U:d<s.heap.objs.size:=by obtain⟨o,_,Y,_⟩:=hm;exact a0i Y
 refine callType_codes (Q₁:=λD g=>D=.ref s.heap.objs.size/\g={ s with heap:=s.heap.push { cls:=.type "list",data:=.seq #[] } }) PySem.F.called_list (PySem.F.typeCall_list_1 _) PySem.F.entry_list_init
  (code_list_new _ ⟨rfl,rfl⟩) λD g n=>?_
 obtain⟨rfl,rfl⟩:=n;have I:(s.heap.push { cls:=.type "list",data:=.seq #[] }).get? s.heap.objs.size=some { cls:=.type "list",data:=.seq #[] }:=a0x _ rfl;refine⟨⟨_,I,rfl⟩,PySem.F.args_list_init_2 _ _,?_⟩;show wpAny _ _ (do let old<-Builtin.List.listItems (.ref s.heap.objs.size);Builtin.List.listUpdate (.ref s.heap.objs.size) (λ_=>#[]);letGo old.toList.reverse;Builtin.List.listExtendWith (.ref s.heap.objs.size) (.ref d) .none) _ _ _;refine f8 ?_;unfold Builtin.List.listItems;refine f8 (wpAny_seqItems I rfl (a0h ?_));show wpAny _ _ (updateSeq s.heap.objs.size (λ_=>#[]) >>= λ_=>letGo (#[]:Array Value).toList.reverse >>= λ_=>Builtin.List.listExtendWith (.ref s.heap.objs.size) (.ref d) .none) _ _ _;refine f8 (a3n I rfl ?_);have a:=a1g (Obj.mapSeq (λ_=>(#[]:Array Value))) I rfl;refine f8 (wpAny_letGo ?_);have P:∀b o,s.heap.get? b=some o->((s.heap.push { cls:=.type "list",data:=.seq #[] }).update s.heap.objs.size (Obj.mapSeq (λ_=>(#[]:Array Value)))).get? b=some o:=λb o e=>
  (a0F _ _ (a1U (a0i e))).trans (a0d _ e)
 generalize((s.heap.push { cls:=.type "list",data:=.seq #[] }).update s.heap.objs.size (Obj.mapSeq (λ_=>(#[]:Array Value))))=h2 at a P;have h:h2.DictAt knd d kvs ep:=hm.at' λo e=>P _ _ e;have F:∀{H:a42},H.heap.DictAt knd d kvs ep->H.TypeIs (.ref d) "dict":=λz=>z.dictOf.typeIs;unfold Builtin.List.listExtendWith;refine f8 (a2i (T:="dict") (F h) ?_);have f:s.heap.objs.size≠d:=a1U U;have h1:Builtin.List.listSameRef (.ref s.heap.objs.size) (.ref d)=false:=by simp[Builtin.List.listSameRef,f]
 rw[if_neg (by rw[h1];decide)];refine f8 (wpAny_pyIter_dict hd h ?_);have m:∀b o,h2.get? b=some o->(h2.push { cls:=.type "dict_keyiterator",data:=.fields #[.ref d,.int 0 0,.int kvs.length 0,.int ep 0] }).get? b=some o:=λb o e=>a0d _ e;have j:(h2.push { cls:=.type "dict_keyiterator",data:=.fields #[.ref d,.int 0 0,.int kvs.length 0,.int ep 0] }).DictAt knd d kvs ep:=h.at' λo e=>m _ _ e;refine f8 (a1a (L4 (F j) ?_));rw[if_pos (by decide)];refine f8 (a3D ?_);unfold Builtin.List.listTouch Builtin.List.listUpdate;have L:s.heap.objs.size<h2.objs.size:=a0i a;have dn:d≠h2.objs.size:=a0t (a2C U L);have l:=m _ _ a;have q:(h2.push { cls:=.type "dict_keyiterator",data:=.fields #[.ref d,.int 0 0,.int kvs.length 0,.int ep 0] }).get? h2.objs.size=some { cls:=.type "dict_keyiterator",data:=.fields #[.ref d,.int 0 0,.int kvs.length 0,.int ep 0] }:=a0x _ rfl;have R:∀b o,s.heap.get? b=some o->(h2.push { cls:=.type "dict_keyiterator",data:=.fields #[.ref d,.int 0 0,.int kvs.length 0,.int ep 0] }).get? b=some o:=λb o e=>m _ _ (P b o e);generalize(h2.push { cls:=.type "dict_keyiterator",data:=.fields #[.ref d,.int 0 0,.int kvs.length 0,.int ep 0] })=h3 at l q R j;refine f8 (f8 (a3n l rfl ?_));have y:=a1g (Obj.mapSeq (λx:Array Value=>x.push Value.none)) l rfl;refine a3n y rfl ?_;have B:=a1g (Obj.mapSeq (λx:Array Value=>x.pop)) y rfl;have N:∀b o,b≠s.heap.objs.size->h3.get? b=some o->((h3.update s.heap.objs.size (Obj.mapSeq λx=>x.push Value.none)).update s.heap.objs.size (Obj.mapSeq λx=>x.pop)).get? b=some o:=λb o S e=>
  (a0F _ _ (Ne.symm S)).trans ((a0F _ _ (Ne.symm S)).trans e)
 have C:=j.at' (h':=((h3.update s.heap.objs.size (Obj.mapSeq λx=>x.push Value.none)).update s.heap.objs.size (Obj.mapSeq λx=>x.pop))) λo e=>N _ _ (Ne.symm f) e;have r:=N _ _ (a1U L) q;have W:∀b o,s.heap.get? b=some o->((h3.update s.heap.objs.size (Obj.mapSeq λx=>x.push Value.none)).update s.heap.objs.size (Obj.mapSeq λx=>x.pop)).get? b=some o:=λb o e=>N b o (a0t (a0i e)) (R b o e);generalize((h3.update s.heap.objs.size (Obj.mapSeq λx=>x.push Value.none)).update s.heap.objs.size (Obj.mapSeq λx=>x.pop))=h5 at B C r W;refine a0h ⟨a3G PySem.F.plain_extend_loop _,codeAny_extend_loopS (Walks.dictKeys (knd:=knd) (A:=A.in1.in1) hh h2.objs.size d dn kvs ep).toS hn s.heap.objs.size (by simp;exact⟨a0t L,f⟩) _ kvs.length 0 _ _ _ rfl (a0Y _) (show _/\_ from⟨⟨_,r,rfl,rfl⟩,C⟩) B (ItemsOf.nil _) λH c M u O G=>?_⟩;rw[Moved.eq_with u];refine⟨rfl,X H.heap H.toks c M (λb o e=>u.heap b o (λp=>?_) (W b o e)) O G⟩;have:=a0i e;rcases a0r.mp p with e'|hm
 .exact a0t this e'
 .exact a0t (a2C this L) (a0l.mp hm)
end
section
variable {X:Cx}
def Hv:List V->Hp->VK->Prop:=λb H Q=>∃p a,b=[.ref p]/\Rd H p (.dK a)/\∀l,H l=none->Q (.ref l) (upd H l (.lst (a.map λc=>kV c.1)))
def Ae(K:X.calm=true):ZS X (.type "list") Hv:=by
 intro d s Z H xs us Q I r h;obtain⟨p,E,rfl,B,q⟩:=h;obtain⟨u,rfl,D⟩:=vals1 r;cases D;obtain⟨z,P,l,a,o,F,g,M,O,R,U,T,C⟩:=Kx I.hok B;have i:l.length=E.length:=a.length.symm;refine a0P (n:=X.m) (by ac_rfl)<|L5 (knd:=yG X.prog X.w) (kvs:=l) (ep:=g) (I.ok.hd K) P ⟨o,F,M,O,R,U,T,C⟩ (by rw[i];exact z) λY c m W N J f hn=>?_
 refine Fq (s:=s) (tk:=c) I (a0e _) N J ?_ ?_ ?_ q
 .rw[v4];exact z
 .rw[v4,f.1,i]
 .intro j x v b A;obtain⟨k,y,w,G⟩:=f.2 j v A;rw[a0D]at b;obtain⟨e,S,rfl⟩:=a0c.mp b;obtain⟨w',L⟩:=OZ a (k:=e.1) (v:=e.2) S;rw[L]at w;cases w;exact Cs G
end
def Ys:List PV->Out PV
 |[.l a]=>.ok (.l a)
 |[.t a]=>.ok (.l a)
 |[.sc a]=>.ok (.l (a.map PV.i))
 |[.d b]=>.ok (.l (b.map λc=>kP c.1))
 |_=>.wall
theorem uw{W:RC}{M:a43}{H:Hp}:∀{a:a4l}{b:a4d},j7 W M H a b->yr W M H (a.map λc=>kP c.1) (b.map λf=>kV f.1)
 |[],_,h=>by cases(show _=_ from h);rfl
 |c::r,_,⟨v,q,e,g,d⟩=>by subst e;exact⟨_,_,rfl,Hs _,uw d⟩
def Fv(L:LfF W r Lw):LfF W (λa H Q=>r a H Q\/Hv a H Q) Ys:=λM C B H f a Q n h q=>by
 unfold Ys at q;split at q
 .exact .inl (L M C B H _ a Q n h q)
 .exact .inl (L M C B H _ a Q n h q)
 .exact .inl (L M C B H _ a Q n h q)
 .obtain⟨v,r,rfl,⟨p,c,rfl,_,b,d⟩,e⟩:=h;cases(show _=_ from e);exact .inr ⟨p,c,rfl,b,λl b=>q _ _ (zH.upd b) (KH (uw d) b)⟩
 .exact q.elim
def vA(d:X.calm=true)(f:Gl X "list")(b:X.mg "list"=none)(c:AM X C S ws [e] ms)(he:starEach [e] X.env=[(false,eval e X.env)]:=by rfl):FM X C S (.Call (.Name "list" p) [e] [] pos) (zi Ys ms):=
 uf (λa=>a▸mP.or (Ae d)) (Fv Ly) f b PyProof.Rows.boot_list c (he:=he)
end L2
namespace L2
section
variable {κ α:Type}[DecidableEq κ]
def Fx{k:κ}:z5 ([]:List (κ×α)) k=none:=rfl
def yd{k j:κ}{v:α}{r:List (κ×α)}:z5 ((j,v)::r) k=if j=k then some v else z5 r k:=by
 unfold z5;rw[a2b];by_cases h:j=k
 .simp[h]
 .simp[h]
theorem vB:∀{a:List (κ×α)}{k:κ},a.any (λb=>decide (b.1=k))=(z5 a k).isSome
 |[],_=>rfl
 | (j,v)::r,k=>by
  rw[a1b,yd,vB];by_cases h:j=k
  .simp[h]
  .simp[h]
theorem ux:∀{a:List (κ×α)}{k j:κ}{v:α},z5 (a++[(k,v)]) j=(z5 a j).or (if k=j then some v else none)
 |[],k,j,v=>by rw[a1k,yd,Fx];rfl
 | (i,u)::a,k,j,v=>by
  rw[List.cons_append,yd,yd,ux];by_cases h:i=j
  .rw[if_pos h,if_pos h];rfl
  .rw[if_neg h,if_neg h]
theorem iA:∀{a:List (κ×α)}{k j:κ}{v:α},z5 (a.map λc=>if c.1=k then(c.1,v)else c) j=if k=j then(z5 a j).map (λ_=>v)else z5 a j
 |[],k,j,v=>by split<;>rfl
 | (i,u)::a,k,j,v=>by
  rw[a0j];by_cases h:i=k
  .subst h;rw[if_pos rfl,yd,yd,iA];by_cases h:i=j
   .rw[if_pos h,if_pos h,if_pos h];rfl
   .rw[if_neg h,if_neg h,if_neg h,if_neg h]
  .rw[if_neg (show ¬((i,u):κ×α).1=k from h),yd,yd,iA];by_cases b:i=j
   .rw[if_pos b,if_pos b,if_neg (λz=>h (b.trans z.symm))]
   .rw[if_neg b,if_neg b]
def Zi{a:List (κ×α)}{k j:κ}{v:α}:z5 (dput a k v) j=if k=j then some v else z5 a j:=by
 unfold dput;rw[vB];split
 .rename_i h;rw[iA];split
  .rename_i e;subst e;obtain⟨x,b⟩:=a0U.mp h;rw[b];rfl
  .rfl
 .rename_i h;rw[ux];by_cases e:k=j
  .subst e;have:z5 a k=none:=by cases q:z5 a k with|none=>rfl|some x=>rw[q]at h;exact absurd rfl h
   rw[this,if_pos rfl];rfl
  .rw[if_neg e,if_neg e];cases z5 a j<;>rfl
def WT{a:List (κ×α)}{k:κ}{v:α}:(dput a k v).map (·.1)=if(z5 a k).isSome=true then a.map (·.1)else a.map (·.1)++[k]:=by
 unfold dput;rw[vB];split
 .rw[a0L];refine a1K λb _=>?_;show(if b.1=k then(b.1,v)else b).1=b.1;split<;>rfl
 .rw[a0z];rfl
theorem Kq:∀{a:List (κ×α)}{k:κ}{v:α},z5 a k=some v->(k,v)∈a
 |[],_,_,e=>by cases e
 | (j,u)::a,k,v,e=>by
  rw[yd]at e;split at e
  .rename_i h;subst h;cases e;exact u8
  .exact a0a _ (Kq e)
def Fy{a:List (κ×α)}{k:κ}:(z5 a k).isSome=true↔k∈a.map (·.1):=by
 rw[<- vB,List.any_eq_true];constructor
 .rintro ⟨b,h,e⟩;exact a0S.mpr ⟨b,h,a0Q e⟩
 .intro h;obtain⟨b,h,e⟩:=a0S.mp h;exact⟨b,h,a0f e⟩
def fT{a:List (κ×α)}{k:κ}{v:α}(h:(a.map (·.1)).Nodup):((dput a k v).map (·.1)).Nodup:=by
 rw[WT];split
 .exact h
 .rename_i n;refine a1F.mpr ⟨h,by simp,λx b y c z=>?_⟩;obtain rfl:y=k:=by simpa using c
  subst z;exact n (Fy.mpr b)
end
end L2
namespace L2
open PySem PySem.Spec PyProof.Rows PySem.W
inductive HV where
 |v (x:PV)|g (k:Nat)|t (xs:List HV)
inductive Cell where
 |l (xs:List HV)|d (kvs:List (Key×HV))|z (kvs:List (Key×HV))|o (c:Nat) (fs:List (Str×HV))|y (b:Bool)|m (l c:Nat) (q:Str)|u (kvs:List (List Key×HV))|w (ks:a4y)
abbrev AH:=List Cell
abbrev az:=List (Option HV)
structure HC where
 W:RC
 H0:Hp
 M0:Addr->Prop
def HM(Z:HC)(A:a49)(n:Nat):Addr->Prop:=λa=>(Z.M0 a\/Z.H0 a=none)/\∀k,k<n->A k≠a
mutual
def QU(W:RC)(M:a43)(A:a49)(n:Nat)(H:Hp):HV->V->Prop
 |.v x,v=>Rep W M H x v
 |.g k,v=>k<n/\v=.ref (A k)
 |.t b,v=>∃p a,v=.ref p/\SqT W.K H p a/\Yt W M A n H b a
def Yt(W:RC)(M:a43)(A:a49)(n:Nat)(H:Hp):List HV->List V->Prop
 |[],a=>a=[]
 |x::b,a=>∃v r,a=v::r/\QU W M A n H x v/\Yt W M A n H b r
end
def ju{c:Type}(R:HV->V->Prop):List (c×HV)->List (c×V)->Prop
 |[],a=>a=[]
 |b::r,a=>∃v q,a=(b.1,v)::q/\R b.2 v/\ju R r q
section
variable {W:RC}{M M':a43}{A A':a49}{n n':Nat}{H H':Hp}
mutual
theorem QU.gen(f:Fr M H H')(s:∀a,M a->H a≠none->M' a)(b:n<=n')(c:∀k,k<n->A' k=A k):∀{x:HV}{v:V},QU W M A n H x v->QU W M' A' n' H' x v
 |.v x,v,h=>Rep.gen f s h
 |.g k,v,h=>⟨a0u h.1 b,by rw[c k h.1];exact h.2⟩
 |.t g,v,h=>by unfold QU at h ⊢;obtain⟨p,d,e,r,q⟩:=h;exact⟨p,d,e,f.sqT r,Yt.gen f s b c q⟩
theorem Yt.gen(f:Fr M H H')(s:∀a,M a->H a≠none->M' a)(b:n<=n')(c:∀k,k<n->A' k=A k):∀{x:List HV}{v:a4a},Yt W M A n H x v->Yt W M' A' n' H' x v
 |[],v,h=>h
 |x::j,i,h=>by unfold Yt at h ⊢;obtain⟨v,r,e,g,d⟩:=h;exact⟨v,r,e,QU.gen f s b c g,Yt.gen f s b c d⟩
end
def ju.imp{g:Type}{R f:HV->V->Prop}(h:∀x v,R x v->f x v):∀{c:List (g×HV)}{d:List (g×V)},ju R c d->ju f c d
 |[],_,q=>q
 |_::_,_,⟨v,q,e,a,b⟩=>⟨v,q,e,h _ _ a,ju.imp h b⟩
def Mde(l c:Nat)(q:Str)(H:Hp)(e:a4u):Prop:=∃a b d t,e = #[rawInt l,rawInt c,.ref a]/\H a=some (.frz b (.own a))/\b.data=.fields d/\d[1]?=some (.str q t)
def Mde.gen(f:Fr M H H'):Mde l c q H ps->Mde l c q H' ps:=λ⟨a,d,b,t,e,h,r⟩=>⟨a,d,b,t,e,f _ _ h (.inr trivial),r⟩
def rJ(W:RC)(M:a43)(A:a49)(n:Nat)(H:Hp)(p:Addr):Cell->Prop
 |.l i=>∃f,H p=some (.lst f)/\Yt W M A n H i f
 |.d d=>∃a,H p=some (.dK a)/\ju (QU W M A n H) d a
 |.z d=>∃o a,H p=some (.frz o (.dK a))/\ju (QU W M A n H) d a
 |.o c fs=>∃g a,H p=some (.ins (W.cls c) g a)/\ju (QU W M A n H) fs a
 |.y b=>p=W.cls 1000/\∃e,H p=some (.tbl e)/\(b=true->e = #[])
 |.m l c q=>p=W.cls 1000/\∃e,H p=some (.tbl e)/\Mde l c q H e
 |.u d=>∃a,H p=some (.dT a)/\ju (QU W M A n H) d a
 |.w h=>H p=some (.tup (h.map kV))
def rJ.gen{p:Addr}(hp:H' p=H p)(f:Fr M H H')(s:∀a,M a->H a≠none->M' a)(d:n<=n')(g:∀k,k<n->A' k=A k):∀{c:Cell},rJ W M A n H p c->rJ W M' A' n' H' p c
 |.l _,⟨l,e,q⟩=>⟨l,hp.trans e,q.gen f s d g⟩
 |.d _,⟨b,e,q⟩=>⟨b,hp.trans e,q.imp λ_ _=>QU.gen f s d g⟩
 |.z _,⟨o,b,e,q⟩=>⟨o,b,hp.trans e,q.imp λ_ _=>QU.gen f s d g⟩
 |.o _ _,⟨j,b,e,q⟩=>⟨j,b,hp.trans e,q.imp λ_ _=>QU.gen f s d g⟩
 |.y _,⟨i,h,e,q⟩=>⟨i,h,hp.trans e,q⟩
 |.m _ _ _,⟨i,h,e,q⟩=>⟨i,h,hp.trans e,q.gen f⟩
 |.u _,⟨b,e,q⟩=>⟨b,hp.trans e,q.imp λ_ _=>QU.gen f s d g⟩
 |.w _,e=>hp.trans e
def rJ.ob{p:Addr}:∀{c:Cell},rJ W M A n H p c->∃o,H p=some o
 |.l _,⟨_,e,_⟩=>⟨_,e⟩
 |.d _,⟨_,e,_⟩=>⟨_,e⟩
 |.z _,⟨_,_,e,_⟩=>⟨_,e⟩
 |.o _ _,⟨_,_,e,_⟩=>⟨_,e⟩
 |.y _,⟨_,_,e,_⟩=>⟨_,e⟩
 |.m _ _ _,⟨_,_,e,_⟩=>⟨_,e⟩
 |.u _,⟨_,e,_⟩=>⟨_,e⟩
 |.w _,e=>⟨_,e⟩
end
structure Gro(Z:HC)(A:a49)(n:Nat)(H:Hp)(A':a49)(n':Nat)(H':Hp):Prop where
 le:n<=n'
 agr:∀k,k<n->A' k=A k
 fresh:∀k,n<=k->k<n'->H (A' k)=none
 fr:Fr (HM Z A n) H H'
 dom:∀a,H' a=none->H a=none
structure HH(Z:HC)(A:a49)(H:Hp)(G:AH):Prop where
 same:zH Z.H0 H
 cell:∀(k:Nat) c,G[k]?=some c->rJ Z.W (HM Z A G.length) A G.length H (A k) c
 inj:∀j k,j<G.length->k<G.length->A j=A k->j=k
 own:∀k,k<G.length->Z.H0 (A k)=none
structure HR(Z:HC)(A:a49)(H:Hp)(σ:St)(ρ:az)(G:AH):Prop extends HH Z A H G where
 len:σ.length=ρ.length
 var:∀(i:Nat) x,ρ[i]?=some (some x)->∃v,σ[i]?=some (some v)/\QU Z.W (HM Z A G.length) A G.length H x v
section
variable {Z:HC}{A A' A'':a49}{n n' n'':Nat}{H H' H'':Hp}{G G':AH}{σ:St}{ρ:az}
def Gro.sM(g:Gro Z A n H A' n' H'):∀a,HM Z A n a->H a≠none->HM Z A' n' a:=λa m h=>⟨m.1,λk b e=>by
 by_cases c:k<n
 .exact m.2 k c (by rw[<- g.agr k c];exact e)
 .exact h (e▸g.fresh k (by omega) b)⟩
def Gro.same(s:zH H H'):Gro Z A n H A n H':=⟨a0e _,λ_ _=>rfl,λk a b=>absurd b (by omega),s.fr,λa h=>zH.none s h⟩
def Gro.refl:Gro Z A n H A n H:=Gro.same (zH.refl _)
def Gro.trans(g:Gro Z A n H A' n' H')(k:Gro Z A' n' H' A'' n'' H''):Gro Z A n H A'' n'' H'':=by
 refine⟨a0y g.le k.le,λj b=>(k.agr j (a0u b g.le)).trans (g.agr j b),λj e d=>?_,λa o h m=>?_,λa h=>g.dom a (k.dom a h)⟩
 .by_cases c:j<n'
  .rw[k.agr j c];exact g.fresh j e c
  .exact g.dom _ (k.fresh j (by omega) d)
 .refine k.fr a o (g.fr a o h m) (m.imp (λm=>g.sM a m (by rw[h];exact λz=>by cases z)) id)
def QU.gro(g:Gro Z A n H A' n' H')(h:QU W (HM Z A n) A n H x v):QU W (HM Z A' n') A' n' H' x v:=h.gen g.fr g.sM g.le g.agr
def HR.gro(R:HR Z A H σ ρ G)(h:HH Z A' H' G')(g:Gro Z A G.length H A' G'.length H'):HR Z A' H' σ ρ G':=
 ⟨h,R.len,λi x e=>let⟨v,h1,h2⟩:=R.var i x e;⟨v,h1,h2.gro g⟩⟩
def HH.ob(h:HH Z A H G)(a:k<G.length):∃o,H (A k)=some o:=(h.cell k _ (a0n a)).ob
def HH.keep(h:HH Z A H G)(s:zH H H'):HH Z A H' G:=⟨h.same.trans s,λk c e=>by
 have q:=h.cell k c e;obtain⟨o,a⟩:=q.ob;exact q.gen ((s _ _ a).trans a.symm) s.fr (λ_ m _=>m) (a0e _) λ_ _=>rfl,h.inj,h.own⟩
def HH.new(h:HH Z A H G):New (HM Z A G.length) H:=λp hp=>⟨.inr (zH.none h.same hp),λk b e=>by
 obtain⟨o,a⟩:=h.ob b;rw[e,hp]at a;cases a⟩
def HR.keep(R:HR Z A H σ ρ G)(s:zH H H'):HR Z A H' σ ρ G:=R.gro (R.toHH.keep s) (Gro.same s)
def exA(A:a49)(n:Nat)(p:Addr):Nat->Addr:=λk=>if k=n then p else A k
def bQ:exA A n p n=p:=if_pos rfl
def Uz(h:k<n):exA A n p k=A k:=if_neg (by omega)
def Gro.ext(s:zH H H')(hp:H p=none):Gro Z A n H (exA A n p) (n+1) H':=
 ⟨a1m _,λk b=>Uz b,λk d c=>by rw[show k=n by omega,bQ];exact hp,s.fr,λa h=>zH.none s h⟩
def HH.alloc(h:HH Z A H G)(s:zH H H')(hp:H p=none)(v:rJ Z.W (HM Z (exA A G.length p) (G.length+1)) (exA A G.length p) (G.length+1) H' p c):HH Z (exA A G.length p) H' (G++[c]):=by
 have g:Gro Z A G.length H (exA A G.length p) (G.length+1) H':=Gro.ext s hp;have l:(G++[c]).length=G.length+1:=by simp
 have m:∀k,k<G.length->A k≠p:=λk a e=>by obtain⟨o,b⟩:=h.ob a;rw[e,hp]at b;cases b
 refine⟨h.same.trans s,λk d e=>?_,λj k u a e=>?_,λk a=>?_⟩
 .rw[l];by_cases a:k<G.length
  .rw[a09 a]at e;have q:=h.cell k d e;obtain⟨o,b⟩:=q.ob;rw[Uz a];exact q.gen ((s _ _ b).trans b.symm) g.fr g.sM g.le g.agr
  .have w:=(a0v.mp e).1;have r:k=G.length:=by omega
   subst r;rw[a2S (a0e _),a3Y]at e;cases e;rw[bQ];exact v
 .rw[l]at u a;by_cases f:j=G.length
  .by_cases i:k=G.length
   .rw[f,i]
   .rw[f,bQ,Uz (by omega)]at e;exact absurd e.symm (m k (by omega))
  .by_cases i:k=G.length
   .rw[i,bQ,Uz (by omega)]at e;exact absurd e (m j (by omega))
   .rw[Uz (by omega),Uz (by omega)]at e;exact h.inj j k (by omega) (by omega) e
 .rw[l]at a;by_cases f:k=G.length
  .rw[f,bQ];exact zH.none h.same hp
  .rw[Uz (by omega)];exact h.own k (by omega)
def HH.frw(h:HH Z A H G)(d:k<G.length)(c:H (A k)=Option.some o0)(f:¬Imm o0):Gro Z A G.length H A G.length (upd H (A k) o):=by
 refine⟨a0e _,λ_ _=>rfl,λk a b=>absurd b (by omega),λa q e m=>?_,λa e=>?_⟩
 .have:a≠A k:=λz=>by
   rcases m with m|m
   .exact m.2 k d z.symm
   .rw[z,c]at e;cases e;exact f m
  rw[zm this];exact e
 .by_cases z:a=A k
  .rw[z,zl]at e;cases e
  .rw[zm z]at e;exact e
def HH.write(h:HH Z A H G)(l:k<G.length)(r:H (A k)=Option.some o0)(s:¬Imm o0)(u:rJ Z.W (HM Z A G.length) A G.length (upd H (A k) o) (A k) c):HH Z A (upd H (A k) o) (G.set k c):=by
 have g:=h.frw (o:=o) l r s;have f:(G.set k c).length=G.length:=a0V ..;refine⟨λa q e=>?_,λj d e=>?_,λi j p b=>h.inj i j (f▸p) (f▸b),λj b=>h.own j (f▸b)⟩
 .have:a≠A k:=λz=>by rw[z,h.own k l]at e;cases e
  rw[zm this];exact h.same a q e
 .rw[f];by_cases b:k=j
  .subst b;rw[a0E l]at e;cases e;exact u
  .rw[a0G b]at e;have m:=(a0v.mp e).1;exact(h.cell j d e).gen (zm λz=>b (h.inj j k m l z).symm) g.fr g.sM g.le g.agr
def HR.set(R:HR Z A H σ ρ G)(c:QU Z.W (HM Z A G.length) A G.length H x v):HR Z A H (σ.set i (Option.some v)) (ρ.set i (Option.some x)) G:=by
 refine⟨R.toHH,by rw[a0V,a0V];exact R.len,λj y e=>?_⟩;by_cases a:i=j
 .subst a;have b:i<ρ.length:=by
   have:=(a0v.mp e).1
   rwa [a0V]at this
  rw[a0E b]at e;cases e;exact⟨v,by rw[a0E (by rw[R.len];exact b)],c⟩
 .rw[a0G a]at e ⊢;exact R.var j y e
end
inductive HX(α:Type)where
 |ok (a:α) (G:AH)|exc (c:Nat) (fs:a4m) (G:AH)|wall
def HX.bind{b d:Type}:HX b->(b->AH->HX d)->HX d
 |.ok a G,f=>f a G
 |.exc c fs G,_=>.exc c fs G
 |.wall,_=>.wall
def Hw(Z:HC)(E:XK)(A:a49)(n:Nat)(H:Hp)(c:Nat)(fs:a4m)(d:AH):Prop:=∀f a e b g,HH Z f a d->Gro Z A n H f d.length a->a e=some (XC e (Z.W.cls c) b)->a b=some (XD b g)->vz Z.W (HM Z f d.length) a fs g->E (.ref e) (some b) a
def HPx{e:Type}(Z:HC)(E:XK)(A:a49)(n:Nat)(H:Hp)(K:e->(Nat->Addr)->Hp->AH->Prop):HX e->Prop
 |.ok x a=>∀d b,HH Z d b a->Gro Z A n H d a.length b->K x d b a
 |.exc c fs a=>Hw Z E A n H c fs a
 |.wall=>False
section
variable {α β:Type}{K:β->(Nat->Addr)->Hp->AH->Prop}{K':α->(Nat->Addr)->Hp->AH->Prop}
def Hw.gro(h:Hw Z E A n H c fs G)(g:Gro Z A n H A' n' H'):Hw Z E A' n' H' c fs G:=λj f e b d i a=>h j f e b d i (g.trans a)
def HPx.gro{o:HX β}(h:HPx Z E A n H K o)(g:Gro Z A n H A' n' H'):HPx Z E A' n' H' K o:=by
 cases o with
 |ok x e=>exact λf b d a=>h f b d (g.trans a)
 |exc c fs e=>exact Hw.gro h g
 |wall=>exact h
def HPx.bind{o:HX α}{f:α->AH->HX β}(h:HPx Z E A n H K (o.bind f))(k:∀x d b a,HH Z d b a->Gro Z A n H d a.length b->HPx Z E d a.length b K (f x a)->K' x d b a):HPx Z E A n H K' o:=by
 cases o with
 |ok x a=>exact λj g i e=>k x j g a i e (HPx.gro (o:=f x a) h e)
 |exc c fs a=>exact h
 |wall=>exact h
end
abbrev HME:=az->AH->HX HV
def KV'(Z:HC)(Q:VK):HV->(Nat->Addr)->Hp->AH->Prop:=λx c a b=>∀v,QU Z.W (HM Z c b.length) c b.length a x v->Q v a
def HE(X:Cx)(W:RC)(E:XK)(e:a45)(m:HME):Prop:=X.K=W.K->∃a,PE X e a/\∀(Z:HC),Z.W=W->∀A H c b G,HR Z A H c b G->∀Q,HPx Z E A G.length H (KV' Z Q) (m b G)->a c H Q
mutual
def imm:PV->Bool
 |.i _=>true | .s _=>true | .b _=>true | .n=>true
 |.t a=>Hx a
 |.l _=>false | .d _=>false | .o _ _=>false | .x _ _=>false | .sc _=>false | .dt _=>false
def Hx:List PV->Bool
 |[]=>true
 |x::a=>imm x&&Hx a
end
def Nu:List (Str×PV)->Bool
 |[]=>true
 |x::a=>imm x.2&&Nu a
section
variable {W:RC}{M M':a43}{H:Hp}
mutual
theorem iB:∀{x:PV}{v:V},imm x=true->Rep W M H x v->Rep W M' H x v
 |.i _,_,_,h=>h
 |.s _,_,_,h=>h
 |.b _,_,_,h=>h
 |.n,_,_,h=>h
 |.t c,_,e,h=>by unfold Rep at h ⊢;unfold imm at e;obtain⟨p,a,b,r,q⟩:=h;exact⟨p,a,b,r,iC e q⟩
 |.l _,_,e,_=>by unfold imm at e;cases e
 |.d _,_,e,_=>by unfold imm at e;cases e
 |.o _ _,_,e,_=>by unfold imm at e;cases e
 |.x _ _,_,e,_=>by unfold imm at e;cases e
 |.sc _,_,e,_=>by unfold imm at e;cases e
 |.dt _,_,e,_=>by unfold imm at e;cases e
theorem iC:∀{x:a4h}{v:a4a},Hx x=true->yr W M H x v->yr W M' H x v
 |[],_,_,h=>h
 |x::d,_,e,h=>by unfold Hx at e;simp only[Bool.and_eq_true]at e;obtain⟨v,r,b,c,a⟩:=h;exact⟨v,r,b,iB e.1 c,iC e.2 a⟩
end
theorem aY:∀{x:a4m}{v:a4o},Nu x=true->vz W M H x v->vz W M' H x v
 |[],_,_,h=>h
 |x::d,_,e,h=>by unfold Nu at e;simp only[Bool.and_eq_true]at e;obtain⟨v,r,b,c,a⟩:=h;exact⟨v,r,b,iB e.1 c,aY e.2 a⟩
def fU:List Bool->az->Option Sto
 |_,[]=>some []
 |[],_::a=>(fU [] a).map (none::·)
 |false::bs,_::a=>(fU bs a).map (none::·)
 |true::bs,some (.v x)::a=>(fU bs a).map (some x::·)
 |true::_,_=>none
def Nv(f:HV->Option PV):List HV->Option (List PV)
 |[]=>some []
 |x::a=>(f x).bind λy=>(Nv f a).map (y::·)
def AX{a:Type}(f:HV->Option PV):List (a×HV)->Option (List (a×PV))
 |[]=>some []
 |x::b=>(f x.2).bind λy=>(AX f b).map ((x.1,y)::·)
def Kr(G:AH):Nat->HV->Option PV
 |0,_=>none
 |_+1,.v x=>some x
 |n+1,.t b=>(Nv (Kr G n) b).map .t
 |n+1,.g k=>match G[k]? with
  |some (.l b)=>(Nv (Kr G n) b).map .l
  |some (.d a)=>(AX (Kr G n) a).map .d
  |some (.z a)=>(AX (Kr G n) a).map .d
  |some (.o c fs)=>(AX (Kr G n) fs).map (.o c)
  |some (.w d)=>some (.t (d.map kP))
  |_=>none
def bR(G:AH):List Bool->az->Option Sto
 |_,[]=>some []
 |[],_::a=>(bR G [] a).map (none::·)
 |false::bs,_::a=>(bR G bs a).map (none::·)
 |true::bs,some x::a=>(Kr G 8 x).bind λy=>(bR G bs a).map (some y::·)
 |true::_,none::_=>none
theorem WU{f:HV->Option PV}{N:a43}(hf:∀x v y,QU W M A n H x v->f x=some y->Rep W N H y v):∀{a:List HV}{c:a4a}{b:a4h},Yt W M A n H a c->Nv f a=some b->yr W N H b c
 |[],_,_,h,e=>by cases e;exact h
 |x::a,_,b,h,e=>by obtain⟨v,r,rfl,j,d⟩:=h;unfold Nv at e;obtain⟨y,g,e⟩:=a0B.mp e;obtain⟨l,i,rfl⟩:=a0c.mp e;exact⟨v,r,rfl,hf _ _ _ j g,WU hf d i⟩
theorem WV{f:HV->Option PV}{N:a43}(hf:∀x v y,QU W M A n H x v->f x=some y->Rep W N H y v):∀{a:List (Key×HV)}{c:a4d}{b:a4l},ju (QU W M A n H) a c->AX f a=some b->j7 W N H b c
 |[],_,_,h,e=>by cases e;exact h
 |x::a,_,b,h,e=>by obtain⟨v,r,rfl,j,d⟩:=h;unfold AX at e;obtain⟨y,g,e⟩:=a0B.mp e;obtain⟨l,i,rfl⟩:=a0c.mp e;exact⟨v,r,rfl,hf _ _ _ j g,WV hf d i⟩
theorem iD{f:HV->Option PV}{N:a43}(hf:∀x v y,QU W M A n H x v->f x=some y->Rep W N H y v):∀{a:List (Str×HV)}{c:a4o}{b:a4m},ju (QU W M A n H) a c->AX f a=some b->vz W N H b c
 |[],_,_,h,e=>by cases e;exact h
 |x::a,_,b,h,e=>by obtain⟨v,r,rfl,j,d⟩:=h;unfold AX at e;obtain⟨y,g,e⟩:=a0B.mp e;obtain⟨l,i,rfl⟩:=a0c.mp e;exact⟨v,r,rfl,hf _ _ _ j g,iD hf d i⟩
end
section
variable {Z:HC}{A:a49}{H:Hp}{G:AH}{σ:St}{ρ:az}
theorem rK{W:RC}{M:a43}{H:Hp}:∀a:List Key,yr W M H (a.map kP) (a.map kV)
 |[]=>rfl
 |k::a=>⟨_,_,rfl,Hs k,rK a⟩
theorem X5(h:HH Z A H G):∀(n:Nat)(x:HV)(v:V)(y:PV),QU Z.W (HM Z A G.length) A G.length H x v->Kr G n x=some y->Rep Z.W (λ_=>True) H y v
 |0,_,_,_,_,e=>by cases e
 |n+1,.v x,v,y,r,e=>by cases e;exact Rep.sub r λ_ _ _=>trivial
 |n+1,.t i,v,y,r,e=>by unfold Kr at e;obtain⟨g,d,rfl⟩:=a0c.mp e;unfold QU at r;obtain⟨p,b,rfl,s,q⟩:=r;exact⟨p,b,rfl,s,WU (X5 h n) q d⟩
 |n+1,.g k,v,y,r,e=>by
  obtain⟨m,rfl⟩:=r;unfold Kr at e;split at e
  .rename_i i a;obtain⟨g,d,rfl⟩:=a0c.mp e;obtain⟨b,f,q⟩:=h.cell k _ a;exact⟨A k,b,rfl,trivial,f,WU (X5 h n) q d⟩
  .rename_i i a;obtain⟨g,d,rfl⟩:=a0c.mp e;obtain⟨b,f,q⟩:=h.cell k _ a;exact⟨A k,b,rfl,trivial,.inl f,WV (X5 h n) q d⟩
  .rename_i i a;obtain⟨g,d,rfl⟩:=a0c.mp e;obtain⟨o,b,f,q⟩:=h.cell k _ a;exact⟨A k,b,rfl,trivial,.inr ⟨o,f⟩,WV (X5 h n) q d⟩
  .rename_i c i a;obtain⟨g,d,rfl⟩:=a0c.mp e;obtain⟨j,b,f,q⟩:=h.cell k _ a;exact⟨A k,j,b,rfl,trivial,f,iD (X5 h n) q d⟩
  .rename_i l a;cases e;exact⟨A k,_,rfl,.inl (.inl (h.cell k _ a)),rK l⟩
  .cases e
theorem WX:∀{bs:a47}{ρ:az}{r:Sto}{i:Nat}{x:PV},fU bs ρ=some r->r[i]?=some (some x)->ρ[i]?=some (some (.v x))
 |_,[],r,i,x,e,h=>by unfold fU at e;cases e;simp at h
 |[],_::ρ,r,i,x,e,h=>by
  unfold fU at e;obtain⟨b,a,rfl⟩:=a0c.mp e;cases i with
  |zero=>cases h
  |succ i=>rw[a0R]at h ⊢;exact WX a h
 |false::bs,_::ρ,r,i,x,e,h=>by
  unfold fU at e;obtain⟨b,a,rfl⟩:=a0c.mp e;cases i with
  |zero=>cases h
  |succ i=>rw[a0R]at h ⊢;exact WX a h
 |true::bs,some (.v y)::ρ,r,i,x,e,h=>by
  unfold fU at e;obtain⟨b,a,rfl⟩:=a0c.mp e;cases i with
  |zero=>cases h;rfl
  |succ i=>rw[a0R]at h ⊢;exact WX a h
 |true::bs,none::ρ,r,i,x,e,h=>by cases e
 |true::bs,some (.g _)::ρ,r,i,x,e,h=>by cases e
 |true::bs,some (.t _)::ρ,r,i,x,e,h=>by cases e
theorem WY:∀{bs:a47}{ρ:az}{r:Sto},fU bs ρ=some r->r.length=ρ.length
 |_,[],r,e=>by unfold fU at e;cases e;rfl
 |[],_::ρ,r,e=>by unfold fU at e;obtain⟨b,a,rfl⟩:=a0c.mp e;rw[a0b,a0b,WY a]
 |false::bs,_::ρ,r,e=>by unfold fU at e;obtain⟨b,a,rfl⟩:=a0c.mp e;rw[a0b,a0b,WY a]
 |true::bs,some (.v y)::ρ,r,e=>by unfold fU at e;obtain⟨b,a,rfl⟩:=a0c.mp e;rw[a0b,a0b,WY a]
 |true::bs,none::ρ,r,e=>by cases e
 |true::bs,some (.g _)::ρ,r,e=>by cases e
 |true::bs,some (.t _)::ρ,r,e=>by cases e
theorem aZ:∀{bs:a47}{ρ:az}{r:Sto}{i:Nat}{x:PV},bR G bs ρ=some r->r[i]?=some (some x)->∃y,ρ[i]?=some (some y)/\Kr G 8 y=some x
 |_,[],r,i,x,e,h=>by unfold bR at e;cases e;simp at h
 |[],_::ρ,r,i,x,e,h=>by
  unfold bR at e;obtain⟨b,a,rfl⟩:=a0c.mp e;cases i with
  |zero=>cases h
  |succ i=>rw[a0R]at h ⊢;exact aZ a h
 |false::bs,_::ρ,r,i,x,e,h=>by
  unfold bR at e;obtain⟨b,a,rfl⟩:=a0c.mp e;cases i with
  |zero=>cases h
  |succ i=>rw[a0R]at h ⊢;exact aZ a h
 |true::bs,some y::ρ,r,i,x,e,h=>by
  unfold bR at e;obtain⟨z,c,e⟩:=a0B.mp e;obtain⟨b,a,rfl⟩:=a0c.mp e;cases i with
  |zero=>cases h;exact⟨y,rfl,c⟩
  |succ i=>rw[a0R]at h ⊢;exact aZ a h
 |true::bs,none::ρ,r,i,x,e,h=>by cases e
theorem a8:∀{bs:a47}{ρ:az}{r:Sto},bR G bs ρ=some r->r.length=ρ.length
 |_,[],r,e=>by unfold bR at e;cases e;rfl
 |[],_::ρ,r,e=>by unfold bR at e;obtain⟨b,a,rfl⟩:=a0c.mp e;rw[a0b,a0b,a8 a]
 |false::bs,_::ρ,r,e=>by unfold bR at e;obtain⟨b,a,rfl⟩:=a0c.mp e;rw[a0b,a0b,a8 a]
 |true::bs,some y::ρ,r,e=>by unfold bR at e;obtain⟨z,c,e⟩:=a0B.mp e;obtain⟨b,a,rfl⟩:=a0c.mp e;rw[a0b,a0b,a8 a]
 |true::bs,none::ρ,r,e=>by cases e
def O1{S:a39}(a:S.all (·==0)=true){i c:Nat}(h:S[i]?=some c):c=0:=by have:=a1d.mp a c (a1Z h);simpa using this
def O2(n:σ.length=r.length)(d:S.all (·==0)=true)(g:∀(i:Nat) x,r[i]?=some (some x)->∃v,σ[i]?=some (some v)/\Rep Z.W M H x v):Rel Z.W (Hm H M) S (λ_=>0) H σ r:=by
 have c:∀{k:Nat},S[k]?=some 2->False:=λ{k} h=>by have:=O1 d h;omega
 have f:∀{k:Nat},S[k]?=some 1->False:=λ{k} h=>by have:=O1 d h;omega
 refine⟨zH.refl _,n,λi x e=>?_,λi b=>(c b).elim,λi j b=>(c b).elim,λb=>(c b).elim,λa h=>h.elim,λi b=>(c b).elim⟩;obtain⟨v,o,l⟩:=g i x e;exact⟨v,o,λz=>(c z).elim,λz=>(f z).elim,λ_ _=>l.sub λa m _=>⟨⟨.inl m,id⟩,λi b=>(c b).elim⟩⟩
def O3(R:HR Z A H σ ρ G)(e:fU bs ρ=some r)(a:S.all (·==0)=true):Rel Z.W (Hm H (HM Z A G.length)) S (λ_=>0) H σ r:=
 O2 (R.len.trans (WY e).symm) a λi x h=>R.var i _ (WX e h)
def O4(R:HR Z A H σ ρ G)(e:bR G bs ρ=some r)(b:S.all (·==0)=true):Rel Z.W (Hm H λ_=>True) S (λ_=>0) H σ r:=
 O2 (R.len.trans (a8 e).symm) b λi x h=>by obtain⟨y,f,d⟩:=aZ e h;obtain⟨v,c,a⟩:=R.var i y f;exact⟨v,c,X5 R.toHH _ _ _ _ a d⟩
def O5(h:HH Z A H G):∀a,Mof (Hm H (HM Z A G.length)) S P a->HM Z A G.length a:=λa m=>m.1.1.elim id λn=>h.new a n
end
def hP(bs:a47)(m:ME):HME:=λa G=>match fU bs a with
 |some r=>match m r with
  |.ok x=>.ok (.v x) G
  |.exc c fs=>.exc c fs G
  |.wall=>.wall
 |none=>match bR G bs a with
  |some r=>match m r with
   |.ok x=>if imm x=true then .ok (.v x) G else .wall
   |.exc c fs=>if Nu fs=true then .exc c fs G else .wall
   |.wall=>.wall
  |none=>.wall
def vK{a:Type}(xs:List (a×PV)):List (a×HV):=xs.map λp=>(p.1,.v p.2)
def L6:PV->Option Cell
 |.l b=>some (.l (b.map .v))
 |.d a=>some (.d (vK a))
 |.o c fs=>some (.o c (vK fs))
 |_=>none
def zat:PV->Bool
 |.l b=>Hx b
 |.d a=>Hx (a.map (·.2))
 |.o _ fs=>Nu fs
 |_=>false
def hF(bs:a47)(m:ME):HME:=λa G=>match fU bs a with
 |some r=>match m r with
  |.ok x=>match L6 x with
   |some c=>.ok (.g G.length) (G++[c])
   |none=>.wall
  |.exc c fs=>.exc c fs G
  |.wall=>.wall
 |none=>match bR G bs a with
  |some r=>match m r with
   |.ok x=>if zat x=true then match L6 x with
    |some c=>.ok (.g G.length) (G++[c])
    |none=>.wall else .wall
   |.exc c fs=>if Nu fs=true then .exc c fs G else .wall
   |.wall=>.wall
  |none=>.wall
section
variable {W:RC}{M M':a43}{A:a49}{n:Nat}{H:Hp}
theorem O6:∀{b:a4h}{a:a4a},yr W M H b a->Yt W M A n H (b.map .v) a
 |[],_,h=>h
 |_::_,_,⟨v,r,e,d,c⟩=>⟨v,r,e,d,O6 c⟩
theorem O7:∀{b:a4l}{a:a4d},j7 W M H b a->ju (QU W M A n H) (vK b) a
 |[],_,h=>h
 |_::_,_,⟨v,r,e,d,c⟩=>⟨v,r,e,d,O7 c⟩
theorem O8:∀{b:a4m}{a:a4o},vz W M H b a->ju (QU W M A n H) (vK b) a
 |[],_,h=>h
 |_::_,_,⟨v,r,e,d,c⟩=>⟨v,r,e,d,O8 c⟩
theorem uy:∀{x:a4l}{v:a4d},Hx (x.map (·.2))=true->j7 W M H x v->j7 W M' H x v
 |[],_,_,h=>h
 |x::d,_,e,h=>by rw[a0j]at e;unfold Hx at e;simp only[Bool.and_eq_true]at e;obtain⟨v,r,b,c,a⟩:=h;exact⟨v,r,b,iB e.1 c,uy e.2 a⟩
def O9(b:ib W M H p x)(e:L6 x=some c):rJ W M A n H p c:=by
 cases x with
 |l f=>cases e;obtain⟨a,h,r⟩:=b;exact⟨a,h,O6 r⟩
 |d f=>cases e;obtain⟨a,h,r⟩:=b;exact⟨a,h,O7 r⟩
 |o k f=>cases e;obtain⟨g,a,h,r⟩:=b;exact⟨g,a,h,O8 r⟩
 |_=>cases e
def Fz(e:zat x=true)(b:ib W M H p x):ib W M' H p x:=by
 cases x with
 |l c=>obtain⟨a,h,r⟩:=b;exact⟨a,h,iC e r⟩
 |d c=>obtain⟨a,h,r⟩:=b;exact⟨a,h,uy e r⟩
 |o k c=>obtain⟨f,a,h,r⟩:=b;exact⟨f,a,h,aY e r⟩
 |_=>cases e
end
section
variable {X:Cx}{W:RC}{E:XK}{fr:Bool}{S:a39}{e a:a45}{es:a44}{m:ME}{bs:a47}{p:Pos}{i:Nat}
def FA(h:HH Z A H G)(q:Hw Z E A G.length H c fs G)(n:∀d es,vz Z.W (λa=>M a\/H a=none) d fs es->vz Z.W (HM Z A G.length) d fs es):XPo ⟨Z.W,E,fr⟩ (Hm H M) c fs:=
 λe f es d s l j g=>q A d e f es (h.keep s) (Gro.same s) l j (n d es g)
def za9(bs:a47)(h:EM X ⟨W,E,fr⟩ S false e m)(l:S.all (·==0)=true:=by rfl):HE X W E e (hP bs m):=λy=>by
 obtain⟨z,w,u⟩:=h y;refine⟨z,w,λZ B A H o C G R Q q=>?_⟩;subst B;unfold hP at q;split at q
 .rename_i r j;refine u _ _ H o r (O3 R j l) Q ?_;revert q;cases m r with
  |ok x=>exact λq v d s f=>q A d (R.toHH.keep s) (Gro.same s) v (f.rep.sub λa m _=>O5 R.toHH a m)
  |exc c fs=>exact λq=>FA R.toHH q λd es h=>h.sub λa m _=>m.elim id λn=>R.toHH.new a n
  |wall=>exact id
 .split at q
  .rename_i r j;refine u _ _ H o r (O4 R j l) Q ?_;revert q;cases m r with
   |ok x=>
    intro q v d s f;dsimp only at q;split at q
    .rename_i g;exact q A d (R.toHH.keep s) (Gro.same s) v (iB g f.rep)
    .exact q.elim
   |exc c fs=>
    intro q;dsimp only at q;split at q
    .rename_i g;exact FA R.toHH q λd es h=>aY g h
    .exact q.elim
   |wall=>exact id
  .exact q.elim
def CA{Z:HC}{A:a49}{H d:Hp}{G:AH}{c:Cell}{p:Addr}{Q:VK}(h:HH Z A H G)(s:zH H d)(hp:H p=none)(g:rJ Z.W (HM Z (exA A G.length p) (G.length+1)) (exA A G.length p) (G.length+1) d p c)(q:HPx Z E A G.length H (KV' Z Q) (.ok (.g G.length) (G++[c]))):Q (.ref p) d:=by
 have f:(G++[c]).length=G.length+1:=by simp
 refine q _ d (h.alloc s hp g) (by rw[f];exact Gro.ext s hp) _ ⟨by rw[f];exact a1w _,?_⟩;rw[bQ]
def O_{Z:HC}{A:a49}{n:Nat}{p a:Addr}(m:HM Z A n a)(h:a≠p):HM Z (exA A n p) (n+1) a:=⟨m.1,λk d e=>by
 by_cases c:k=n
 .rw[c,bQ]at e;exact h e.symm
 .rw[Uz (by omega)]at e;exact m.2 k (by omega) e⟩
def za_(bs:a47)(z:LFr ⟨W,E,fr⟩ S te m)(y:S.all (·==0)=true:=by rfl):∀(Z:HC),Z.W=W->∀A H d f G,HR Z A H d f G->∀Q,HPx Z E A G.length H (KV' Z Q) (hF bs m f G)->te d H Q:=λZ B A H d f G R Q q=>by
 subst B;unfold hF at q;split at q
 .rename_i r w;refine z _ _ H d r (O3 R w y) Q ?_;revert q;cases m r with
  |ok x=>
   intro q v u s g;dsimp only at q;split at q
   .rename_i c l;obtain⟨p,rfl,hp,o⟩:=g;exact CA R.toHH s hp (O9 (o.gen rfl Fr.refl λa m _=>O_ (O5 R.toHH a m.1) m.2) l) q
   .exact q.elim
  |exc c fs=>exact λq=>FA R.toHH q λu es h=>h.sub λa m _=>m.elim id λn=>R.toHH.new a n
  |wall=>exact id
 .split at q
  .rename_i r w;refine z _ _ H d r (O4 R w y) Q ?_;revert q;cases m r with
   |ok x=>
    intro q v u s g;dsimp only at q;split at q
    .rename_i j;split at q
     .rename_i c l;obtain⟨p,rfl,hp,o⟩:=g;exact CA R.toHH s hp (O9 (Fz j o) l) q
     .exact q.elim
    .exact q.elim
   |exc c fs=>
    intro q;dsimp only at q;split at q
    .rename_i j;exact FA R.toHH q λu es h=>aY j h
    .exact q.elim
   |wall=>exact id
  .exact q.elim
def zba(bs:a47)(h:FM X ⟨W,E,fr⟩ S e m)(c:S.all (·==0)=true:=by rfl):HE X W E e (hF bs m):=λd=>by obtain⟨f,g,j⟩:=h d;exact⟨f,g,za_ bs j c⟩
def uz(i:Nat):HME:=λc G=>match c[i]? with
 |some (some x)=>.ok x G
 |_=>.wall
def fV(h:PE X e (tR i)):HE X W E e (uz i):=λ_=>⟨_,h,λZ g A H l j G R Q q=>by
 unfold uz at q;split at q
 .rename_i x d;obtain⟨v,f,c⟩:=R.var i x d;exact⟨v,f,q A H R.toHH Gro.refl v c⟩
 .exact q.elim⟩
def Yt.len{W:RC}{M:a43}{A:a49}{n:Nat}{H:Hp}:∀{c:List HV}{d:a4a},Yt W M A n H c d->d.length=c.length
 |[],_,h=>by cases(show _=_ from h);rfl
 |x::c,_,h=>by obtain⟨v,r,rfl,_,f⟩:=h;rw[a0b,a0b,Yt.len f]
end
section
variable {W:RC}{M:a43}{A:a49}{n:Nat}{H:Hp}
def Yt.get:∀{a:List HV}{c:a4a}{i:Nat}{x:HV},Yt W M A n H a c->a[i]?=some x->∃v,c[i]?=some v/\QU W M A n H x v
 |[],_,_,_,_,e=>by simp at e
 |x::a,_,0,y,h,e=>by obtain⟨v,r,rfl,d,b⟩:=h;simp at e;subst e;exact⟨v,rfl,d⟩
 |x::a,_,i+1,y,h,e=>by obtain⟨v,r,rfl,d,b⟩:=h;simp only[List.getElem?_cons_succ]at e ⊢;exact Yt.get b e
variable {κ:Type}[DecidableEq κ] {R:HV->V->Prop}
def ju.len:∀{a:List (κ×HV)}{b:List (κ×V)},ju R a b->b.length=a.length
 |[],_,h=>by cases(show _=_ from h);rfl
 |_::_,_,⟨v,q,e,d,c⟩=>by subst e;rw[a0b,a0b,ju.len c]
def ju.lookup:∀{a:List (Str×HV)}{b:a4o}{f:Str}{x:HV},ju R a b->a.lookup f=some x->∃v,b.lookup f=some v/\R x v
 |[],_,_,_,_,e=>by cases e
 |g::r,_,f,x,h,e=>by
  obtain⟨v,q,rfl,i,d⟩:=h;rw[a0M]at e ⊢;cases c:(f==g.1)with
  |true=>rw[c]at e;cases e;exact⟨v,rfl,i⟩
  |false=>rw[c]at e;exact ju.lookup d e
def ju.put{k:κ}{a:List (κ×HV)}{es:List (κ×V)}(h:ju R a es)(i:R x v):ju R (dput a k x) (putK es k v):=by
 have d:∀{a:List (κ×HV)}{es:List (κ×V)},ju R a es->a.any (λb=>decide (b.1=k))=es.any (λb=>decide (b.1=k))/\ju R (a.map λb=>if b.1=k then(b.1,x)else b) (es.map λb=>if b.1=k then(b.1,v)else b)/\ju R (a++[(k,x)]) (es++[(k,v)]):=by
  intro a
  induction a with
  |nil=>intro es h;cases(show _=_ from h);exact⟨rfl,rfl,v,[],rfl,i,rfl⟩
  |cons o a m=>
   intro es h;obtain⟨u,q,rfl,j,l⟩:=h;obtain⟨g,c,f⟩:=m l;refine⟨by rw[a1b,a1b,g],?_,⟨u,_,rfl,j,f⟩⟩;rw[a0j,a0j];by_cases e:o.1=k
   .rw[if_pos e,if_pos e];exact⟨v,_,rfl,i,c⟩
   .rw[if_neg e,if_neg e];exact⟨u,_,rfl,j,c⟩
 obtain⟨g,c,f⟩:=d h;unfold dput putK;rw[g];split
 .exact c
 .exact f
end
def Pa(cs:a39)(f:Str)(m:HME):HME:=λb G=>(m b G).bind λx a=>match x with
 |.g k=>match a[k]? with
  |some (.o c fs)=>if c∈cs then match fs.lookup f with
   |some z=>.ok z a
   |none=>.wall else .wall
  |_=>.wall
 |_=>.wall
def hsp(W:RC)(n:Nat)(f:List HV->AH->HX HV):Sp:=λb H Q E=>∃(Z:HC)(A:a49)(G:AH)(a:List HV),Z.W=W/\a.length=n/\HH Z A H G/\Yt Z.W (HM Z A G.length) A G.length H a b/\HPx Z E A G.length H (KV' Z Q) (f a G)
def L7:∀a H Q E,hsp W n f a H Q E->a.length=n:=λa H Q E ⟨Z,A,G,c,_,b,_,r,_⟩=>r.len.trans b
def Pb(h:HE X W E e m1)(g:∀c∈cs,Cls X.K (W.cls c)/\qC X.K (W.cls c) fn)(s:attributeBase e fn X.env (eval e X.env)=eval e X.env:=by rfl):HE X W E (.Attribute e fn pos) (Pa cs fn m1):=λp=>by
 obtain⟨L,l,C⟩:=h p;refine⟨_,GZ l s,λZ i A H n j G R Q q=>C Z i A H n j G R _ (HPx.bind q λx y u K f I a v m=>?_)⟩;subst i;split at a
 .rename_i k;obtain⟨J,rfl⟩:=m;split at a
  .rename_i c fs F;obtain⟨D,B,hp,r⟩:=f.cell k _ F;split at a
   .rename_i b;split at a
    .rename_i z hz;obtain⟨w,o,d⟩:=r.lookup hz;exact⟨_,_,D,B,w,rfl,hp,(g c b).1,(g c b).2,o,a y u f Gro.refl w d⟩
    .exact a.elim
   .exact a.elim
  .exact a.elim
 .exact a.elim
inductive HFw where
 |nx (ρ:az) (G:AH)|rt (x:HV) (G:AH)|bk (ρ:az) (G:AH)|ct (ρ:az) (G:AH)|exc (c:Nat) (fs:a4m) (G:AH)|wall
abbrev HMS:=az->AH->HFw
def HPs(Z:HC)(E:XK)(A:a49)(n:Nat)(H:Hp)(D:Ends):HFw->Prop
 |.nx f d=>∀e b a,HR Z e b a f d->Gro Z A n H e d.length b->D.nx a b
 |.rt x d=>∀e b v,HH Z e b d->Gro Z A n H e d.length b->QU Z.W (HM Z e d.length) e d.length b x v->D.rt v b
 |.bk f d=>∀e b a,HR Z e b a f d->Gro Z A n H e d.length b->D.bk a b
 |.ct f d=>∀e b a,HR Z e b a f d->Gro Z A n H e d.length b->D.ct a b
 |.exc c fs d=>Hw Z E A n H c fs d
 |.wall=>False
def HX.fw{b:Type}:HX b->(b->AH->HFw)->HFw
 |.ok a G,f=>f a G
 |.exc c fs G,_=>.exc c fs G
 |.wall,_=>.wall
def LHS(W:RC)(E:XK)(c:TS)(m:HMS):Prop:=∀(Z:HC),Z.W=W->∀A H b a G,HR Z A H b a G->∀D,HPs Z E A G.length H D (m a G)->c D b H
def HS(X:Cx)(W:RC)(E:XK)(st:a4z)(m:HMS):Prop:=X.K=W.K->∃a,PS X st a/\LHS W E a m
def HSs(X:Cx)(W:RC)(E:XK)(st:a4r)(m:HMS):Prop:=X.K=W.K->∃a,PSs X st a/\LHS W E a m
section
variable {α:Type}{K':α->(Nat->Addr)->Hp->AH->Prop}
def HPs.gro(h:HPs Z E A n H D o)(g:Gro Z A n H A' n' H'):HPs Z E A' n' H' D o:=by
 cases o with
 |nx f G=>exact λe d a r b=>h e d a r (g.trans b)
 |rt x G=>exact λe d v r b=>h e d v r (g.trans b)
 |bk f G=>exact λe d a r b=>h e d a r (g.trans b)
 |ct f G=>exact λe d a r b=>h e d a r (g.trans b)
 |exc c fs G=>exact Hw.gro h g
 |wall=>exact h
def HPs.bind{o:HX α}{f:α->AH->HFw}(h:HPs Z E A n H D (o.fw f))(k:∀x d b a,HH Z d b a->Gro Z A n H d a.length b->HPs Z E d a.length b D (f x a)->K' x d b a):HPx Z E A n H K' o:=by
 cases o with
 |ok x a=>exact λj g i e=>k x j g a i e (HPs.gro (o:=f x a) h e)
 |exc c fs a=>exact h
 |wall=>exact h
end
def Ez(a b:HMS):HMS:=λf G=>match a f G with
 |.nx d e=>b d e
 |.rt x e=>.rt x e
 |.bk d e=>.bk d e
 |.ct d e=>.ct d e
 |.exc c fs e=>.exc c fs e
 |.wall=>.wall
def Af(m:HME):HMS:=λa G=>(m a G).fw λ_ b=>.nx a b
section
variable {X:Cx}{W:RC}{E:XK}{e a o:a45}{es:a44}{pos pos':Pos}{m m1 m2:HME}{s1 s2:HMS}{x:Str}{st:a4z}{sts:a4r}
def Pc(s:LHS W E t s1)(n:LHS W E u s2):LHS W E (Sl t u) (Ez s1 s2):=λZ l A H r j G R D q=>by
 refine s Z l A H r j G R _ ?_;unfold Ez at q;revert q;cases s1 j G with
 |nx d f=>exact λq y v h w g=>n Z l y v h d f w D (HPs.gro (o:=s2 d f) q g)
 |rt x f=>exact id
 |bk d f=>exact id
 |ct d f=>exact id
 |exc c fs f=>exact id
 |wall=>exact id
def WZ(l:HS X W E st s1)(g:HSs X W E sts s2):HSs X W E (st::sts) (Ez s1 s2):=λc=>by obtain⟨t,h,j⟩:=l c;obtain⟨u,d,f⟩:=g c;exact⟨_,aV h d,Pc j f⟩
def CB(g:HS X W E st s1):HSs X W E [st] s1:=λc=>by obtain⟨t,f,d⟩:=g c;exact⟨_,j_ f,d⟩
def CC(h:HE X W E e m)(n:swapsWith e none pos.line X.env=pure false:=by rfl):HS X W E (.Expr e pos) (Af m):=λl=>by obtain⟨C,g,u⟩:=h l;exact⟨_,gZ g n,λZ y A H c f G R D q=>u Z y A H c f G R _ (HPs.bind q λx s r B j d w v z=>w s r c (R.gro j d) Gro.refl)⟩
def zau{Z:HC}{A:a49}{H:Hp}{G:AH}{σ:St}{ρ:az}{D:Ends}{k:Nat}{c:Cell}{o f:HO}(R:HR Z A H σ ρ G)(h:k<G.length)(d:H (A k)=some f)(j:¬Imm f)(l:rJ Z.W (HM Z A G.length) A G.length (upd H (A k) o) (A k) c)(q:HPs Z E A G.length H D (.nx ρ (G.set k c))):D.nx σ (upd H (A k) o):=by
 have g:Gro Z A G.length H A (G.set k c).length (upd H (A k) o):=by rw[a0V];exact R.toHH.frw h d j
 exact q A _ σ (R.gro (R.toHH.write h d j l) g) g
def Pd(l mk j:HME):HMS:=λd G=>(j d G).fw λy g=>(l d g).fw λx h=>(mk d h).fw λz f=>match x,z with
 |.g k,.v z=>match f[k]?,pk z with
  |some (.d c),some q=>if c.length<sizeLine then .nx d (f.set k (.d (dput c q y)))else .wall
  |_,_=>.wall
 |_,_=>.wall
def Pe(hu:X.A.units+1<cLine)(M:HE X W E o m)(j:HE X W E a m1)(hv:HE X W E e m2)(hs:swapsWith e (some (.Subscript o a pos')) pos.line X.env=pure false:=by rfl):
  HS X W E (.Assign [.Subscript o a pos'] e pos) (Pd m m1 m2):=λC=>by
 obtain⟨to,o1,S⟩:=M C;obtain⟨ta,P,a2⟩:=j C;obtain⟨tv,b1,L⟩:=hv C;refine⟨_,p6 hu o1 P b1 hs,λZ F A H n l G R D q=>L Z F A H n l G R _ (HPs.bind q λy A1 H1 G1 T K q1 v ry=>?_)⟩;have I:=R.gro T K;refine S Z F A1 H1 n l G1 I _ (HPs.bind q1 λx Y H2 G2 N J O w Q=>?_);have R2:=I.gro N J;refine a2 Z F Y H2 n l G2 R2 _ (HPs.bind O λz A3 H3 G3 s g d u rz=>?_);split at d
 .rename_i k z;obtain⟨j,rfl⟩:=Q;split at d
  .rename_i B q hc U;split at d
   .rename_i hl;obtain⟨es,hp,r⟩:=s.cell k _ hc;have f:k<G3.length:=a0u j g.le;have g4:=s.frw (o:=.dK (putK es q v)) f hp id;rw[<- g.agr k j];refine⟨_,_,rfl,by rw[ik (qu.iff.mpr (show Rep Z.W _ H3 z u from rz)) U];exact EL.k hp (by rw[r.len];exact hl),zau (c:=.d (dput B q y)) (R2.gro s g) f hp id ⟨_,zl,?_⟩ d⟩;exact(r.put ((ry.gro J).gro g)).imp λ_ _ h=>h.gro g4
   .exact d.elim
  .exact d.elim
 .exact d.elim
end
abbrev HMG:=HV->az->Option az
def HG(X:Cx)(W:RC)(e:a45)(f:HMG):Prop:=X.K=W.K->∃g,PG X e g/\∀(Z:HC),Z.W=W->∀A H d c G x v,HR Z A H d c G->QU Z.W (HM Z A G.length) A G.length H x v->∀Q:St->Hp->Prop,(∃b,f x c=some b/\∀a,HR Z A H a b G->Q a H)->g v d H Q
abbrev zbb:=List HV->az->Option az
def hgN(i:Nat):HMG:=λx a=>some (a.set i (some x))
def L8(c:X.N.Nodup)(b:X.N[i]?=some x)(d:Loc X.env.scope x)(hf:X.fn x=true\/X.env.scope.names.lookup x=some .local:=by first|exact .inl rfl|exact .inr rfl|assumption):HG X W (.Name x pos) (hgN i):=
 λ_=>⟨_,A9 c b d hf,λZ f A H h g G x v R r Q ⟨a,e,k⟩=>by cases e;exact k _ (R.set r)⟩
def AY(g:HMG)(b:HMS):List HV->az->AH->HFw
 |[],e,G=>.nx e G
 |x::h,e,G=>match g x e with
  |none=>.wall
  |some f=>match b f G with
   |.nx a d=>AY g b h a d
   |.ct a d=>AY g b h a d
   |.bk a d=>.nx a d
   |.rt v d=>.rt v d
   |.exc c fs d=>.exc c fs d
   |.wall=>.wall
def isZ:Cell->Bool
 |.z _=>true
 |.w _=>true
 |_=>false
def FC(A:a49)(G:AH)(a:Addr):Prop:=∃k c,G[k]?=some c/\isZ c=false/\A k=a
section
variable {W:RC}{E:XK}{Z:HC}{A A':a49}{H H':Hp}{G G':AH}{σ:St}{ρ:az}{D:Ends}
def rJ.live{M:a43}{n:Nat}{p:Addr}:∀{c:Cell},rJ W M A n H p c->isZ c=false->∃o,H p=Option.some o/\¬Imm o
 |.l _,⟨_,e,_⟩,_=>⟨_,e,id⟩
 |.d _,⟨_,e,_⟩,_=>⟨_,e,id⟩
 |.z _,_,h=>by cases h
 |.o _ _,⟨_,_,e,_⟩,_=>⟨_,e,id⟩
 |.y _,⟨_,_,e,_⟩,_=>⟨_,e,id⟩
 |.m _ _ _,⟨_,_,e,_⟩,_=>⟨_,e,id⟩
 |.u _,⟨_,e,_⟩,_=>⟨_,e,id⟩
 |.w _,_,h=>by cases h
def rJ.zed{M:a43}{n:Nat}{p:Addr}:∀{c:Cell},rJ W M A n H p c->isZ c=true->∃o,H p=Option.some o/\Imm o
 |.l _,_,h=>by cases h
 |.d _,_,h=>by cases h
 |.z _,⟨_,_,e,_⟩,_=>⟨_,e,trivial⟩
 |.o _ _,_,h=>by cases h
 |.y _,_,h=>by cases h
 |.m _ _ _,_,h=>by cases h
 |.u _,_,h=>by cases h
 |.w _,e,_=>⟨_,e,trivial⟩
def Gro.rest(h:HH Z A H G)(h':HH Z A' H' G')(g:Gro Z A G.length H A' G'.length H'):Fr (λa=>¬FC A G a) H H':=λa o e m=>by
 rcases m with m|m
 .by_cases d:∃k,k<G.length/\A k=a
  .obtain⟨k,b,rfl⟩:=d;have f:=a0n b;have hz:isZ G[k]=true:=by
    cases z:isZ G[k]with
    |true=>rfl
    |false=>exact absurd ⟨k,_,f,z,rfl⟩ m
   obtain⟨j,c,i⟩:=(h.cell k _ f).zed hz;rw[c]at e;cases e;exact g.fr _ _ c (.inr i)
  .cases q:Z.H0 a with
   |none=>exact g.fr a o e (.inl ⟨.inr q,λk b z=>d ⟨k,b,z⟩⟩)
   |some u=>have:=h.same a u q;rw[e]at this;cases this;exact h'.same a _ q
 .exact g.fr a o e (.inr m)
open Classical in
def bsH(Z:HC)(A:a49)(H:Hp)(G:AH):Bs:=⟨λa=>if FC A G a then none else H a,HM Z A G.length,λ_=>False,λ_ h=>h.elim,none,FC A G⟩
def Tg(R:HR Z A H σ ρ G)(e:fU bs ρ=some r)(g:S.all (·==0)=true):Rel Z.W (bsH Z A H G) S (λ_=>0) H σ r:=by
 have d:∀{k:Nat},S[k]?=some 2->False:=λ{k} h=>by have:=O1 g h;omega
 have w:∀{k:Nat},S[k]?=some 1->False:=λ{k} h=>by have:=O1 g h;omega
 refine⟨λa o h=>?_,R.len.trans (WY e).symm,λi x u=>?_,λi b=>(d b).elim,λi j b=>(d b).elim,λb=>(d b).elim,λa h=>?_,λi b=>(d b).elim⟩
 .unfold bsH at h;dsimp only at h;split at h
  .cases h
  .exact h
 .obtain⟨v,p,n⟩:=R.var i _ (WX e u);refine⟨v,p,λz=>(d z).elim,λz=>(w z).elim,λ_ _=>(show Rep Z.W _ H x v from n).sub λa m _=>⟨⟨.inl m,λ⟨k,c,f,_,s⟩=>m.2 k (a0v.mp f).1 s⟩,λi b=>(d b).elim⟩⟩
 .obtain⟨k,c,f,hz,rfl⟩:=h;obtain⟨o,l,q⟩:=(R.toHH.cell k c f).live hz;exact⟨o,l,q,by unfold bsH;dsimp only;rw[if_pos ⟨k,c,f,hz,rfl⟩]⟩
def FD(T:Z.W=W)
  (hi:∀R:It->Hp->Prop,(∀J w,zH H w->LJ Z.W (HM Z A G.length) (λa=>¬FC A G a) w J xs->R J w)->wi σ H R)
  (hg:∀(Z:HC),Z.W=W->∀A H σ ρ G x v,HR Z A H σ ρ G->QU Z.W (HM Z A G.length) A G.length H x v->∀Q:St->Hp->Prop,(∃b,mg x ρ=some b/\∀d,HR Z A H d b G->Q d H)->g v σ H Q) (hb:LHS W E tb mb) (R:HR Z A H σ ρ G) (q:HPs Z E A G.length H D (AY mg mb (xs.map .v) ρ G)):RM wi g tb D σ H:=by
 refine hi _ λJ w P io=>?_;have R2:=R.keep P;have U:=HPs.gro q (Gro.same P);refine⟨λi n d H'=>n=xs.length-i/\i<=xs.length/\∃b A' G',HR Z A' H' d b G'/\Gro Z A G.length w A' G'.length H'/\HPs Z E A' G'.length H' D (AY mg mb ((xs.drop i).map .v) b G'),⟨_,rfl,a0Y _,ρ,A,G,R2,Gro.refl,U⟩,?_⟩
 rintro i n d H' ⟨rfl,hle,b,A',G',L,S,l⟩
 have B:=io H' (Gro.rest R2.toHH L.toHH S);by_cases r:i<xs.length
 .have hx:xs[i]?=some xs[i]:=a0n r;obtain⟨go,yl⟩:=B.1 i _ hx;refine .inr ⟨go,λz p=>i+1<=xs.length/\∃b A' G',HR Z A' p z b G'/\Gro Z A G.length w A' G'.length p/\HPs Z E A' G'.length p D (AY mg mb ((xs.drop (i+1)).map .v) b G'),λz p h=>⟨xs.length-(i+1),by omega,rfl,h.1,h.2⟩,λv j hy=>?_⟩;obtain⟨M,ry⟩:=yl v j hy;have Ry:=L.keep M;have I:Gro Z A G.length w A' G'.length j:=S.trans (Gro.same M);have Y:Rep Z.W (HM Z A' G'.length) j xs[i] v:=ry _ λa m hn=>I.sM a m hn;rw[a2c r,a0j]at l;unfold AY at l;split at l
  .exact l.elim
  .rename_i u O;refine hg Z T A' j d b G' _ v Ry (show QU Z.W _ _ _ j (.v xs[i]) v from Y) _ ⟨u,O,λC R1=>hb Z T A' j C u G' R1 _ ?_⟩;have l:=HPs.gro l (Gro.same M);revert l;cases mb u G' with
   |wall=>exact id
   |exc c fs s=>exact id
   |nx f s=>exact λl K H3 F N y=>⟨r,f,K,s,N,I.trans y,HPs.gro (o:=AY mg mb ((xs.drop (i+1)).map .v) f s) l y⟩
   |ct f s=>exact λl K H3 F N y=>⟨r,f,K,s,N,I.trans y,HPs.gro (o:=AY mg mb ((xs.drop (i+1)).map .v) f s) l y⟩
   |bk f s=>exact id
   |rt x s=>exact id
 .have e:i=xs.length:=by omega
  subst e;rw[a27]at l;exact .inl ⟨B.2,l A' H' d L Gro.refl⟩
end
def L9(bs:a47)(mi:MI)(g:HMG)(b:HMS):HMS:=λa G=>match fU bs a with
 |some r=>match mi r with
  |.ok c=>AY g b (c.map .v) a G
  |_=>.wall
 |none=>.wall
section
variable {X:Cx}{W:RC}{E:XK}{fr:Bool}{S:a39}{tg jI:a45}{body:a4r}{mi:MI}{mg:HMG}{mb:HMS}{pos:Pos}
def L_(bs:a47)(hp:PassesOwn (a4R X) X.A X.env X.xe)(L:X.calm=true)(C:IM X ⟨W,E,fr⟩ S false tg jI mi)(M:HG X W tg mg)(Q:HSs X W E body mb)(l:S.all (·==0)=true:=by rfl)(P:∀x,foldedSetIterable jI X.env x=pure x:=by intro _;rfl):
  HS X W E (.For tg jI body [] pos) (L9 bs mi mg mb):=λe=>by
 obtain⟨wi,u,U⟩:=C e;obtain⟨g,B,p⟩:=M e;obtain⟨tb,c1,F⟩:=Q e;refine⟨_,GW hp L u B c1 P,λZ hZ A H w ρ G R D q=>?_⟩;unfold L9 at q;split at q
 .rename_i r hr;split at q
  .rename_i xs d;subst hZ;refine FD rfl (λI k=>?_) p F R q;refine U _ _ H w r (Tg R hr l) I ?_;rw[d];intro J Y s K;refine k J Y s λy f=>?_;have n2:∀{k:Nat},S[k]?=some 2->False:=λ{k} h=>by have:=O1 l h;omega
   obtain⟨j,O⟩:=K y λa o h m=>f a o h (m.imp (λm z=>m.1 z) id);refine⟨λi x d=>⟨(j i x d).1,λv c n=>⟨((j i x d).2 v c n).1,λN sM=>((j i x d).2 v c n).2 N λa m hn=>sM a ?_ hn⟩⟩,O⟩;have b:HM Z A G.length a\/(bsH Z A H G).H0 a=none:=m.1.1;rcases b with b|b
   .exact b
   .unfold bsH at b;dsimp only at b;split at b
    .rename_i T;exact absurd T m.1.2
    .exact R.toHH.new a b
  .exact q.elim
 .exact q.elim
end
def hB(p:a4c)(ms:az->AH->HX (List HV)):HME:=λρ G=>(ms ρ G).bind λxs G1=>match Nv (Kr G1 8) xs with
 |some ys=>match p ys with
  |.ok z=>if imm z=true then .ok (.v z) G1 else .wall
  |_=>.wall
 |none=>.wall
def Th(n:Nat)(ms:HMS)(xs:List HV)(G:AH):HX HV:=match ms (xs.map some++List.replicate (n-xs.length) none) G with
 |.nx _ a=>.ok (.v .n) a
 |.rt x a=>.ok x a
 |.exc c fs a=>.exc c fs a
 |_=>.wall
def Ag{xs:List HV}{n k:Nat}{x:HV}(h:(xs.map some++List.replicate (n-xs.length) none)[k]?=some (some x)):xs[k]?=some x:=by
 rw[a2E]at h;split at h
 .rw[a0D]at h;obtain⟨y,a,e⟩:=a0c.mp h;cases e;exact a
 .rw[a1L]at h;split at h<;>cases h
def FE(h:HH Z A H G)(r:Yt Z.W (HM Z A G.length) A G.length H xs vs):HR Z A H (start N vs) (xs.map some++List.replicate (N.length-xs.length) none) G:=by
 refine⟨h,?_,λi x e=>?_⟩
 .unfold start;rw[a0g,a0g,v4,v4,a1C,a1C,r.len]
 .obtain⟨v,a,b⟩:=r.get (Ag e);have c:i<vs.length:=(a0v.mp a).1;refine⟨v,?_,b⟩;unfold start;rw[a09 (by rw[v4];exact c),a0D,a];rfl
section
variable {P:a4b}{w:a4e}{K:a4p}{mg:a37}{base:Heap}
def Pf{x b:Str}{st:a4z}{f:Addr}{p:a4j}{N j:a40}{k n l:Nat}{W:RC}{ms:HMS}(F:Fun K x b st f p)(S:zo N j (zg st))(B:K=W.K)(u:j.length=l)(X:N.length=n)
  (h:∀(d:Value)(A:a4i)(a:List Env)(s:a42)(H:Hp)(E:XK),v8 k (A.deeper (envOfC b (zg st) s.heap.objs.size f d))->HSs (thr (xR (CXe P w) P w K mg base N b (zg st) f d A a s H E) E) W E (YI st) ms):
  yF P w K mg base (CXe P w) (k+1) f p j (hsp W l (Th n ms)):=by
 subst X u;refine F.okX S L7 λd A a s H Y Q E T ⟨Z,O,G,z,U,u,J,r,q⟩=>?_;obtain⟨M,D,I⟩:=h d A a s H E T B;refine⟨M,D,I Z U O H _ _ G (FE J r) _ ?_⟩;unfold Th at q;revert q;cases ms (z.map some++List.replicate (N.length-z.length) none) G with
 |exc c fs g=>exact id
 |wall=>exact id
 |nx e g=>exact λq i o L R2 m=>q i o R2.toHH m .non rfl
 |rt y g=>exact λq i o v C m R=>q i o C m v R
 |bk e g=>exact λq=>q.elim
 |ct e g=>exact λq=>q.elim
end
def pD1(x:PV):PV->Out PV
 |.i n=>match pk x with|some k=>.ok (.d [(k,.i n)])|none=>.wall
 |_=>.wall
def mD1(mk b:ME):ME:=λa=>(mk a).bind λx=>(b a).bind λy=>pD1 x y
def Ti(G:EM X C S w1 a m1)(E:EM X C S w2 b m2):FM X C S (.Dict [some a] [b] pos) (mD1 m1 m2):=λw=>by
 obtain⟨M,F,L⟩:=G w;obtain⟨T,I,D⟩:=E w;refine⟨_,Lc (ET F I La) rfl rfl (by intro h;cases h) (show 1<=15 by decide),λB P H g d R Q q=>λp hp=>?_⟩;have e:zH H (upd H p (.dK [])):=zH.upd hp;unfold mD1 at q;show M g _ _;refine L B P _ g d (R.keep e) _ ?_;cases s:m1 d with
 |exc c fs=>rw[s]at q;exact q
 |wall=>rw[s]at q;exact q
 |ok x=>
  rw[s]at q;intro v U f K;refine D B P _ g d (R.keep (e.trans f)) _ ?_;cases r:m2 d with
  |exc c fs=>have q:yj C B H _ Q ((m2 d).bind _):=q;rw[r]at q;exact q
  |wall=>have q:yj C B H _ Q ((m2 d).bind _):=q;rw[r]at q;exact q
  |ok y=>
   have q:yj C B H _ Q ((m2 d).bind _):=q;rw[r]at q;intro u N A J;have q:yj C B H _ Q (pD1 x y):=q;cases y with
   |i n=>
    cases l:pk x with
    |none=>have q:yj C B H _ Q (match pk x with|some k=>.ok (.d [(k,.i n)])|none=>.wall):=q;rw[l]at q;exact q.elim
    |some k=>
    have q:yj C B H _ Q (match pk x with|some k=>.ok (.d [(k,.i n)])|none=>.wall):=q;rw[l]at q;have ev:=ik (K.weak) l;have O:u=.int n:=J.weak;subst ev O;have j:N p=some (.dK []):=(f.trans A) _ _ zl;refine⟨j,[(k,.int n)],rfl,by show 1<=15;decide,q _ _ (λc o m=>?_) ⟨p,rfl,hp,[(k,.int n)],zl,⟨_,_,rfl,rfl,rfl⟩⟩⟩;have:c≠p:=λz=>by rw[z,hp]at m;cases m
    rw[zm this];exact(e.trans (f.trans A)) _ _ m
   |_=>exact(show False from q).elim
def signsOf:PV->Out (List PV)
 |.s z=>.ok (z.cps.toList.map λc=>.s ⟨#[c]⟩)
 |_=>.wall
def nv(m:ME):MI:=λa=>(m a).bind signsOf
def Pg:LJ W M N H2 (Its z) (z.cps.toList.map λc=>PV.s ⟨#[c]⟩):=λj f=>by refine⟨λi x d=>?_,by rw[v4];exact a2A a1J.symm⟩;rw[a0D]at d;obtain⟨c,b,rfl⟩:=a0c.mp d;rw[Array.getElem?_toList]at b;refine⟨(a16.mp b).1,λv e g=>?_⟩;obtain⟨rfl,h,a,rfl⟩:=g;rw[b]at a;cases a;exact⟨zH.refl _,λ_ _=>rfl⟩
def AZ:List PV->Option (List Str)
 |[]=>some []
 |.s z::a=>(AZ a).map (z::·)
 |_::_=>none
def Ma:∀{b:a4a}{a:a40},yr W M H c b->AZ c=some a->b=a.map V.str:=by
 induction c with
 |nil=>intro b a r e;cases e;unfold yr at r;exact r
 |cons x c f=>
  intro b a r e;unfold yr at r;obtain⟨v,q,rfl,d,g⟩:=r;cases x with
  |s z=>obtain⟨i,h,rfl⟩:=a0c.mp (show(AZ c).map (z::·)=some a from e);unfold Rep at d;rw[f g h,d];rfl
  |_=>cases(show(none:Option (List Str))=some a from e)
theorem iE:∀{a:a40},AZ (a.map .s)=some a
 |[]=>rfl
 |y::a=>by show(AZ (a.map .s)).map _=_;rw[iE];rfl
def iF(a:Str):PV->Out PV
 |.l c=>match AZ c with
  |some b=>if(b.map (·.length)).sum+b.length*a.length<=16777216 then .ok (.s (Txt.join a b))else .wall
  |none=>.wall
 |_=>.wall
def RY(g:Str->PV->Out PV)(c b:ME):ME:=λa=>(c a).bind λx=>match x with
 |.s z=>(b a).bind (g z)
 |_=>.wall
def CD(y:EM X C S w1 o m1)(G:EM X C S w2 e m2)(I:attributeBase o "join" X.env (eval o X.env)=eval o X.env:=by rfl)
  (K:((backTo Ze (starEach [e] X.env)).all (λx=>!x.1)&&(backToKw Ze (keywordEach [] X.env)).all (λx=>x.1.isSome)
   && decide (([e]:List Expr).length+([]:List Keyword).length+(if([]:List Keyword).isEmpty then 0 else 1)<30))=true:=by rfl)
  (T:(jH.endLine==Ze.line)=true:=by rfl) (n:starEach [e] X.env=[(false,eval e X.env)]:=by rfl):EM X C S false (.Call (.Attribute o "join" jH) [e] [] Ze) (RY iF m1 m2):=λm=>by
 obtain⟨U,A,O⟩:=y m;obtain⟨te,E,w⟩:=G m;refine⟨_,IY PySem.F.plainAttrs_str PySem.F.slot_str_join PySem.F.type_str_join Lj A (QW E fK (by rw[n];rfl)) I K T (by rw[n];rfl) rfl,λB P H j g R Q q=>O B P H j g R _ (z7 q λx v L D J r=>?_)⟩;cases x with
 |s z=>
  have ev:v=V.str z:=J.weak;subst ev;refine⟨rfl,w B P L j g (R.keep D) _ (z7 (o:=m2 g) (f:=iF z) r λx u Z W F a=>?_)⟩;cases x with
  |l c=>
   obtain⟨p,Y,rfl,_,N,M⟩:=F.weak;cases d:AZ c with
   |none=>
    have e:iF z (.l c)=.wall:=by show(match AZ c with|some b=>_|none=>_)=_;rw[d]
    rw[e]at a;exact a.elim
   |some b=>
    have i:=Ma M d;subst i;by_cases h:(b.map (·.length)).sum+b.length*z.length<=16777216
    .have e:iF z (.l c)=.ok (.s (Txt.join z b)):=by show(match AZ c with|some b=>_|none=>_)=_;rw[d];exact if_pos h
     rw[e]at a;exact⟨z,p,b,rfl,rfl,SqL.of N,h,a _ _ (zH.refl _) (RV.of rfl)⟩
    .have e:iF z (.l c)=.wall:=by show(match AZ c with|some b=>_|none=>_)=_;rw[d];exact if_neg h
     rw[e]at a;exact a.elim
  |_=>exact a.elim
 |_=>exact r.elim
def Ph(h:EM X C S w e m):IM X C S cc (.Name y py) e (nv m):=λd=>by
 obtain⟨j,f,i⟩:=h d;refine⟨_,Oq f,λB P H g a R Q q=>i B P H g a R _ ?_⟩;unfold nv at q;revert q;cases m a with
 |exc c fs=>exact id
 |wall=>exact id
 |ok x=>
  intro q v b s r;cases x with
  |s z=>have ev:v=V.str z:=r.weak;exact⟨z,ev,q _ b s Pg⟩
  |_=>exact(show False from q).elim
def Mb(kvs:a4l)(y:PV):Out PV:=match pk y with
 |some k=>.ok ((z5 kvs k).getD .n)
 |none=>.wall
def RZ(d c:ME):ME:=λb=>(d b).bind λx=>match x with
 |.d a=>(c b).bind (Mb a)
 |_=>.wall
def Pj(L:X.A.units+1<cLine)(I:EM X C S w1 o m1)(E:EM X C S w2 e m2)(m:M1 X o "get" jH e Ze):EM X C S false (.Call (.Attribute o "get" jH) [e] [] Ze) (RZ m1 m2):=λs=>by
 obtain⟨Y,F,O⟩:=I s;obtain⟨W,J,D⟩:=E s;refine⟨_,EU L F J m,λB P H r h R Q q=>O B P H r h R _ (z7 q λx v N G M A=>?_)⟩;cases x with
 |d a=>
  obtain⟨p,g,rfl,_,w,rk⟩:=M.weak;refine⟨p,rfl,.inl ⟨g,w⟩,D B P N r h (R.keep G) _ (z7 (o:=m2 h) (f:=Mb a) A λy u n l K b=>?_)⟩;cases j:pk y with
  |none=>
   have e:Mb a y=.wall:=by unfold Mb;rw[j]
   rw[e]at b;exact b.elim
  |some k=>
   have e:Mb a y=.ok ((z5 a k).getD .n):=by unfold Mb;rw[j]
   rw[e]at b;have U:=ik K.weak j;subst U;have i:Rd n p (.dK g):=w.elim (λz=>.inl (l _ _ z)) λ⟨o,z⟩=>.inr ⟨o,l _ _ z⟩;refine⟨dR g k,.inl ⟨g,k,i,rfl,rfl⟩,?_⟩;cases c:z5 a k with
   |none=>rw[c]at b;rw[rk.RS c];exact b _ n (zH.refl _) (RV.of rfl)
   |some x=>rw[c]at b;obtain⟨v,ev,T⟩:=rk.get c;rw[ev];exact b _ n (zH.refl _) (RV.of (T.same l))
 |_=>exact A.elim
def pk2:List PV->Option (List Key)
 |[x,y]=>(pk x).bind λa=>(pk y).bind λb=>some [a,b]
 |_=>none
def bT(s:zH H H')(h:Rd H p u):Rd H' p u:=(zH.fr (M:=λ_=>True) s).rd h trivial
theorem iG{k:a4y}:∀{kvs:a4C},dR (dtV kvs) k=(z5 kvs k).map V.int
 |[]=>rfl
 |q::r=>by
  unfold dtV dR z5;rw[a0j,a2b,a2b];by_cases c:q.1=k
  .simp only[c,decide_true];rfl
  .simp only[c,decide_false];exact iG (kvs:=r)
def Mc:putK (dtV a) k (.int n)=dtV (dput a k n):=by
 have e:∀{a:a4C},(dtV a).any (λb=>decide (b.1=k))=a.any (λb=>decide (b.1=k))/\(dtV a).map (λb=>if b.1=k then(b.1,V.int n)else b)=dtV (a.map λb=>if b.1=k then(b.1,n)else b):=λ{a}=>by
  induction a with
  |nil=>exact⟨rfl,rfl⟩
  |cons q r d=>
   unfold dtV at d ⊢;refine⟨by rw[a0j,a1b,a1b,d.1],?_⟩;rw[a0j,a0j,a0j,a0j,d.2];by_cases c:q.1=k
   .rw[if_pos c,if_pos c]
   .rw[if_neg c,if_neg c]
 unfold putK dput;rw[e.1];split
 .exact e.2
 .unfold dtV;rw[a0z];rfl
section
variable {X:Cx}{C:LC}{S Sb Sc:a39}{e a b o:a45}{es:a44}{w1 w2:Bool}{ws:a47}{m m1 m2:ME}{ms:MA}{pos p pos':Pos}{i x1:Nat}
def RVs.R4(h:RVs C B S P H ws xs vs)(c:pk2 xs=some ks):vs=ks.map kV/\vs.length<=sizeLine:=by
 have h:=h.weak
 match xs,c with
 |[x,y],c=>obtain⟨n,g,c⟩:=a0B.mp c;obtain⟨q,f,c⟩:=a0B.mp c;cases c;obtain⟨v,r,rfl,l,u,j,rfl,d,e⟩:=h;cases(show j=[]from e);rw[ik l g,ik d f];exact⟨rfl,by show 2<=sizeLine;decide⟩
def Hy:ME:=λ_=>.ok (.dt [])
def FF:FM X C S (.Dict [] [] pos) Hy:=λc=>⟨_,ES,λB P H f d R Q q=>λp hp=>q _ _ (zH.upd hp) ⟨p,rfl,hp,zl⟩⟩
def zav(x:PV)(xs:a4h):Out PV:=match x,pk2 xs with
 |.dt c,some d=>j8 ((z5 c d).map PV.i)
 |_,_=>.wall
def ny(m:ME)(ms:MA):ME:=λc=>(m c).bind λx=>(ms c).bind λd=>zav x d
def bU(E:X.A.units+1<cLine)(u:EM X C S w1 a m1)(j:AM X C S ws es ms)(I:g9 (.Tuple es x1 p):=by intro _ _;rfl):EM X C S false (.Subscript a (.Tuple es x1 p) pos) (ny m1 ms):=λg=>by
 obtain⟨ta,l,O⟩:=u g;obtain⟨Y,A,h⟩:=j g;refine⟨_,NZ (BQ E) l (fL A) I,λB P H f d R Q q=>O B P H f d R _ (z7 q λx v K r G T=>h B P K f d (R.keep r) _ (qe T λxs Z H2 L D c=>?_))⟩;unfold zav at c;split at c
 .rename_i F ks N;obtain⟨y,s,J⟩:=yW c;obtain⟨n,U,rfl⟩:=a0c.mp s;obtain⟨rfl,M⟩:=D.R4 N;obtain⟨p,rfl,_,W⟩:=G.weak;refine⟨M,λz hz=>⟨p,.int n,rfl,.inr ⟨_,_,z,bT (zH.upd hz) (bT L W),rfl,zl,by rw[iG,U];rfl⟩,J _ _ (zH.upd hz) (RV.of rfl)⟩⟩
 .exact c.elim
def inT(d:Bool)(ks:a4y):PV->Out PV
 |.dt c=>.ok (.b (xor d (z5 c ks).isSome))
 |_=>.wall
def CF(c:Bool)(ms:MA)(m:ME):ME:=λd=>(ms d).bind λf=>match pk2 f with
 |some g=>(m d).bind (inT c g)
 |none=>.wall
def Hz(h:LA C S ws ta ms)(l:LE C S w1 tb m1):LE C S false (tOp (RU C.W.K neg) (zag ta) tb) (CF neg ms m1):=λB P H g f R Q q=>h B P H g f R _ (qe q λI E D j r d=>by
 split at d
 .rename_i F x;obtain⟨rfl,v⟩:=r.R4 x;refine⟨v,λz hz=>l B P _ g f ((R.keep j).keep (zH.upd hz)) _ (z7 (Yp d (zH.upd hz)) λy u G s n c=>?_)⟩;unfold inT at c;split at c
  .obtain⟨p,rfl,_,A⟩:=n.weak;exact .inr ⟨p,_,rfl,.inr ⟨_,_,z,A,rfl,s _ _ zl,rfl⟩,by rw[iG,a1S];exact c _ _ (zH.refl _) (RV.of rfl)⟩
  .exact c.elim
 .exact d.elim)
def CG(g:X.A.units+1<cLine)(q:AM X C S ws es ms)(j:EM X C S w2 b m2)(h:behindInMarks .In b=false:=by with_unfolding_all rfl):TM X C S (.Compare (.Tuple es x1 p) [.In] [b] pos) (z9 (CF false ms m2)):=λc=>by obtain⟨s,l,n⟩:=q c;obtain⟨r,d,f⟩:=j c;exact⟨_,pV (BW g) (fL l) d h,bx (by rw[c];exact Hz n f)⟩
def CJ(g:X.A.units+1<cLine)(q:AM X C S ws es ms)(j:EM X C S w2 b m2)(h:behindInMarks .NotIn b=false:=by with_unfolding_all rfl):TM X C S (.Compare (.Tuple es x1 p) [.NotIn] [b] pos) (z9 (CF true ms m2)):=λc=>by obtain⟨s,l,n⟩:=q c;obtain⟨r,d,f⟩:=j c;exact⟨_,pV (m9 g) (fL l) d h,bx (by rw[c];exact Hz n f)⟩
def Tj(i:Nat)(ρ:Sto)(o:Out (List PV)):Option (Option PV)->PV->Out Fw
 |some (some (.dt c)),.i n=>o.bind λd=>match pk2 d with
  |some k=>if c.length<sizeLine then .ok (.nx (ρ.set i (some (.dt (dput c k n)))))else .wall
  |none=>.wall
 |_,_=>.wall
def nA(i:Nat)(ms:MA)(d:ME):MS:=λc=>(d c).bind λv=>Tj i c (ms c) c[i]? v
def rL(O:X.A.units+1<cLine)(K:PE X o (tR i))(x:AM X C S ws es ms)(T:EM X C S false e m2)(E:S[i]?=some 2:=by rfl)(U:swapsWith e (some (.Subscript o (.Tuple es x1 p) pos')) pos.line X.env=pure false:=by rfl):
  SM X C S S Sb Sc (.Assign [.Subscript o (.Tuple es x1 p) pos'] e pos) (nA i ms m2):=λF=>by
 obtain⟨ta,L,Y⟩:=x F;obtain⟨tv,N,J⟩:=T F;refine⟨_,p6 O K (fL L) N U,λB P H j d R D q=>J B P H j d R _ ?_⟩;unfold nA at q;revert q;cases m2 d with
 |ok y=>
  intro q v I A rv;have l:=R.keep A;have q:v_ C B S Sb Sc D (Tj i d (ms d) d[i]? y):=q;unfold Tj at q;split at q
  .rename_i f n Q q0;obtain⟨h,hp,W⟩:=l.at2 E Q;have hp:I (P i)=some (.dT (dtV f)):=hp;cases(show v=.int n from rv.weak);refine⟨_,h,Y B P I j d l _ ?_⟩;revert q;cases ms d with
   |ok z=>
    intro q u H2 g M;have R2:=l.keep g;have q:v_ C B S Sb Sc D (match pk2 z with
     |some k=>if f.length<sizeLine then .ok (.nx (d.set i (some (.dt (dput f k n)))))else .wall
     |none=>.wall):=q
    split at q
    .rename_i k x;split at q
     .rename_i hz;obtain⟨rfl,s⟩:=M.R4 x;refine⟨s,λt G=>?_⟩;have Z:=R2.keep (zH.upd (o:=.tup (k.map kV)) G);have r:=zH.upd (o:=.tup (k.map kV)) G _ _ (g _ _ hp);refine⟨_,_,rfl,EL.t r zl (by unfold dtV;rw[v4];exact hz),q P _ j (Z.wr E W h (by exact id) ?_)⟩;show upd _ _ _ _=_;rw[zl,Mc]
     .exact q.elim
    .exact q.elim
   |exc c fs=>exact id
   |wall=>exact id
  .exact q.elim
 |exc c fs=>exact id
 |wall=>exact id
end
def To{g:Type}{P:List g->Prop}{us:List g}(i:us.length=6)(h:∀a b c d e f,P [a,b,c,d,e,f]):P us:=by
 match us,i with|[a,b,c,d,e,f],_=>exact h a b c d e f
end L2
namespace L2
open PySem PySem.W PyProof.Rows
def a9{b:Type}(P:a4M)(f:a4I):KasT b->(b->Prop)->Prop
 |.ret a,Q=>Q a
 |.ask i j k,Q=>P i/\P j/\a9 P f (k (f i j)) Q
theorem Yu{c b:Type}{P:a4M}{f:a4I}{g:c->KasT b}{Q:b->Prop}:∀{t:KasT c},a9 P f t (λa=>a9 P f (g a) Q)->a9 P f (t.bind g) Q
 |.ret _,h=>h
 |.ask _ _ _,h=>⟨h.1,h.2.1,Yu h.2.2⟩
theorem qp{c:Type}{P:a4M}{f:a4I}{Q b:c->Prop}(d:∀a,Q a->b a):∀{t:KasT c},a9 P f t Q->a9 P f t b
 |.ret _,h=>d _ h
 |.ask _ _ _,h=>⟨h.1,h.2.1,qp d h.2.2⟩
theorem CK{d:Type}{P:a4M}{f:a4I}{b:Nat->Nat->(Bool->Shared->Prop)->Shared->Prop}{J:Shared->Prop}(l:∀i j C s,P i->P j->J s->(∀g,J g->C (f i j) g)->b i j C s){Q:d->Prop}{R:d->Shared->Prop}(m:∀a s,Q a->J s->R a s):∀{t:KasT d}{s:a42},J s->a9 P f t Q->t.kasWp b R s
 |.ret a,s,e,h=>m a s h e
 |.ask i j k,s,e,h=>l i j _ s h.1 h.2.1 e λg c=>CK l m c h.2.2
abbrev at0(p:a4x)(k:Nat):Nat:=p.getD k 0
def W0:at0 p k=(p[k]?).getD 0:=by
 unfold at0;by_cases h:k<p.size
 .simp[Array.getD,h]
 .simp[Array.getD,h]
def iH(a:j<=p.size)(k:Nat):at0 (kas_rev p i j) k=if i<=k/\k<j then at0 p (i+j-1-k)else at0 p k:=by rw[W0,W0,W0];unfold kas_rev;rw[getElem?_mirror_all a];split<;>rfl
def fW(a:k<p.size)(b:l<=k)(i:Nat):at0 (bubble p k (k-l)) i=if i=l then at0 p k else if l<i/\i<=k then at0 p (i-1)else at0 p i:=by
 rw[W0,W0,W0,W0,getElem?_bubble a (k-l) (by omega),show k-(k-l)=l by omega];split
 .rfl
 .split<;>rfl
section
variable {O:KeyOrd}{key:Nat->O.α}{n:Nat}
abbrev kk(key:Nat->O.α)(p:a4x)(i:Nat):O.α:=key (at0 p i)
abbrev ans(key:Nat->O.α)(i j:Nat):Bool:=O.blt (key i) (key j)
structure Pm(n:Nat)(p:a4x):Prop where
 perm:p.toList.Perm (List.range n)
 size:p.size=n
def Pm.rev(h:Pm n p):Pm n (kas_rev p i j):=⟨(a2U.mp (mirror_perm p i j _)).trans h.perm,(kas_rev_size i j).trans h.size⟩
def Pm.bub(h:Pm n p):Pm n (bubble p i j):=⟨(a2U.mp (bubble_perm p i j)).trans h.perm,(bubble_size p i j).trans h.size⟩
def Pm.lt(h:Pm n p)(b:0<n)(k:Nat):at0 p k<n:=by
 rw[W0];by_cases a:k<p.size
 .rw[getElem?_pos p k a];have:p[k]∈p.toList:=by simp
  exact a1p.mp (h.perm.mem_iff.mp this)
 .rw[getElem?_neg p k a];exact b
def Up(key:Nat->O.α)(p:a4x)(m:Nat):Prop:=∀i j,i<=j->j<m->O.kle (kk key p i) (kk key p j)
def Dn(key:Nat->O.α)(p:a4x)(m:Nat):Prop:=∀i j,i<=j->j<m->O.kle (kk key p j) (kk key p i)
theorem CL{p:a4x}(hp:Pm n p)(g:0<n):∀{f m:Nat},1<=m->m+f<=n->Up key p m->a9 (·<n) (ans key) (kas_asc p f m) λr=>m<=r/\r<=m+f/\Up key p r/\(r<m+f->O.klt (kk key p r) (kk key p (r-1)))
 |0,m,_,_,e=>⟨a0e _,a0e _,e,λh=>absurd h (by omega)⟩
 |f+1,m,w,v,e=>by
  refine⟨hp.lt g _,hp.lt g _,?_⟩;show a9 _ _ (if O.blt (kk key p m) (kk key p (m-1))=true then _ else _) _;cases q:O.blt (kk key p m) (kk key p (m-1))with
  |true=>exact⟨a0e _,by omega,e,λ_=>q⟩
  |false=>
   have o:Up key p (m+1):=λi j l u=>by
    by_cases c:j=m
    .subst c;by_cases s:i=j
     .subst s;exact O.irrefl _
     .exact a28 (e i (j-1) (by omega) (by omega)) q
    .exact e i j l (by omega)
   exact qp (λr ⟨a,b,c,d⟩=>⟨by omega,by omega,c,λh=>d (by omega)⟩) (CL hp g (f:=f) (m:=m+1) (by omega) (by omega) o)
structure Nw(key:Nat->O.α)(n:Nat)(p:a4x)(m q:Nat):Prop where
 pm:Pm n p
 dn:Dn key p m
 le:m<=n
 qm:q+1<=m
 eq:∀k,m-(q+1)<=k->k<m->kk key p k=kk key p (m-1)
def Nw.alike(h:Nw key n p m q)(k:Nat):kk key (kas_rev p (m-(q+1)) m) k=kk key p k:=by
 have e:=h.le;have d:=h.pm.size;have f:=h.qm;unfold kk;rw[iH (by omega)];split
 .rename_i c;have a:=h.eq (m-(q+1)+m-1-k) (by omega) (by omega);have b:=h.eq k c.1 c.2;exact a.trans b.symm
 .rfl
theorem rM(g:0<n):∀{f m q:Nat}{p:a4x},m+f<=n->Nw key n p m q->a9 (·<n) (ans key) (kas_desc f p m q) λr=>m<=r.2.1/\r.2.1<=m+f/\Nw key n r.1 r.2.1 r.2.2
 |0,m,q,p,_,h=>⟨a0e _,a0e _,h⟩
 |f+1,m,q,p,D,h=>by
  have B:=h.qm;refine⟨h.pm.lt g _,h.pm.lt g _,?_⟩;show a9 _ _ (if O.blt (kk key p m) (kk key p (m-1))=true then _ else _) _;have l:∀{d:a4x},(∀k,kk key d k=kk key p k)->O.kle (kk key p m) (kk key p (m-1))->Dn key d (m+1):=λ{d} o s i j u C=>by
   rw[o,o];by_cases c:j=m
   .subst c;by_cases y:i=j
    .subst y;exact O.irrefl _
    .exact a28 s (h.dn i (j-1) (by omega) (by omega))
   .exact h.dn i j u (by omega)
  cases v:O.blt (kk key p m) (kk key p (m-1))with
  |true=>
   have s:O.kle (kk key p m) (kk key p (m-1)):=a29 v;have w:∀{d:a4x},Pm n d->(∀k,kk key d k=kk key p k)->a9 (·<n) (ans key) (kas_desc f d (m+1) 0) λr=>m<=r.2.1/\r.2.1<=m+(f+1)/\Nw key n r.1 r.2.1 r.2.2:=λ{d} hp o=>
    qp (λr ⟨a,b,c⟩=>⟨by omega,by omega,c⟩) (rM g (f:=f) (m:=m+1) (q:=0) (p:=d) (by omega) ⟨hp,l o s,by omega,by omega,λk A z=>by rw[show k=m+1-1 by omega]⟩)
   show a9 _ _ (if q>0 then kas_desc f (kas_rev p (m-(q+1)) m) (m+1) 0 else kas_desc f p (m+1) 0) _;by_cases c:q>0
   .rw[if_pos c];exact w h.pm.rev h.alike
   .rw[if_neg c];exact w h.pm λ_=>rfl
  |false=>
   refine⟨h.pm.lt g _,h.pm.lt g _,?_⟩;show a9 _ _ (if O.blt (kk key p (m-1)) (kk key p m)=true then _ else _) _;cases x:O.blt (kk key p (m-1)) (kk key p m)with
   |true=>exact⟨a0e _,by show m<=m+(f+1);omega,h⟩
   |false=>
    have e:kk key p m=kk key p (m-1):=O.total _ _ v x;refine qp (λr ⟨a,b,c⟩=>⟨by omega,by omega,c⟩) (rM g (f:=f) (m:=m+1) (q:=q+1) (p:=p) (by omega) ⟨h.pm,l (λ_=>rfl) x,by omega,by omega,λk A z=>?_⟩);by_cases c:k=m
    .rw[c];rfl
    .rw[show m+1-1=m by omega,e];exact h.eq k (by omega) (by omega)
abbrev Tq(key:Nat->O.α)(n:Nat):Nat×Array Nat->Prop:=λr=>Pm n r.2/\1<=r.1/\r.1<=n/\Up key r.2 r.1
def uA(g:0<n)(hp:Pm n p)(l:1<=m)(s:m<=n)(d:Dn key p m):a9 (·<n) (ans key) (kas_tail3 m n p) (Tq key n):=by
 have o:=hp.size;have e:Up key (kas_rev p 0 m) m:=λi j h q=>by unfold kk;rw[iH (by omega),iH (by omega),if_pos ⟨by omega,by omega⟩,if_pos ⟨by omega,by omega⟩];exact d (0+m-1-j) (0+m-1-i) (by omega) (by omega)
 refine Yu (qp (λr ⟨a,b,c,_⟩=>?_) (CL hp.rev g (f:=n-m) (m:=m) l (by omega) e));exact⟨hp.rev,by show 1<=r;omega,by show r<=n;omega,c⟩
def bV(e:0<n)(hp:Pm n p)(y:1<=m)(v:m+1<=n)(he:∀k,k<m->kk key p k=kk key p (m-1))(l:O.klt (kk key p m) (kk key p (m-1))):a9 (·<n) (ans key) (kas_descPart m n p) (Tq key n):=by
 have u:=hp.size;have hf:Nw key n p (m+1) 0:=⟨hp,λi j d g=>by
  by_cases c:j=m
  .subst c;by_cases o:i=j
   .subst o;exact O.irrefl _
   .rw[he i (by omega)];exact a29 l
  .rw[he i (by omega),he j (by omega)];exact O.irrefl _,by omega,by omega,λk s x=>by rw[show k=m+1-1 by omega]⟩
 refine Yu (qp (λr ⟨a,b,c⟩=>?_) (rM e (f:=n-(m+1)) (m:=m+1) (q:=0) (p:=p) (by omega) hf));have w:=c.qm;by_cases h:r.2.2>0
 .rw[if_pos h];exact uA e c.pm.rev (by omega) c.le λi j d g=>by rw[c.alike,c.alike];exact c.dn i j d g
 .rw[if_neg h];exact uA e c.pm (by omega) c.le c.dn
def FG(g:0<n)(hp:Pm n p):a9 (·<n) (ans key) (kas_count n p) (Tq key n):=by
 have x:=hp.size;refine Yu (qp (λm ⟨a,b,c,d⟩=>?_) (CL (key:=key) hp g (f:=n-1) (m:=1) (a0e _) (by omega) λi j w y=>by rw[show i=j by omega];exact O.irrefl _));by_cases r:(m==n)=true
 .rw[if_pos r];exact⟨hp,a,by show m<=n;omega,c⟩
 .rw[if_neg r];have h:m<n:=by have:m≠n:=λq=>r (by rw[q];exact a11 _);omega
  have s:=d (by omega);by_cases u:m>1
  .rw[if_pos u];refine⟨hp.lt g _,hp.lt g _,?_⟩;show a9 _ _ (if O.blt (kk key p 0) (kk key p (m-1))=true then _ else _) _;cases v:O.blt (kk key p 0) (kk key p (m-1))with
   |true=>exact⟨hp,a,by show m<=n;omega,c⟩
   |false=>
    have e:kk key p 0=kk key p (m-1):=O.total _ _ v (c 0 (m-1) (by omega) (by omega));have al:∀k,k<m->kk key p k=kk key p (m-1):=λk l=>O.total _ _ (by rw[<- e];exact c 0 k (by omega) l) (c k (m-1) (by omega) (by omega));have o:∀k,kk key (kas_rev p 0 m) k=kk key p k:=λk=>by
     unfold kk;rw[iH (by omega)];split
     .rename_i z;exact(al (0+m-1-k) (by omega)).trans (al k z.2).symm
     .rfl
    exact bV g hp.rev a h (λk l=>by rw[o,o];exact al k l) (by rw[o,o];exact s)
  .rw[if_neg u];exact bV g hp a h (λk l=>by rw[show k=m-1 by omega]) s
theorem iI{p:a4x}(hp:Pm n p)(d:0<n){k:Nat}(a:Up key p k):∀{f l r:Nat},l<=r->r<=k->r-l<=f->(∀i,i<l->O.kle (kk key p i) (kk key p k))->(∀i,r<=i->i<k->O.klt (kk key p k) (kk key p i))->
  a9 (·<n) (ans key) (kas_place p k f l r) λl=>l<=k/\(∀i,i<l->O.kle (kk key p i) (kk key p k))/\∀i,l<=i->i<k->O.klt (kk key p k) (kk key p i)
 |0,l,r,o,rk,hf,e,b=>⟨by omega,e,λi g=>b i (by omega)⟩
 |f+1,l,r,o,rk,hf,e,b=>by
  show a9 _ _ (if l ≥ r then KasT.ret l else _) _;by_cases c:l ≥ r
  .rw[if_pos c];exact⟨by omega,e,λi g=>b i (by omega)⟩
  .rw[if_neg c];refine⟨hp.lt d _,hp.lt d _,?_⟩;show a9 _ _ (if O.blt (kk key p k) (kk key p ((l+r) / 2))=true then _ else _) _;cases h:O.blt (kk key p k) (kk key p ((l+r) / 2))with
   |true=>exact iI hp d a (f:=f) (l:=l) (r:=(l+r) / 2) (by omega) (by omega) (by omega) e λi m j=>KeyOrd.klt_of_klt_of_kle h (a _ _ m j)
   |false=>exact iI hp d a (f:=f) (l:=(l+r) / 2+1) (r:=r) (by omega) rk (by omega) (λi g=>a28 (a i ((l+r) / 2) (by omega) (by omega)) h) b
theorem HA(q:0<n):∀{f k:Nat}{p:a4x},Pm n p->k+f<=n->Up key p k->a9 (·<n) (ans key) (kas_bin f p k) λh=>Pm n h/\Up key h (k+f)
 |0,k,p,hp,_,d=>⟨hp,d⟩
 |f+1,k,p,hp,w,d=>by
  have v:=hp.size;refine Yu (qp (λl ⟨a,b,c⟩=>?_) (iI hp q d (f:=k) (l:=0) (r:=k) (a0Y _) (a0e _) (by omega) (λi u=>absurd u (a2F _)) λi o g=>absurd g (by omega)));refine qp (λh ⟨x,y⟩=>⟨x,by rw[show k+(f+1)=k+1+f by omega];exact y⟩) (HA q (f:=f) (k:=k+1) hp.bub (by omega) λi j m z=>?_);unfold kk;rw[fW (by omega) a,fW (by omega) a];by_cases o:i=l
  .rw[if_pos o];by_cases e:j=l
   .rw[if_pos e];exact O.irrefl _
   .rw[if_neg e,if_pos ⟨by omega,by omega⟩];exact a29 (c (j-1) (by omega) (by omega))
  .rw[if_neg o];by_cases e:j=l
   .rw[if_pos e,if_neg (by omega)];exact b i (by omega)
   .rw[if_neg e];by_cases g:l<i/\i<=k
    .rw[if_pos g,if_pos ⟨by omega,by omega⟩];exact d (i-1) (j-1) (by omega) (by omega)
    .rw[if_neg g];by_cases s:l<j/\j<=k
     .rw[if_pos s];exact d i (j-1) (by omega) (by omega)
     .rw[if_neg s];exact d i j m (by omega)
def CM(e:0<n):a9 (·<n) (ans key) (kas_sort n) λp=>Pm n p/\Up key p n:=by
 refine Yu (qp (λr ⟨a,b,c,d⟩=>?_) (FG (key:=key) e (p:=List.toArray (List.range n)) ⟨List.Perm.refl _,by simp⟩));by_cases h:r.1<n
 .rw[if_pos h,show max r.1 1=r.1 by omega];refine qp (λp ⟨x,y⟩=>⟨x,by rw[show n=r.1+(n-r.1) by omega];exact y⟩) (HA e (f:=n-r.1) (k:=r.1) a (by omega) d)
 .rw[if_neg h];exact⟨a,by rw[show n=r.1 by omega];exact d⟩
end
end L2
namespace L2
open PySem PySem.Spec PyProof.Rows PySem.W
abbrev fX:=Int×Int×Str
def Md(x y:fX):Bool:=if x.1=y.1 then(if x.2.1=y.2.1 then decide (x.2.2.cps.toList<y.2.2.cps.toList)else decide (x.2.1<y.2.1))else decide (x.1<y.1)
def Me{a b:Str}(h:a.cps.toList=b.cps.toList):a=b:=by obtain⟨x⟩:=a;obtain⟨y⟩:=b;exact a0O Str.mk (a3a.mp h)
def Pk:KeyOrd where
 α:=fX
 blt:=Md
 irrefl a:=by unfold Md;rw[if_pos rfl,if_pos rfl];exact strKind.irrefl _
 trans a b c e d:=by
  unfold Md at *;by_cases j:a.1=b.1
  .rw[if_pos j]at e;by_cases l:b.1=c.1
   .rw[if_pos l]at d;rw[if_pos (j.trans l)];by_cases f:a.2.1=b.2.1
    .rw[if_pos f]at e;by_cases i:b.2.1=c.2.1
     .rw[if_pos i]at d;rw[if_pos (f.trans i)];exact strKind.trans _ _ _ e d
     .rw[if_neg i]at d;rw[if_neg (by rw[f];exact i),f];exact d
    .rw[if_neg f]at e;by_cases i:b.2.1=c.2.1
     .rw[if_pos i]at d;rw[if_neg (by rw[<- i];exact f),<- i];exact e
     .rw[if_neg i]at d;have e:=a0Q e;have d:=a0Q d;rw[if_neg (by omega)];exact a0f (by omega)
   .rw[if_neg l]at d;rw[if_neg (by rw[j];exact l),j];exact d
  .rw[if_neg j]at e;have e:=a0Q e;by_cases l:b.1=c.1
   .rw[if_neg (by omega)];exact a0f (by omega)
   .rw[if_neg l]at d;have d:=a0Q d;rw[if_neg (by omega)];exact a0f (by omega)
 negTrans a b c h:=by
  unfold Md at *;by_cases j:a.1=b.1
  .rw[if_pos j];by_cases l:b.1=c.1
   .rw[if_pos (j.trans l)]at h;rw[if_pos l];by_cases f:a.2.1=b.2.1
    .rw[if_pos f];by_cases i:b.2.1=c.2.1
     .rw[if_pos (f.trans i)]at h;rw[if_pos i];exact strKind.negTrans _ _ _ h
     .rw[if_neg (by rw[f];exact i)]at h;rw[if_neg i];exact .inr (by rw[<- f];exact h)
    .rw[if_neg f];by_cases i:b.2.1=c.2.1
     .rw[if_neg (by rw[<- i];exact f)]at h;exact .inl (by rw[i];exact h)
     .rw[if_neg i];by_cases g:a.2.1<b.2.1
      .exact .inl (a0f g)
      .by_cases m:a.2.1=c.2.1
       .exact .inr (a0f (by omega))
       .rw[if_neg m]at h;have h:=a0Q h;exact .inr (a0f (by omega))
   .rw[if_neg (by rw[j];exact l)]at h;rw[if_neg l];exact .inr (by rw[<- j];exact h)
  .rw[if_neg j];by_cases g:a.1<b.1
   .exact .inl (a0f g)
   .refine .inr ?_;by_cases l:b.1=c.1
    .rw[if_neg (by rw[<- l];exact j)]at h;have h:=a0Q h;omega
    .rw[if_neg l];by_cases m:a.1=c.1
     .exact a0f (by omega)
     .rw[if_neg m]at h;have h:=a0Q h;exact a0f (by omega)
 total a b e d:=by
  unfold Md at *;by_cases j:a.1=b.1
  .rw[if_pos j]at e;rw[if_pos j.symm]at d;by_cases f:a.2.1=b.2.1
   .rw[if_pos f]at e;rw[if_pos f.symm]at d;have:=Me (strKind.total _ _ e d);exact Prod.ext j (Prod.ext f this)
   .rw[if_neg f]at e;rw[if_neg (Ne.symm f)]at d;have e:=a2j e;have d:=a2j d;omega
  .rw[if_neg j]at e;rw[if_neg (Ne.symm j)]at d;have e:=a2j e;have d:=a2j d;omega
def R7(h:Heap)(v:Value)(k:fX):Prop:=∃a o n d b c,v=.ref a/\h.get? a=some o/\o.cls=.type "tuple"/\o.data=.seq #[.int k.1 d,.int k.2.1 b,.str k.2.2 c] n
section
variable {prog:a4b}{w:a4e}{A:a4i}{E:a41}{s:a42}
def lt3(i:R7 s.heap x k1)(g:R7 s.heap y k2)(h:Q (Md k1 k2) s):wpAny (model prog w) A (keyLt' (tuples' true) x y) Q E s:=by
 obtain⟨a,o,n,q,r,u,rfl,f,_,l⟩:=i;obtain⟨b,p,m,v,B,z,rfl,hp,_,j⟩:=g;refine kat_lt f l hp j ?_;unfold Md at h;refine kat_cons (a22 ?_);by_cases d:k1.1=k2.1
 .rw[if_pos d]at h;rw[show(k1.1==k2.1)=true from a0I.mpr d];refine kat_yes (kat_cons (a22 ?_));by_cases c:k1.2.1=k2.2.1
  .rw[if_pos c]at h;rw[show(k1.2.1==k2.2.1)=true from a0I.mpr c];refine kat_yes (kat_cons (wpAny_eqBool_str ?_));by_cases e:k1.2.2=k2.2.2
   .rw[a0f e];refine kat_yes (kat_nil ?_);rw[e,show decide (k2.2.2.cps.toList<k2.2.2.cps.toList)=false from strKind.irrefl _]at h;exact h
   .rw[a0k e];exact kat_no (kat_one _ _ (lt_str h))
  .rw[if_neg c]at h;rw[show(k1.2.1==k2.2.1)=false from a0Z.mpr c];exact kat_no (kat_one _ _ (lt_int h))
 .rw[if_neg d]at h;rw[show(k1.1==k2.1)=false from a0Z.mpr d];exact kat_no (oneLt_int h)
def nB(h:Heap):List Value->List fX->Prop
 |[],[]=>True
 |v::a,k::b=>R7 h v k/\nB h a b
 |_,_=>False
def nB.get(d:fX):∀{vs:a46}{ks:List fX}{i:Nat},nB h vs ks->i<ks.length->R7 h (vs.getD i .none) (ks.getD i d):=by
 intro vs
 induction vs with
 |nil=>
  intro ks i t hi;cases ks with
  |nil=>exact absurd hi (a2F _)
  |cons k ks=>exact t.elim
 |cons v vs ih=>
  intro ks i t hi;cases ks with
  |nil=>exact t.elim
  |cons k ks=>
   cases i with
   |zero=>exact t.1
   |succ i=>exact ih (ks:=ks) (i:=i) t.2 (Nat.lt_of_succ_lt_succ hi)
def nB.kat{h:Heap}:∀{c:a46}{b:List fX},nB h c b->∃fs:List Value,KatTups h c fs/\fs.length=b.length/\∀v∈fs,∃n t,v=.int n t
 |[],[],_=>⟨[],trivial,rfl,λv h=>by cases h⟩
 |_::_,_::_,⟨⟨a,o,n,r,p,q,e,i,l,d⟩,t⟩=>by obtain⟨fs,j,f,m⟩:=nB.kat t;exact⟨_::fs,⟨⟨a,o,_,n,e,i,l,d,rfl⟩,j⟩,by rw[a0b,a0b,f],λv g=>(a0r.mp g).elim (λe=>⟨_,_,e⟩) (m v)⟩
 |[],_::_,t=>t.elim
 |_::_,[],t=>t.elim
def Tr(t:nB s.heap vs ks)(e:0<ks.length)(h:Q (tuples' true) s):wpAny (model prog w) A (keyKind' vs.toArray) Q E s:=by obtain⟨fs,b,d,c⟩:=t.kat;refine kat_kind (T:=.type "int") b (by omega) (λv a=>?_) (by decide) (by rw[show((Value.type "int") != Value.type "tuple")=true by decide];exact h);obtain⟨n,t,rfl⟩:=c v a;exact .now
end
section
variable {X:Cx}{pins:a38}{σ:St}{H:Hp}{s:a42}{h':Heap}
def Inv.Ts(I:Inv X pins σ H s)(k:∀b o,b≠it->s.heap.get? b=some o->h'.get? b=some o)(B:H it=none)(h:it≠X.env.locals)
  (l:it∈X.ex\/X.s₀.heap.objs.size<=it) (j:∀x c,X.env.cells.lookup x=some c->c≠it) (y:∀p∈X.pn++pins,p.1≠it) (new:qB X.prog X.w (upd H it o) h' it o) (E:X.m<=t':=by ac_rfl):Inv X pins σ (upd H it o) { s with heap:=h',toks:=t' }:=by
 have a:∀b u,H b=some u->b≠it:=λb u e z=>by rw[z,B]at e;cases e
 have g:∀b,b∉[it]->b≠it:=λb d z=>d (by simp[z]);refine I.step (g':=s.gens) (d':=s.drawn) (ch:=[it]) (λb f=>?_) (λb o _ _ d e _=>k b o (g b d) e) (λb o _ _ d e _=>⟨o.slots,k b o (g b d) e⟩) (λb _ d _ n=>by rw[zm (g b d)];exact n)
  (λb o d e=>⟨o,k b o (g b d) e⟩) (λb D e=>by rw[zm (a b _ e)];exact e) (λb _ _ e=>by rw[zm (a b _ e)];exact e) (λb F e=>⟨#[],by rw[zm (a b _ e),e];simp⟩) (λm C=>?_) (λb u e=>?_) I.bare
 .have e:b=it:=by simpa using f
  subst e;exact⟨l,h,j,y⟩
 .obtain⟨o,w,A,i,r⟩:=C;exact⟨o,w,A,k _ o (Ne.symm h) i,r⟩
 .by_cases f:b=it
  .subst f;rw[zl]at e;cases e;exact new
  .rw[zm f]at e;refine(I.hok b u e).Ep (λc v d q=>k c v ?_ q) (λc q=>by rw[zm (a c _ q)];exact q) λc D q=>by rw[zm (a c _ q)];exact q
   rcases d with z|z
   .rw[z];exact a b u e
   .exact a c _ z
structure FH(X:Cx)(pins:a38)(a:Addr):Prop where
 loc:a≠X.env.locals
 fs:a∉X.fs
 ex:a∈X.ex\/X.s₀.heap.objs.size<=a
 cel:∀x c,X.env.cells.lookup x=some c->c≠a
 pin:∀p∈X.pn++pins,p.1≠a
def Inv.zaw{H':Hp}(I:Inv X pins σ H s)(a:s.heap.objs.size<=b):FH X pins b:=by have:=I.Ni (H':=λ_=>none) a rfl;exact⟨this.2.1,this.2.2.1,this.2.2.2.1,this.2.2.2.2.1,this.2.2.2.2.2⟩
def Inv.R8(I:Inv X pins σ H s)(w:FH X pins a)(b:H a=none)(c:s.heap.get? a=some o)(d:∀v,o.data≠.cell v):Inv X (pins++[(a,o)]) σ H s:=
 I.gU λp hp=>(a0A.mp hp).elim (λz=>I.pin p (a0p _ z)) λz=>by rw[a0l.mp z];exact⟨c,b,w.loc,w.fs,d⟩
def Inv.at1(I:Inv X (pins++[(a,o)]) σ H s):s.heap.get? a=some o/\H a=none:=by have:=I.pin (a,o) (a0p _ (a0p _ u8));exact⟨this.1,this.2.1⟩
end
def CN(sp:Sp):List V->List V->Hp->(List V->Hp->Prop)->Prop
 |[],a,H,Q=>Q a H
 |v::c,a,H,Q=>sp [v] H (λz b=>CN sp c (a++[z]) b Q) (λ_ _ _=>False)
def dU(K:a4p)(H:Hp):List V->List fX->Prop
 |[],[]=>True
 |z::a,k::b=>(∃p,z=.ref p/\SqT K H p [.int k.1,.int k.2.1,.str k.2.2])/\dU K H a b
 |_,_=>False
def dU.len{K:a4p}{H:Hp}:∀{a:a4a}{b:List fX},dU K H a b->a.length=b.length
 |[],[],_=>rfl
 |_::_,_::_,t=>by rw[a0b,a0b,dU.len t.2]
 |[],_::_,t=>t.elim
 |_::_,[],t=>t.elim
def dU.CO{X:Cx}{pins:a38}{σ:St}{H:Hp}{s:a42}(I:Inv X pins σ H s):∀{b:a4a}{c:List fX}{d:a46},dU X.K H b c->Vals b d->nB s.heap d c
 |[],[],_,_,.nil=>trivial
 |_::_,k::_,_,⟨⟨p,e,j⟩,t⟩,.cons r f=>by
  subst e;cases r;refine⟨?_,dU.CO I t f⟩;obtain⟨g,a,⟨o,h,u,n,x⟩,_⟩:=I.tuple j;cases a with
  |cons v a=>cases a with
   |cons q a=>cases a with
    |cons w a=>cases a;obtain⟨i,rfl⟩:=v;obtain⟨l,rfl⟩:=q;obtain⟨m,rfl⟩:=w;exact⟨p,o,n,i,l,m,rfl,h,u,x⟩
 |[],_::_,_,t,_=>t.elim
 |_::_,[],_,t,_=>t.elim
def Srt(a:List fX)(q:a39):Prop:=q.Perm (List.range a.length)/\q.Pairwise λi j=>Pk.kle (a.getD i (0,0,"")) (a.getD j (0,0,""))
def HB(sp:Sp)(K:a4p)(ys:a4a)(H:Hp)(Q:VK):Prop:=ys.length<64/\CN sp ys [] H λd b=>∃c:List fX,c.length=ys.length/\dU K b d c/\∀(q:a39) a,Srt c q->b a=none->Q (.ref a) (upd b a (.lst (q.map λi=>ys.getD i .non)))
def HD(hp:Pm kz.length p)(f:Up (O:=Pk) (λi=>kz.getD i (0,0,"")) p kz.length):Srt kz p.toList:=by
 refine⟨hp.perm,?_⟩;rw[a2d];intro i j d c b;have g:=hp.size;rw[a1J]at d c;have:=f i j (a2y b) (by omega);have e:∀k (a:k<p.size),at0 p k=p.toList[k]'(by rw[a1J];exact a):=λk a=>by rw[W0,getElem?_pos p k a];simp
 unfold kk at this;rw[e i d,e j c]at this;exact this
section
variable {X:Cx}{k:Nat}{f:Addr}{fd:a4j}{ps:a40}{sp:Sp}
def FI(F:yF X.prog X.w X.K X.mg X.base (CXe X.prog X.w) k f fd ps sp)(l:v8 k A)(d:Er X.prog X.w X.K X.mg X.base A X.stack s H)(i:Binds X.K fd ps [])
  (I:Inv X pins σ H s) (r:RelV v u) (h:sp [v] H Q (λ_ _ _=>False)):wpAny (a4R X) A (call (.ref f) [u]) (EP X pins σ Q) E s:=by
 have b:Vals [v] [u]:=.cons r .nil;have j:([u]++[]).length=ps.length:=by rw[a0s,<- b.length];exact F.len _ _ _ _ h
 have c:=i s [u] I.kIn j;rw[a0s]at c;refine a1N (a2Z (n:=X.m) I.tk<|a1V (F.run A X.stack s H ⟨[u],[]⟩ [u] [v] Q _ l d c b h) λr o a m=>?_);cases r with
 |error e=>exact(nt a).elim
 |ok g=>
  cases g with
  |ret u=>exact I.after a
  |next=>exact False.elim a
  |brk=>exact False.elim a
  |cont=>exact False.elim a
def KC(X:Cx)(k:Nat)(c:a38)(f:Addr)(sp:Sp):Prop:=∀{a:a38}{b:St}{H:Hp}{s:a42}{Q:VK}{E:a41}{A:a4i}{u:Value}{v:V},(∀p∈c,p∈a)->v8 k A->Er X.prog X.w X.K X.mg X.base A X.stack s H->Inv X a b H s->RelV v u->sp [v] H Q (λ_ _ _=>False)->wpAny (a4R X) A (call (.ref f) [u]) (EP X a b Q) E s
def Tt(F:yF X.prog X.w X.K X.mg X.base (CXe X.prog X.w) k f fd ps sp)(b:Binds X.K fd ps []):KC X k [] f sp:=λ_ c a I r h=>FI F c a b I r h
end
section
variable {X:Cx}{k:Nat}{f:Addr}{sp:Sp}
theorem uB{pins:a38}{σ:St}{A:a4i}{E:a41}{kS:Addr}{Q0:List V->Hp->Prop}{body:Value->PUnit->Sem (ForInStep PUnit)}{lp:a38}(F:KC X k lp f sp)(hlp:∀p∈lp,p∈pins)(hr:v8 k A)(hA:A.frames=X.A.frames)
  (w:FH X pins kS)
  (AO:∀x s (C:Shared->Prop),wpAny (a4R X) A (call (.ref f) [x]) (λz s'=>wpAny (a4R X) A (Builtin.List.listUpdate (.ref kS) (·.push z)) (λ_ s''=>C s'') (λ_ _=>False) s') (λ_ _=>False) s->wpAny (a4R X) A (body x ⟨⟩) (λr s'=>r=.yield ⟨⟩/\C s') E s):
  ∀{ys:a4a}{its:a46}{acc:a4a}{us:a46}{e:Nat}{H:Hp}{s:a42},acc.length+ys.length<64->Vals ys its->Vals acc us->Inv X (pins++[(kS,seqObj "list" us.toArray e)]) σ H s->CN sp ys acc H Q0->
   wpAny (a4R X) A (forIn its PUnit.unit body) (λ_ s'=>∃zs us' e' H',zs.length=acc.length+ys.length/\Vals zs us'/\Inv X (pins++[(kS,seqObj "list" us'.toArray e')]) σ H' s'/\Q0 zs H') E s
 |[],_,acc,us,e,H,s,_,.nil,ra,I,h=>by rw[List.forIn_nil];exact a0h ⟨acc,us,e,H,rfl,ra,I,h⟩
 |v::ys,_,acc,us,e,H,s,hl,.cons (b:=u) (l₂:=its) r rs,ra,I,h=>by
  rw[a0b]at hl;have hul:=ra.length;rw[List.forIn_cons];refine f8 (a07 (AO u s (λs'=>∃(zs:(V×Nat)×Value) (H':Hp),Inv X (pins++[(kS,seqObj "list" (us++[zs.2]).toArray zs.1.2)]) σ H' s'/\RelV zs.1.1 zs.2/\CN sp ys (acc++[zs.1.1]) H' Q0) ?_) (λq s' hq=>?_) λ_ _ x=>x)
  .have A0:Er X.prog X.w X.K X.mg X.base A X.stack s H:=⟨hA.trans I.Bi.frames,I.Bi.mod,I.Bi.bs,I.Bi.bsz,I.Bi.tO,I.Bi.frf,I.Bi.hok,I.Bi.bare⟩;refine a07 (F (λp hp=>a0J _ (hlp p hp)) hr A0 I r h) (λz s1 ⟨y,H1,I1,r1,q1⟩=>?_) λ_ _ x=>x;have a1:=I1.at1;have J1:Inv X pins σ H1 s1:=I1.Zf;obtain⟨e2,he2⟩:∃e2,(s1.heap.update kS (Obj.mapSeq (·.push z))).get? kS=some (seqObj "list" (us++[z]).toArray e2):=⟨_,by
    have:=get?_update_seq a1.1 (·.push z);rw[show us.toArray.push z=(us++[z]).toArray by simp]at this;exact this⟩
   refine a2V a1.1 rfl ?_ (by rw[a0o,a06];omega) (a0y (a2A (Array.size_push ..)) (by rw[a0o,a06];omega));have J2:Inv X pins σ H1 { s1 with heap:=s1.heap.update kS (Obj.mapSeq (·.push z)),toks:=s1.toks }:=J1.turned (λb o hb ho=>(a0F s1.heap _ (Ne.symm hb)).trans ho) a1.2 w.loc w.ex w.cel w.pin;exact⟨((y,e2),z),H1,J2.R8 w a1.2 he2 (λv h=>by cases h),r1,q1⟩
  .obtain⟨rfl,zs,H',I',r',q'⟩:=hq;show wpAny (a4R X) A (forIn its PUnit.unit body) _ E s';refine a07 (uB F hlp hr hA w AO (ys:=ys) (acc:=acc++[zs.1.1]) (us:=us++[zs.2]) (by rw[a0g,a1c];omega) rs (ra.append (.cons r' .nil)) I' q') (λ_ s2 ⟨zs',us',e',H2,hl',h2,h3,h4⟩=>⟨zs',us',e',H2,?_,h2,h3,h4⟩) λ_ _ x=>x;rw[hl',a0g,a1c,a0b];omega
def Vals.getD(r:Vals ys its)(i:Nat):RelV (ys.getD i .non) (its.getD i .none):=by
 induction r generalizing i with
 |nil=>exact rfl
 |cons r b a=>
  cases i with
  |zero=>exact r
  |succ i=>exact a i
theorem iJ{ys:a4a}{its:a46}(r:Vals ys its):∀q:List Nat,Vals (q.map λi=>ys.getD i .non) (q.map λi=>its.getD i .none)
 |[]=>.nil
 |i::q=>.cons (r.getD i) (iJ r q)
end
section
variable {X:Cx}{f:Addr}
def nC{pins:a38}{σ:St}{A:a4i}{E:a41}{c D:Addr}{e d:Nat}{H:Hp}{s:a42}{us outU:a46}{a:a4a}{st:SortSt}{Q:VK}{P:PySem.Fin->Shared->Prop}
  (l:FH X pins D) (g:FH X (pins++[(D,seqObj "list" #[] d)]) c) (y:us.length<64) (i:outU.length<64) (ro:Vals a outU) (h:(arrOf st).map (·.2)=List.toArray outU) (hf:failedOf st=none)
  (I:Inv X (pins++[(D,seqObj "list" #[] d)]++[(c,seqObj "list" us.toArray e)]) σ H s) (w:Q (.ref D) (upd H D (.lst a))) (hP:∀q,EP X pins σ Q (.ref D) q->P (.done (.ret .none)) q):wpAny (a4R X) A (ksk_tail D false d (.ref c) st) P E s:=by
 have n:=I.at1;have v:Inv X (pins++[(D,seqObj "list" #[] d)]) σ H s:=I.Zf;have r:c≠D:=λz=>g.pin (D,seqObj "list" #[] d) (a0p _ (a0p _ u8)) z.symm;have p:Inv X (pins++[(D,seqObj "list" #[] d)]) σ H { s with heap:=s.heap.update c (Obj.mapSeq λ_=>(#[]:Array Value)),toks:=s.toks }:=v.turned (λb o m i=>(a0F s.heap _ (Ne.symm m)).trans i) n.2 g.loc g.ex g.cel g.pin;have j:=p.at1;unfold ksk_tail
 try dsimp only
 rw[h];refine f8 (a2V n.1 rfl ?_ (by rw[a0o,a06];omega) (a0Y _));refine f8 (wpAny_letGo ?_);refine f8 (seqEpoch_at j.1 rfl ?_);refine f8 (a2V j.1 rfl ?_ (a0Y _) (by simp only[Bool.false_eq_true,if_false,List.size_toArray];rw[a06];omega));rw[hf];simp only[bne_self_eq_false,Bool.false_eq_true,if_false];refine a0h (hP _ ?_);have x:=get?_update_seq j.1 λ_=>List.toArray outU;have B:=ro.length;have u:Inv X pins σ (upd H D (.lst a)) { s with heap:=(s.heap.update c (Obj.mapSeq λ_=>(#[]:Array Value))).update D (Obj.mapSeq λ_=>List.toArray outU),toks:=s.toks }:=Inv.Ts (s:={ s with heap:=s.heap.update c (Obj.mapSeq λ_=>(#[]:Array Value)),toks:=s.toks }) p.Zf (λb o m i=>(a0F _ _ (Ne.symm m)).trans i) j.2 l.loc l.ex l.cel l.pin (o:=.lst a) ⟨by rw[a06];omega,outU,_,ro,x⟩;exact⟨.ref D,_,u,rfl,w⟩
def FJ
  (L:FH X pins D) (F:FH X (pins++[(D,seqObj "list" #[] e1)]) kS) (Z:ys.length<64) (o:Vals ys its) (B:Vals zs us) (K:dU X.K H zs kz) (y:kz.length=ys.length)
  (I:Inv X (pins++[(D,seqObj "list" #[] e1)]++[(kS,seqObj "list" us.toArray e)]) σ H s) (z:∀q:List Nat,Srt kz q->Q (.ref D) (upd H D (.lst (q.map λi=>ys.getD i .non)))) (hP:∀c,EP X pins σ Q (.ref D) c->P (.done (.ret .none)) c):wpAny (a4R X) A (ksk_end D false its.toArray e1 (.ref kS) us.toArray) P E s:=by
 have U:=o.length;have S:=K.len;have M:=B.length;have h:us.length=its.length:=by omega
 unfold ksk_end
 try dsimp only
 simp only[Bool.false_eq_true,if_false];by_cases d:its.toArray.size<2
 .rw[if_pos d,if_pos d];rw[a0o]at d;refine f8 (a0h ?_);rw[StateT.run_pure];refine f8 (a0h ?_)
  try dsimp only
  have v:Srt kz (List.range its.length):=by refine⟨by rw[y,U],?_⟩;rw[a2d];intro i j r w W;rw[a02]at r w;omega
  refine nC L F (by omega) (outU:=(List.range its.length).map λi=>its.getD i .none) (by rw[v4,a02];omega) (iJ o _) ?_ rfl I (z _ v) hP;apply a3a.mp;show((us.toArray.zip its.toArray).map (·.2)).toList=_;rw[Array.toList_map,ksk_zip,List.map_snd_zip (by rw[List.toList_toArray,h];exact a0e _)];refine List.ext_getElem (by rw[v4,a02]) λi m d=>?_;rw[a08,a2h];simp[m]
 .rw[if_neg d,if_neg d];rw[a0o]at d;have u:=K.CO I B;refine f8 (Tr u (by omega) ?_);have l:(kas_sort its.length).kasWp (kas_ask X.prog X.w A (tuples' true) us) (λp c=>c=s/\Srt kz p.toList) s:=by
   refine CK (P:=(·<kz.length)) (f:=ans (O:=Pk) λi=>kz.getD i (0,0,"")) (J:=λc=>c=s) (Q:=λp=>Srt kz p.toList) (λi j C c r w v T=>?_) (λp c m d=>⟨d,m⟩) rfl ?_
   .subst v;exact lt3 (u.get (0,0,"") r) (u.get (0,0,"") w) (T _ rfl)
   .have:=CM (O:=Pk) (key:=λi=>kz.getD i (0,0,"")) (n:=kz.length) (by omega);rw[show its.length=kz.length by omega];exact qp (λp ⟨a,b⟩=>HD a b) this
  refine f8 (a07 (kat_run (ks:=us) (vs:=its) (Q:=λg c=>c=s/\∃p:Array Nat,p.size=its.length/\arrOf g=p.map (kas_item (us.toArray.zip its.toArray))/\failedOf g=none/\Srt kz p.toList) h (by omega) (by omega) (λp g c R Y N G=>⟨G.1,p,R,Y,N,G.2⟩) l) ?_ λ_ _ x=>x)
  rintro⟨⟨⟩,g⟩ c ⟨rfl,p,hp,har,hf,srt⟩
  try dsimp only
  exact nC L F (by omega) (outU:=p.toList.map λi=>its.getD i .none) (by rw[v4,a1J];omega) (iJ o _) (kat_snds h har) hf I (z _ srt) hP
end
def Ah(F:KC X k lp f sp)(hlp:∀p∈lp,p∈pins)(hr:v8 (k+2) X.A)
  (I:Inv X pins σ H s) (hl:SqL X.K H l ys) (h:HB sp X.K ys H Q):wpAny (a4R X) X.A (call (.builtin "sorted") [.ref l] [(Str.ofString "key",.ref f)]) (EP X pins σ Q) E s:=by
 obtain⟨hy,h⟩:=h;obtain⟨its,ry,pl,hz⟩:=I.list hl;have hlen:=ry.length;refine call_function_entry_kw kind_sorted plain_sorted entry_sorted (ksk_s1 _ _) ?_;unfold Builtin.«sorted»;refine f8 (m:=checkCount "sorted" 1 1 _) (a0h ?_);refine f8 (collect_list pl.isList ?_ (by rw[a06];omega));refine f8 (wpAny_newList ?_ (by rw[a06];omega));have hsz:((s.heap.push (seqObj "list" #[] 0)).update s.heap.objs.size (Obj.mapSeq (·++its.toArray))).objs.size=s.heap.objs.size+1:=by rw[Heap.size_update,size_push']
 have hoL:(((s.heap.push (seqObj "list" #[] 0)).update s.heap.objs.size (Obj.mapSeq (·++its.toArray))).push (seqObj "list" its.toArray 0)).get? (s.heap.objs.size+1)=some (seqObj "list" its.toArray 0):=by rw[<- hsz];exact a0x _ rfl
 have keep:∀b o,s.heap.get? b=some o->(((s.heap.push (seqObj "list" #[] 0)).update s.heap.objs.size (Obj.mapSeq (·++its.toArray))).push (seqObj "list" its.toArray 0)).get? b=some o:=λb o q=>by have hlt:b<s.heap.objs.size:=a0i q;rw[Heap.get?_push_ne _ _ _ (by rw[hsz];exact a0t (a2m hlt)),a2K _ _ _ _ (a0t hlt),Heap.get?_push_ne _ _ _ (a0t hlt)];exact q
 have hs1:(((s.heap.push (seqObj "list" #[] 0)).update s.heap.objs.size (Obj.mapSeq (·++its.toArray))).push (seqObj "list" its.toArray 0)).objs.size=s.heap.objs.size+2:=by rw[size_push',hsz]
 show wpAny _ _ _ _ _ { s with heap:=((s.heap.push (seqObj "list" #[] 0)).update s.heap.objs.size (Obj.mapSeq (·++its.toArray))).push (seqObj "list" its.toArray 0) };rw[hsz];have I1:Inv X pins σ H { s with heap:=((s.heap.push (seqObj "list" #[] 0)).update s.heap.objs.size (Obj.mapSeq (·++its.toArray))).push (seqObj "list" its.toArray 0),toks:=s.toks }:=I.kept keep;have w1:FH X pins (s.heap.objs.size+1):=I.zaw (H':=H) (a1m _);have n1:H (s.heap.objs.size+1)=none:=I.hok.fresh (a1m _);generalize((s.heap.push (seqObj "list" #[] 0)).update s.heap.objs.size (Obj.mapSeq (·++its.toArray))).push (seqObj "list" its.toArray 0)=h1 at hoL hs1 I1 keep;generalize hD:s.heap.objs.size+1=D at hoL w1 n1;refine f8 (a1a (wpAny_call_entry_kw slot_list_sort ⟨_,hoL,rfl⟩ entry_list_sort ?body (ksk_l1 _ _)))
 case body=>
  show wpAny (a4R X) X.A.in1.in1 (Builtin.«list.sort» ⟨[.ref D],[(Str.ofString "key",.ref f)]⟩) _ _ _;rw[ksk_t1];obtain⟨e1,ho1⟩:∃e1,(h1.update D (Obj.mapSeq λ_=>(#[]:Array Value))).get? D=some (seqObj "list" #[] e1):=⟨_,get?_update_seq hoL λ_=>#[]⟩;have I2:Inv X pins σ H { s with heap:=h1.update D (Obj.mapSeq λ_=>(#[]:Array Value)),toks:=s.toks }:=Inv.turned (s:={ s with heap:=h1,toks:=s.toks }) I1 (λb o hb ho=>(a0F h1 _ (Ne.symm hb)).trans ho) n1 w1.loc w1.ex w1.cel w1.pin;have hs2:(h1.update D (Obj.mapSeq λ_=>(#[]:Array Value))).objs.size=s.heap.objs.size+2:=by rw[Heap.size_update,hs1]
  unfold ksk_tree;refine f8 (listItems_at hoL rfl ?_);refine f8 (a2V hoL rfl ?_ (by rw[a0o,a06];omega) (a0Y _));generalize h1.update D (Obj.mapSeq λ_=>(#[]:Array Value))=h2 at ho1 I2 hs2;refine f8 (seqEpoch_at ho1 rfl ?_);refine f8 (wpAny_newTuple ?_ (by show its.length<=_;rw[a06];omega));refine f8 (wpAny_newList ?_ (a0Y _));refine a1a ?_;have hk3:(h2.push { cls:=.type "tuple",data:=.seq its.toArray.toList.toArray }).objs.size=s.heap.objs.size+3:=by rw[size_push',hs2]
  have keep3:∀b o,h2.get? b=some o->((h2.push { cls:=.type "tuple",data:=.seq its.toArray.toList.toArray }).push { cls:=.type "list",data:=.seq ([]:List Value).toArray }).get? b=some o:=λb o q=>a0d _ (a0d _ q);have I3:Inv X pins σ H { s with heap:=(h2.push { cls:=.type "tuple",data:=.seq its.toArray.toList.toArray }).push { cls:=.type "list",data:=.seq ([]:List Value).toArray },toks:=s.toks }:=Inv.kept (s:={ s with heap:=h2,toks:=s.toks }) I2 keep3;have hoK:((h2.push { cls:=.type "tuple",data:=.seq its.toArray.toList.toArray }).push { cls:=.type "list",data:=.seq ([]:List Value).toArray }).get? (h2.push { cls:=.type "tuple",data:=.seq its.toArray.toList.toArray }).objs.size=some (seqObj "list" ([]:List Value).toArray 0):=a0x _ rfl;have hoD:=keep3 D _ ho1;show wpAny (a4R X) X.A.in1.in1 (ksk_rest D (.ref f) false its.toArray e1 (.ref (h2.push { cls:=.type "tuple",data:=.seq its.toArray.toList.toArray }).objs.size)) _ _ { s with heap:=(h2.push { cls:=.type "tuple",data:=.seq its.toArray.toList.toArray }).push { cls:=.type "list",data:=.seq ([]:List Value).toArray },toks:=s.toks };have w2:FH X (pins++[(D,seqObj "list" #[] e1)]) (h2.push { cls:=.type "tuple",data:=.seq its.toArray.toList.toArray }).objs.size:=by have J:Inv X (pins++[(D,seqObj "list" #[] e1)]) σ H { s with heap:=h2,toks:=s.toks }:=Inv.R8 (s:={ s with heap:=h2,toks:=s.toks }) I2 w1 n1 ho1 (λv h=>by cases h);exact J.zaw (H':=H) (by show h2.objs.size<=_;rw[hk3,hs2];omega)
  have n2:H (h2.push { cls:=.type "tuple",data:=.seq its.toArray.toList.toArray }).objs.size=none:=I.hok.fresh (by rw[hk3];omega);generalize(h2.push { cls:=.type "tuple",data:=.seq its.toArray.toList.toArray }).push { cls:=.type "list",data:=.seq ([]:List Value).toArray }=h3 at I3 hoK hoD;generalize(h2.push { cls:=.type "tuple",data:=.seq its.toArray.toList.toArray }).objs.size=kS at hoK w2 n2;have I4:Inv X (pins++[(D,seqObj "list" #[] e1)]++[(kS,seqObj "list" ([]:List Value).toArray 0)]) σ H { s with heap:=h3,toks:=s.toks }:=
   Inv.R8 (s:={ s with heap:=h3,toks:=s.toks }) (Inv.R8 (s:={ s with heap:=h3,toks:=s.toks }) I3 w1 n1 hoD (λv h=>by cases h)) w2 n2 hoK (λv h=>by cases h)
  unfold ksk_rest;refine f8 (a3D ?_)
  first
   |rw[List.forIn_toArray]
   | (rw[<- a3Z];simp only[List.toList_toArray])
   |rw[<- a3Z]
  refine f8 (a07 (uB (pins:=pins++[(D,seqObj "list" #[] e1)]) (σ:=σ) (A:=X.A.in1.in1) (E:=E) F (λp hp=>a0J _ (hlp p hp)) hr.in1.in1 rfl w2 (λx s' C hx=>?_) (ys:=ys) (its:=its) (acc:=[]) (us:=[]) (e:=0) (H:=H) (by rw[a2a];omega) ry .nil I4 h) (λ_ s' hd=>?_) λ_ _ x=>x)
  .refine f8 (a2q (a07 hx (λz s'' hz=>?_) λ_ _ hF=>hF.elim))
   try dsimp only
   exact f8 (a07 hz (λ_ s3 h3=>a0h ⟨rfl,h3⟩) λ_ _ hF=>hF.elim)
  .obtain⟨zs,us,e2,H',hzl,rz,I5,kz,hkl,hk3,hq⟩:=hd;have aK:=I5.at1;have aD:=I5.Zf.at1
   try dsimp only
   refine f8 (listItems_at aK.1 rfl ?_);exact FJ w1 w2 hy ry rz hk3 hkl I5 (λq srt=>hq q D srt aD.2) λs3 he=>⟨_,rfl,a0h ⟨_,rfl,he⟩⟩
def iK(g:a4c):List PV->Option (List fX)
 |[]=>some []
 |x::d=>match g [x]with
  |.ok (.t [.i a,.i b,.s c])=>(iK g d).map ((a,b,c)::·)
  |_=>none
theorem nD{g:a4c}:∀{a:a4h}{b:List fX},iK g a=some b->b.length=a.length
 |[],_,h=>by cases h;rfl
 |x::a,b,h=>by
  unfold iK at h;split at h
  .obtain⟨c,e,rfl⟩:=a0c.mp h;rw[a0b,a0b,nD e]
  .cases h
theorem CP{b:Type}{P:a4M}{f:a4I}{Q:b->Prop}:∀{t:KasT b},a9 P f t Q->∃a,Q a
 |.ret a,h=>⟨a,h⟩
 |.ask _ _ _,h=>CP h.2.2
def HF(c:List fX):∃q,Srt c q:=by
 by_cases h:0<c.length
 .obtain⟨p,a,b⟩:=CP (CM (O:=Pk) (key:=λi=>c.getD i (0,0,"")) h);exact⟨p.toList,HD a b⟩
 .refine⟨[],?_,List.Pairwise.nil⟩;rw[show c.length=0 by omega];exact List.Perm.refl _
def Mf(a:List fX):List Nat:=Classical.choose (HF a)
def a_(a:List fX):Srt a (Mf a):=a05 (HF a)
def Mg(c:kz.Nodup)(h:Srt kz q)(h':Srt kz q'):q=q':=by
 refine List.Perm.eq_of_pairwise (λa b j i n l=>?_) h.2 h'.2 (h.1.trans h'.1.symm);have m:=a1p.mp (h.1.mem_iff.mp j);have d:=a1p.mp (h'.1.mem_iff.mp i);have e:=KeyOrd.kle_antisymm n l;have g:kz.getD a (0,0,"")=kz[a]:=by simp[m]
 have f:kz.getD b (0,0,"")=kz[b]:=by simp[d]
 rw[g,f]at e;exact(List.getElem_inj c).mp e
open Classical in
def FK(g:a4c)(xs:a4h):Out PV:=if xs.length<64 then match iK g xs with
 |some a=>if a.Nodup then .ok (.l ((Mf a).map λi=>xs.getD i .n))else .wall
 |none=>.wall else .wall
def uC(g:a4c)(ms:MA):ME:=λb=>(ms b).bind λa=>match a with
 |[.l a]=>FK g a
 |_=>.wall
def SqT.same{K:a4p}{H H':Hp}{p:Addr}{xs:a4a}(h:SqT K H p xs)(s:zH H H'):SqT K H' p xs:=by
 rcases h with h|h
 .rcases h with h|⟨o,h⟩
  .exact .inl (.inl (s _ _ h))
  .exact .inl (.inr ⟨o,s _ _ h⟩)
 .exact .inr h
theorem CQ{W:RC}{M:a43}{wk:Bool}{g:a4c}{Q:List V->Hp->Prop}:∀{xs:a4h}{vs acc:a4a}{H:Hp}{kz:List fX},yr W M H xs vs->iK g xs=some kz->(∀H' zs,zH H H'->dU W.K H' zs kz->Q (acc++zs) H')->CN (lsp W false [wk] g) vs acc H Q
 |[],_,acc,H,kz,hr,hk,q=>by cases(show _=_ from hr);cases hk;have:=q H [] (zH.refl _) trivial;rw[a0s]at this;exact this
 |x::xs,_,acc,H,kz,hr,hk,q=>by
  obtain⟨v,r,rfl,h1,h2⟩:=hr;unfold iK at hk;split at hk
  .rename_i a b c hg;obtain⟨ks,e,rfl⟩:=a0c.mp hk;refine⟨M,[x],⟨x,v,[],[],rfl,rfl,?_,rfl,rfl⟩,?_⟩
   .cases wk with
    |true=>rw[if_pos rfl];exact h1.weak
    |false=>rw[if_neg a0q];exact qu.iff.mpr h1
   .rw[hg];intro z H2 s hz;unfold RtV at hz;rw[if_neg a0q]at hz;obtain⟨p,ws,rfl,hq,hws⟩:=hz;obtain⟨v1,r1,rfl,e1,hws⟩:=hws;obtain⟨v2,r2,rfl,e2,hws⟩:=hws;obtain⟨v3,r3,rfl,e3,hws⟩:=hws;cases(show _=_ from hws);cases(show _=_ from e1);cases(show _=_ from e2);cases(show _=_ from e3);refine CQ (acc:=acc++[.ref p]) (h2.same s) e λH' zs s' hz=>?_;have:=q H' (.ref p::zs) (s.trans s') ⟨⟨p,rfl,hq.same s'⟩,hz⟩;rw[a0w];exact this
  .cases hk
def yr.HI{W:RC}{M:a43}{H:Hp}{xs:a4h}{vs:a4a}(h:yr W M H xs vs):∀q:List Nat,yr W M H (q.map λi=>xs.getD i .n) (q.map λi=>vs.getD i .non)
 |[]=>rfl
 |i::q=>by
  refine⟨_,_,rfl,?_,h.HI q⟩;show Rep W M H (xs.getD i .n) (vs.getD i .non);simp only[List.getD_eq_getElem?_getD];cases a:xs[i]? with
  |some x=>obtain⟨v,e,r⟩:=h.get a;rw[e];exact r
  |none=>
   cases b:vs[i]? with
   |none=>exact rfl
   |some v=>obtain⟨x,e,_⟩:=h.Nn b;rw[a]at e;cases e
def FL(F:yF X.prog X.w X.K X.mg X.base (CXe X.prog X.w) k f fd ps sp)(M:v8 (k+2) X.A)(E:Binds X.K fd ps [])(B:Gl X "sorted")(L:X.mg "sorted"=none)(j:Gl X fn)(d:X.mg fn=some (.ref f))(A:PA X [e] t)(n:(fn==("__debug__":Str))=false:=by decide)
  (i:backTo pos (starEach [e] X.env)=(false,eval e X.env)::backTo pos (starEach [] X.env):=by rfl) (hpl:(backTo pos (starEach [e] X.env)).any (·.1)=false:=by rfl):
  PE X (.Call (.Name "sorted" p) [e] [⟨some "key",.Name fn p2,kpos⟩] pos) (λc H Q=>t c H λq b=>∃l g,q=[.ref l]/\SqL X.K b l g/\HB sp X.K g b Q):=by
 intro a s c H Q I h;refine a1q (fI I B L boot_sorted ?_ (by decide) (by decide));refine callWith_kw (thn (A pos a s c H _ I h) λT w ⟨q,b,N,C,l,g,D,G,x⟩=>?_) i hpl;subst D;obtain⟨u,rfl,y⟩:=vals1 C;cases y;refine thn (IT (nm:=some "key") (kpos:=kpos) (zy (v:=.ref f) j d rfl n) NY pos a w c b (λo r=>o=[.ref f]/\r=b) N ⟨rfl,rfl⟩) λP R ⟨o,r,J,z,O,K⟩=>?_;subst O;subst K;obtain⟨S,rfl,m⟩:=vals1 z;cases m;exact Ah (Tt F E) (λ_ h=>nomatch h) M J G x
def FN(F:yF X.prog X.w X.K X.mg X.base (CXe X.prog X.w) k f fd ps (lsp C.W false [wk] g))(W:v8 (k+2) X.A)(L:Binds X.K fd ps [])(K:Gl X "sorted")(U:X.mg "sorted"=none)(n:Gl X fn)(h:X.mg fn=some (.ref f))(d:AM X C S ws [e] ms)(w:(fn==("__debug__":Str))=false:=by decide)
  (j:backTo pos (starEach [e] X.env)=(false,eval e X.env)::backTo pos (starEach [] X.env):=by rfl) (hpl:(backTo pos (starEach [e] X.env)).any (·.1)=false:=by rfl):
  FM X C S (.Call (.Name "sorted" p) [e] [⟨some "key",.Name fn p2,kpos⟩] pos) (uC g ms):=λx=>by
 obtain⟨ta,G,N⟩:=d x;refine⟨_,FL F W L K U n h G w j hpl,λB P H I D R Q q=>N B P H I D R _ (YJ q λxs vs H1 Y m b=>?_)⟩;have m:=m.weak;split at b
 .rename_i J _;obtain⟨v,r,rfl,⟨l,A,rfl,_,M,u⟩,i⟩:=m;cases(show _=_ from i);unfold FK at b;split at b
  .rename_i O;split at b
   .rename_i z y;split at b
    .rename_i T;have c:A.length=J.length:=(yr.len u).symm▸rfl;rw[x];refine⟨l,A,rfl,SqL.of M,by omega,CQ u y λH' Z s hz=>⟨z,by rw[nD y,c],by rw[a1k];exact hz,λq' a o d=>?_⟩⟩;rw[Mg T o (a_ z)];have E:=v9 b s;exact E _ _ (zH.upd d) (KH ((u.same s).HI _) d)
    .exact b.elim
   .exact b.elim
  .exact b.elim
 .exact b.elim
def bW(f:Str)(x:HV):List (Str×HV)->List (Str×HV)
 |[]=>[(f,x)]
 |a::r=>if a.1=f then(a.1,x)::r else a::bW f x r
theorem ju.WB{R:HV->V->Prop}{f:Str}{x:HV}{v:V}(a:R x v):∀{fs:List (Str×HV)}{b:a4o},ju R fs b->ju R (bW f x fs) (WB f v b)
 |[],_,h=>by cases(show _=_ from h);exact⟨v,[],rfl,a,rfl⟩
 |g::r,_,⟨u,q,e,i,d⟩=>by
  subst e;unfold bW L2.WB;by_cases c:g.1=f
  .rw[if_pos c,if_pos (by simpa using c)];exact⟨v,q,rfl,a,d⟩
  .rw[if_neg c,if_neg (by simpa using c)];exact⟨u,_,rfl,i,ju.WB a d⟩
def iL(cs:a39)(f:Str)(g e:HME):HMS:=λa G=>(e a G).fw λy d=>(g a d).fw λx b=>match x with
 |.g k=>match b[k]? with
  |some (.o c fs)=>if c∈cs/\fs.length<1000 then .nx a (b.set k (.o c (bW f y fs)))else .wall
  |_=>.wall
 |_=>.wall
def CS(C:HE X W E o m1)(M:HE X W E e m2)(m:∀c∈cs,Cls X.K (W.cls c)/\qC X.K (W.cls c) fn)(N:swapsWith e (some (.Attribute o fn pos')) pos.line X.env=pure false:=by rfl):
  HS X W E (.Assign [.Attribute o fn pos'] e pos) (iL cs fn m1 m2):=λn=>by
 obtain⟨to,o1,J⟩:=C n;obtain⟨te,F,S⟩:=M n;refine⟨_,G0 o1 F N,λZ g A H i h G R D q=>S Z g A H i h G R _ (HPs.bind q λy P O U K B Y u L=>?_)⟩;have j:=R.gro K B;refine J Z g P O i h U j _ (HPs.bind Y λx A2 H2 G2 d w b v I=>?_);subst g;split at b
 .rename_i k;obtain⟨s,rfl⟩:=I;split at b
  .rename_i c fs T;split at b
   .rename_i a;obtain⟨f,p,hp,r⟩:=d.cell k _ T;have Q:=ju.len r;have l:=d.frw (o:=.ins (Z.W.cls c) f (WB fn u p)) s hp id;refine⟨_,_,f,p,rfl,hp,(m c a.1).1,(m c a.1).2,by rw[Q];exact a.2,zau (c:=.o c (bW fn y fs)) (j.gro d w) s hp id ⟨f,_,zl,?_⟩ b⟩;exact ju.WB ((L.gro w).gro l) (r.imp λ_ _ z=>z.gro l)
   .exact b.elim
  .exact b.elim
 .exact b.elim
def Tu(kvs:a4C)(ks:a4y):PV->Out PV
 |.i n=>.ok (.i ((z5 kvs ks).getD n))
 |_=>.wall
def Ai(m:ME)(ms:MA)(d:ME):ME:=λb=>(m b).bind λx=>match x with
 |.dt a=>(ms b).bind λe=>match pk2 e with
  |some c=>(d b).bind (Tu a c)
  |none=>.wall
 |_=>.wall
def CT(L:X.A.units+1<cLine)(G:EM X C S w1 o m1)(E:AM X C S ws es ms)(K:EM X C S w2 f m2)(m:M2 X o "get" jH (.Tuple es x1 p) f Ze):EM X C S false (.Call (.Attribute o "get" jH) [.Tuple es x1 p,f] [] Ze) (Ai m1 ms m2):=λi=>by
 obtain⟨ta,F,Y⟩:=G i;obtain⟨tb,I,D⟩:=E i;obtain⟨tc,c1,M⟩:=K i;refine⟨_,EV L F (fL I) c1 m,λB P H g c R Q q=>Y B P H g c R _ (z7 q λx v O j N A=>?_)⟩;cases x with
 |dt h=>
  obtain⟨a,rfl,_,w⟩:=N.weak;refine⟨a,rfl,.inr ⟨_,w⟩,D B P O g c (R.keep j) _ (qe A λxs vs H2 r J d=>?_)⟩;split at d
  .rename_i Z W;obtain⟨rfl,U⟩:=J.R4 W;refine⟨U,λz hz=>M B P _ g c (((R.keep j).keep r).keep (zH.upd hz)) _ (z7 (Yp d (zH.upd hz)) λy u l s T b=>?_)⟩;unfold Tu at b;split at b
   .rename_i n;cases(show u=.int n from T.weak);refine⟨_,.inr ⟨_,_,z,bT s (bT (zH.upd hz) (bT r w)),rfl,s _ _ zl,rfl⟩,?_⟩;rw[iG];cases e:z5 h Z with
    |none=>rw[e]at b;exact b _ l (zH.refl _) (RV.of rfl)
    |some k=>rw[e]at b;exact b _ l (zH.refl _) (RV.of rfl)
   .exact b.elim
  .exact d.elim
 |_=>exact A.elim
end L2
namespace L2
open PySem PySem.Spec PyProof.Rows PySem.W
section
variable {X:Cx}{pins:a38}{σ:St}{H:Hp}{s:a42}{h':Heap}{ch:a4w}{T:Addr}{o:HO}{t':Nat}
def Inv.Tv(I:Inv X pins σ H s)(hf:∀b∈ch,xI X pins H b)(k:∀b u,b∉ch->s.heap.get? b=some u->h'.get? b=some u)(hp:s.heap.objs.size<=T)(new:qB X.prog X.w (upd H T o) h' T o)(w:X.m<=t':=by ac_rfl):Inv X pins σ (upd H T o) { s with heap:=h',toks:=t' }:=by
 have f:H T=none:=I.hok.fresh hp;have g:∀b u,s.heap.get? b=some u->b≠T:=λb u e=>a0t (a0u (a0i e) hp);refine I.step (g':=s.gens) (d':=s.drawn) (ch:=ch) (λb d=>⟨(hf b d).2.2.2.1,(hf b d).2.1,(hf b d).2.2.2.2.1,(hf b d).2.2.2.2.2⟩) (λb o _ _ a e _=>k b o a e) (λb o _ _ a e _=>⟨o.slots,k b o a e⟩) (λb o _ e n=>by rw[zm (g b o e)];exact n)
  (λb o a e=>⟨o,k b o a e⟩) (λb p e=>by rw[zm (zT e f)];exact e) (λb o u e=>by rw[zm (zT e f)];exact e) (λb x e=>⟨#[],by rw[zm (zT e f),e];simp⟩) (λm l=>?_) (λb u e=>?_) I.bare
 .obtain⟨o,i,j,h,r⟩:=l;exact⟨o,i,j,k _ o (λz=>(hf _ z).2.1 rfl) h,r⟩
 .by_cases d:b=T
  .subst d;rw[zl]at e;cases e;exact new
  .rw[zm d]at e;refine(I.hok b u e).Ep (λc v a q=>k c v (λz=>?_) q) (λc q=>by rw[zm (zT q f)];exact q) λc p q=>by rw[zm (zT q f)];exact q
   rcases a with a|a
   .subst a;rw[(hf _ z).1]at e;cases e
   .rw[(hf _ z).1]at a;cases a
def Inv.Tw(I:Inv X pins σ H s)(hf:∀b∈ch,xI X pins H b)(k:∀b u,b∉ch->s.heap.get? b=some u->h'.get? b=some u)(l:X.m<=t':=by ac_rfl):Inv X pins σ H { s with heap:=h',toks:=t' }:=by
 refine I.step (g':=s.gens) (d':=s.drawn) (ch:=ch) (λb d=>⟨(hf b d).2.2.2.1,(hf b d).2.1,(hf b d).2.2.2.2.1,(hf b d).2.2.2.2.2⟩) (λb o _ _ a e _=>k b o a e) (λb o _ _ a e _=>⟨o.slots,k b o a e⟩) (λb o _ e n=>n)
  (λb o a e=>⟨o,k b o a e⟩) (λb j e=>e) (λb o u e=>e) (λb p e=>⟨#[],by rw[e];simp⟩) (λm i=>?_) (λb u e=>?_) I.bare
 .obtain⟨o,g,h,f,r⟩:=i;exact⟨o,g,h,k _ o (λz=>(hf _ z).2.1 rfl) f,r⟩
 .refine(I.hok b u e).Ep (λc v a q=>k c v (λz=>?_) q) (λc q=>q) λc j q=>q;rcases a with a|a
  .subst a;rw[(hf _ z).1]at e;cases e
  .rw[(hf _ z).1]at a;cases a
end
def Itw(n:Nat)(ok:Hp->Prop)(row:Nat->List V):It:=
 ⟨λi H=>i<n/\ok H,λi H x a=>∃T,x=.ref T/\H T=none/\a=upd H T (.tup (row i)),λi H=>i=n/\ok H⟩
def R9(xs ys:a4a)(i:Nat):List V:=[xs[i]?.getD .non,ys[i]?.getD .non]
def Mh(b:row.length<=sizeLine)(r:Vals row vals.toList)(a:h.IsTuple T vals):qB P w (upd H T (.tup row)) h T (.tup row):=⟨b,vals.toList,r,a⟩
section
variable {P:a4b}{w:a4e}{K:a4p}{elts:a44}{kk:Nat}{tp:Pos}
def FO(z TI TO l j a b:Addr)(xs ys:a4a)(D:ZipApart z TI TO l j a b):Turn P w K (.Tuple elts kk tp) (Itw (min xs.length ys.length) (λH=>SqL K H a xs/\SqL K H b ys) (R9 xs ys)) [z,TI,TO,l,j] z (λi h=>i<=min xs.length ys.length/\IsZip h z TI TO .none/\IsPair h TI (.ref l) (.ref j)/\(∃a b,IsPair h TO a b)/\h.IsListIter l a i/\h.IsListIter j b i)where
 mem:=by simp
 obj:=λi h f c d=>by
  obtain⟨_,Q,J,⟨_,_,M⟩,⟨o4,N,_,d4⟩,⟨o5,G,_,d5⟩⟩:=f;simp only[List.mem_cons,List.not_mem_nil,or_false]at d;rcases d with r|r|r|r|r<;>subst r
  .exact⟨_,Q,λv z=>by cases z⟩
  .exact⟨_,J,λv z=>by cases z⟩
  .exact⟨_,M,λv z=>by cases z⟩
  .exact⟨o4,N,λv z=>by rw[d4]at z;cases z⟩
  .exact⟨o5,G,λv z=>by rw[d5]at z;cases z⟩
 keep:=λi h S ⟨hi,Q,J,⟨x,y,M⟩,N,G⟩ k=>⟨hi,k z (by simp) _ Q,k TI (by simp) _ J,⟨x,y,k TO (by simp) _ M⟩,N.at λo e=>k l (by simp) o e,G.at λo e=>k j (by simp) o e⟩
 item:=by
  intro X hP hw hK d i L s σ H E I hf f hg;subst hP hw hK;obtain⟨hi,F,C⟩:=hg;obtain⟨m,U,p,_⟩:=I.list F;obtain⟨B,A,Y,_⟩:=I.list C;have hn:=U.length;have hm:=A.length;have W:=WalksT.zip2 (prog:=X.prog) (w:=X.w) (I.ok.hd d) z TI TO l j a b D m.toArray B.toArray;refine a0P (n:=X.m) (by ac_rfl)<|W.item i s _ _ (by rw[a0o,a0o];omega) ⟨f.2.1,f.2.2.1,f.2.2.2.1,f.2.2.2.2.1,f.2.2.2.2.2,p.isList,Y.isList⟩ λT O S tk hv hT Z R kp hn=>?_
  obtain⟨x,y,hx,hy,rfl⟩:=hv;refine⟨_,rfl,W.go elts kk tp i T { s with heap:=S,toks:=tk } _ _ R λh2' g k2=>?_⟩;have nT:T∉[z,TO,l,j]:=W.apart i T S R;have nT':∀c∈[z,TI,TO,l,j],c≠T:=λc d q=>by
   subst q;obtain⟨o,ho⟩:∃o,s.heap.get? c=some o:=by
    obtain⟨_,Q,J,⟨_,_,M⟩,⟨o4,N,_,d4⟩,⟨o5,G,_,d5⟩⟩:=f;simp only[List.mem_cons,List.not_mem_nil,or_false]at d;rcases d with r|r|r|r|r<;>subst r
    .exact⟨_,Q⟩
    .exact⟨_,J⟩
    .exact⟨_,M⟩
    .exact⟨_,N⟩
    .exact⟨_,G⟩
   exact absurd (a0i ho) (Nat.not_lt.mpr hT)
  have l1:i<xs.length:=by omega
  have l2:i<ys.length:=by omega
  obtain⟨u,hu,ru⟩:=U.get (a0n l1);obtain⟨v,hv,rv'⟩:=A.get (a0n l2);rw[a3x,hu]at hx;cases hx;rw[a3x,hv]at hy;cases hy;refine⟨.ref T,upd H T (.tup (R9 xs ys i)),I.Tv (ch:=[z,TO,l,j]) (λc d=>hf c (W.sub c d |> λ_=>by simp only[List.mem_cons,List.not_mem_nil,or_false]at d ⊢;rcases d with r|r|r|r<;>simp[r])) (λb u hb q=>k2 b u hb (kp b u hb q)) hT (Mh (show 2<=sizeLine by decide) (vals:=#[x,y]) (.cons ?_ (.cons ?_ .nil)) (Z.at λo q=>k2 T o nT q)),rfl,⟨T,rfl,I.hok.fresh hT,rfl⟩,⟨by omega,g.1,g.2.1,g.2.2.1,g.2.2.2.1,g.2.2.2.2.1⟩,λc d=>by rw[zm (nT' c d)];exact(hf c d).1⟩
  .rw[a0n l1];exact ru
  .rw[a0n l2];exact rv'
 done:=by
  intro X hP hw hK d i L s σ H E I hf f hg;subst hP hw hK;obtain⟨rfl,F,C⟩:=hg;obtain⟨m,U,p,_⟩:=I.list F;obtain⟨B,A,Y,_⟩:=I.list C;have hn:=U.length;have hm:=A.length;have W:=WalksT.zip2 (prog:=X.prog) (w:=X.w) (I.ok.hd d) z TI TO l j a b D m.toArray B.toArray;have hs:min m.toArray.size B.toArray.size=min xs.length ys.length:=by rw[a0o,a0o];omega
  refine a0P (n:=X.m) (by ac_rfl)<|W.done s _ _ (by rw[hs];exact⟨f.2.1,f.2.2.1,f.2.2.2.1,f.2.2.2.2.1,f.2.2.2.2.2,p.isList,Y.isList⟩) λS tk kp hn=>⟨rfl,I.Tw (ch:=[z,TO,l,j]) (λc d=>hf c (by simp only[List.mem_cons,List.not_mem_nil,or_false]at d ⊢;rcases d with r|r|r|r<;>simp[r])) kp⟩
 self:=λ_ _ _ _ _ f h=>wpAny_pyIter_zip f.2.1 h
end
def zbc(K:a4p)(f:TA):TI:=λh H R=>f h H λg e=>∃a b c d,g=[.ref a,.ref b]/\SqL K e a c/\SqL K e b d/\R (Itw (min c.length d.length) (λH=>SqL K H a c/\SqL K H b d) (R9 c d)) e
section
variable {X:Cx}{elts:a44}{kk:Nat}{tp p pos:Pos}{e a b:a45}{m:ME}{ms:MA}
def Pl(Q:Gl X "zip")(hm:X.mg "zip"=none)(O:PA X [a,b] ta)(W:starEach [a,b] X.env=[(false,eval a X.env),(false,eval b X.env)]:=by rfl)(i:starEach [b] X.env=[(false,eval b X.env)]:=by rfl):PI X (.Tuple elts kk tp) (.Call (.Name "zip" p) [a,b] [] pos) (zbc X.K ta):=by
 intro f s K H R I h;refine Call_ (fI I Q hm PyProof.Rows.boot_zip (a1Y (thn (O pos f s K H _ I h) λus d ⟨vs,E,l,T,q1⟩=>?_) (by rw[W,i]) (by rw[i];rfl)));obtain⟨D,F,xs,M,rfl,z,x,q⟩:=q1;cases T with
 |cons r y=>
  cases y with
  |cons P y=>
   cases y;cases r;cases P;obtain⟨G,rv,A,_⟩:=l.list z;obtain⟨L,U,n,_⟩:=l.list x;have J:D<d.heap.objs.size:=by obtain⟨o,u,_⟩:=A.isList;exact a0i u
   have N:F<d.heap.objs.size:=by obtain⟨o,u,_⟩:=n.isList;exact a0i u
   refine call_zip_2 A.isList n.isList λh' hz v w g j Y Z=>?_;refine wpAny_pyIter_zip hz ?_;refine⟨d.heap.objs.size+4,[d.heap.objs.size+4,d.heap.objs.size+2,d.heap.objs.size+3,d.heap.objs.size,d.heap.objs.size+1],_,_,E,rfl,l.kept (t':=d.toks) Z,FO _ _ _ _ _ D F xs M (zipApart_new J N),⟨a0Y _,hz,v,⟨_,_,w⟩,g,j⟩,λc B=>?_,q⟩;have ok:∀k,xI X f E (d.heap.objs.size+k):=λk=>l.Ni (a2s _ _) (l.hok.fresh (a2s _ _));simp only[List.mem_cons,List.not_mem_nil,or_false]at B;rcases B with r|r|r|r|r<;>subst r
   .exact ok 4
   .exact ok 2
   .exact ok 3
   .exact ok 0
   .exact ok 1
def Pn(xs ys:a4h):List PV:=List.zipWith (λx y=>.t [x,y]) xs ys
def zax:List PV->Out (List PV)
 |[.l c,.l d]=>.ok (Pn c d)
 |_=>.wall
def R_(ms:MA):MI:=λc=>(ms c).bind zax
def nE(h:H T=none):zH H (upd H T o):=λa u e=>by rw[zm (zT e h)];exact e
def zbd(s:xs.length=n)(d:∀a,M a->N a)(h:∀c,Fr N H2 c->ok c)(r:∀i x,xs[i]?=some x->∃g,x=.t g/\yr W M H2 g (row i)):LJ W M N H2 (Itw n ok row) xs:=λc f=>by refine⟨λi x l=>?_,s,h c f⟩;obtain⟨g,rfl,u⟩:=r i x l;refine⟨⟨by have:=(a0v.mp l).1;omega,h c f⟩,λv q w=>?_⟩;obtain⟨T,rfl,j,rfl⟩:=w;refine⟨nE j,λy sM=>⟨T,row i,rfl,.inl (.inl (zl ..)),?_⟩⟩;exact yr.gen (λa o h m=>nE j _ _ (f a o h (m.imp (d a) id))) (λa m n=>sM a m n) u
end
section
variable {X:Cx}{C:LC}{S:a39}{elts:a44}{kk:Nat}{tp p pos:Pos}{a b:a45}{m1 m2:ME}
def Mi(hg:Gl X "zip")(hm:X.mg "zip"=none)(W:EN X C S a m1)(N:EN X C S b m2)(K:starEach [a,b] X.env=[(false,eval a X.env),(false,eval b X.env)]:=by rfl)(h:starEach [b] X.env=[(false,eval b X.env)]:=by rfl):IM X C S false (.Tuple elts kk tp) (.Call (.Name "zip" p) [a,b] [] pos) (R_ (zb m1 (zb m2 zk))):=λJ=>by
 obtain⟨ta,O,a2⟩:=W J;obtain⟨tb,Y,M⟩:=N J;refine⟨_,Pl hg hm (QW O (QW Y fK (by rw[h];rfl)) (by rw[K,h])) K h,λB P H F o R Q q=>a2 B P H F o R _ ?_⟩;unfold R_ zb at q;revert q;cases m1 o with
 |exc c fs=>exact id
 |wall=>exact id
 |ok L=>
  intro q v1 H1 E r1;refine M B P H1 F o (R.keep E) _ ?_;revert q;cases m2 o with
  |exc c fs=>exact id
  |wall=>exact id
  |ok I=>
   intro G v2 H2 w Z;have q:Cd C B S P false H Q (zax [L,I]):=G;clear G;cases L with
   |l xs=>
    cases I with
    |l U=>
     obtain⟨p1,D,rfl,n1,d,e⟩:=r1;obtain⟨T,y,rfl,n2,j,n⟩:=Z;have d:=w _ _ d;have e:=e.same w;have l1:=e.len;have l2:=n.len;refine⟨p1,T,D,y,rfl,SqL.of d,SqL.of j,q _ H2 (E.trans w) (zbd (by unfold Pn;rw[List.length_zipWith,l1,l2]) (λa m=>Mof.nac m) (λH' f=>⟨SqL.of (f _ _ d (.inl n1)),SqL.of (f _ _ j (.inl n2))⟩) λi x g=>?_)⟩;unfold Pn at g;rw[List.getElem?_zipWith]at g;cases r:xs[i]? with
     |none=>rw[r]at g;cases g
     |some x1=>
      cases z:U[i]? with
      |none=>rw[r,z]at g;cases g
      |some x2=>rw[r,z]at g;cases g;obtain⟨u1,u,v⟩:=e.get r;obtain⟨u2,s,A⟩:=n.get z;exact⟨_,rfl,u1,_,by unfold R9;rw[u,s];rfl,v,u2,[],rfl,A,rfl⟩
    |_=>exact q.elim
   |_=>exact q.elim
end
section
variable {Z:HC}{A:a49}{H:Hp}{G:AH}
theorem Ks(h:HH Z A H G):∀(n:Nat)(x:HV)(v:V)(y:PV),QU Z.W (HM Z A G.length) A G.length H x v->Kr G n x=some y->Rep Z.W (λa=>Z.M0 a\/Z.H0 a=none) H y v
 |0,_,_,_,_,e=>by cases e
 |n+1,.v x,v,y,r,e=>by cases e;exact Rep.sub r λ_ m _=>m.1
 |n+1,.t l,v,y,r,e=>by unfold Kr at e;obtain⟨i,f,rfl⟩:=a0c.mp e;unfold QU at r;obtain⟨p,d,rfl,s,q⟩:=r;exact⟨p,d,rfl,s,WU (Ks h n) q f⟩
 |n+1,.g k,v,y,r,e=>by
  obtain⟨u,rfl⟩:=r;have j:=h.own k u;unfold Kr at e;split at e
  .rename_i l b;obtain⟨i,f,rfl⟩:=a0c.mp e;obtain⟨d,g,q⟩:=h.cell k _ b;exact⟨A k,d,rfl,.inr j,g,WU (Ks h n) q f⟩
  .rename_i l b;obtain⟨i,f,rfl⟩:=a0c.mp e;obtain⟨d,g,q⟩:=h.cell k _ b;exact⟨A k,d,rfl,.inr j,.inl g,WV (Ks h n) q f⟩
  .rename_i l b;obtain⟨i,f,rfl⟩:=a0c.mp e;obtain⟨o,d,g,q⟩:=h.cell k _ b;exact⟨A k,d,rfl,.inr j,.inr ⟨o,g⟩,WV (Ks h n) q f⟩
  .rename_i c l b;obtain⟨i,f,rfl⟩:=a0c.mp e;obtain⟨w,d,g,q⟩:=h.cell k _ b;exact⟨A k,w,d,rfl,.inr j,g,iD (Ks h n) q f⟩
  .rename_i z b;cases e;exact⟨A k,_,rfl,.inl (.inl (h.cell k _ b)),rK z⟩
  .cases e
end
def mkV(c:Nat)(g:List HV->AH->HX HV)(xs:a4h):Out PV:=match g (.g 0::xs.map .v) [.o c []]with
 |.ok (.v .n) G=>(match Kr G 8 (.g 0)with
  |some z=>.ok z
  |none=>.wall)
 |.exc c fs _=>.exc c fs
 |_=>.wall
def FP(M:Mk X.K (C.W.cls c) f)(F:yF X.prog X.w X.K X.mg X.base (CXe X.prog X.w) k f fd ps (hsp C.W n g))(hr:v8 (k+1) X.A)(hg:Gl X x)(hm:X.mg x=some (.ref (C.W.cls c)))(G:Binds X.K fd ps [])(D:Passes (CXe X.prog X.w) X C.E)(ha:AM X C S l (e::u) ms)(E:l.all (!·)=true)(hn:l.length+1=n)
  (O:(x==("__debug__":Str))=false:=by decide) (he:starEach (e::u) X.env=(false,eval e X.env)::starEach u X.env:=by rfl) (hpl:(backTo pos (starEach u X.env)).any (·.1)=false:=by rfl):EM X C S false (.Call (.Name x p) (e::u) [] pos) (zi (mkV c g) ms):=λhK=>by
 obtain⟨ta,a1,a2⟩:=ha hK;refine⟨_,Bl M F hr hg hm G .nil D a1 O he hpl,λB P H σ ρ R Q q=>a2 B P H σ ρ R _ (qe q λr A h s1 Z i=>?_)⟩;intro x s D hd hne;rw[a0s];have U:=R.keep s1;have sm:zH h (upd (upd h s (.own x)) x (.ins (C.W.cls c) s [])):=λb o G=>by rw[zm (zT G D),zm (zT G hd)];exact G
 have sM:∀a,(Mof B S P a\/h a=none)->Mof B S P a:=λa m=>m.elim id λn=>U.new a n;have hM:∀a,Mof B S P a->h a≠none->HM ⟨C.W,h,Mof B S P⟩ (λ_=>x) 1 a:=λa m n=>⟨.inl m,λ_ _ z=>n (z▸D)⟩;have hh:HH ⟨C.W,h,Mof B S P⟩ (λ_=>x) (upd (upd h s (.own x)) x (.ins (C.W.cls c) s [])) [.o c []]:=by
  refine⟨sm,λk d e=>?_,λj k hj hk _=>?_,λk _=>D⟩
  .cases k with
   |zero=>cases e;exact⟨s,[],zl,rfl⟩
   |succ k=>simp at e
  .have hj:j<1:=hj;have hk:k<1:=hk;omega
 have ar:∀{l:a47}{r:a4h}{A:a4a},l.all (!·)=true->jQ C.W (Mof B S P) h l r A->Yt C.W (HM ⟨C.W,h,Mof B S P⟩ (λ_=>x) 1) (λ_=>x) 1 (upd (upd h s (.own x)) x (.ins (C.W.cls c) s [])) (r.map .v) A:=λ{l}=>by
  induction l with
  |nil=>intro r A _ ⟨T,K⟩;subst T;exact K
  |cons w l ih=>
   intro r A E ⟨x',v,xr,vr,T,K,h1,I⟩;subst T;rw[a15,a1G]at E;cases w with
   |true=>cases E.1
   |false=>exact⟨v,vr,K,Rep.gen (M:=Mof B S P) (sm.fr) (λa m n=>hM a m n) (qu.iff.mp h1),ih E.2 I⟩
 have hl:r.length+1=n:=by rw[Z.args.len.2,hn]
 refine⟨⟨C.W,h,Mof B S P⟩,λ_=>x,[.o c []],.g 0::r.map .v,rfl,by rw[a0b,v4,hl],hh,⟨.ref x,A,rfl,⟨Nat.one_pos,rfl⟩,ar E Z.args⟩,?_⟩;unfold mkV at i;revert i;cases g (.g 0::r.map .v) [.o c []]with
 |wall=>exact id
 |exc c' fs G2=>intro i A2 N e L u I g2 he J rf;exact i e L u N (U.same.trans I.same) he J (rf.sub λa m _=>(sM a m.1).1.1)
 |ok y G2=>
  intro i;cases y with
  |v z=>
   cases z with
   |n=>
    intro A2 N Y W v rv;dsimp only at i;split at i
    .rename_i z hz;refine⟨rv,i (.ref x) N Y.same (RV.of ?_)⟩;have:=Ks Y 8 (.g 0) (.ref x) z ⟨a0u Nat.one_pos W.le,by rw[W.agr 0 Nat.one_pos]⟩ hz;exact this.sub λa m _=>sM a m
    .exact i.elim
   |_=>exact i.elim
  |_=>exact i.elim
def Po(K:a4p):List V->Hp->VK->Prop:=λc H Q=>∃(p:Addr)(b:a4k),c=[.ref p]/\SqL K H p (b.map V.int)/\b≠[]/\∀M,M∈b->(∀a∈b,M<=a)->Q (.int M) H
def CU(y:X.calm=true):ZS X (.builtin "min") (Po X.K):=by
 intro f s G H E M Q I r h;obtain⟨p,K,rfl,g,c,q⟩:=h;obtain⟨u,rfl,w⟩:=vals1 r;cases w;obtain⟨i,C,o,_⟩:=I.list g;obtain⟨b,rfl,rfl⟩:=ia C;have e:(b.map (λz=>Value.int z.1 z.2)).toArray=intItems b.toArray:=by unfold intItems;simp
 have d:0<b.toArray.size:=by
  rw[a0o];cases b with
  |nil=>exact absurd rfl c
  |cons a r=>simp
 refine a0P (n:=X.m) (by ac_rfl)<|min_intList (xs:=b.toArray) (I.ok.hd y) (by rw[<- e];exact o.isList) d λv F m A B L=>?_
 obtain⟨t,rfl⟩:=intItems_at A;obtain⟨J,l⟩:=argBest_lt (numAt b.toArray) (b.toArray.size-1);refine⟨.int _,H,I.kept (t':=m) B,⟨t,rfl⟩,q _ ?_ λa x=>?_⟩
 .rw[a36];exact getD_mem (by rw[v4];rw[a0o]at *;omega)
 .obtain⟨j,D,rfl⟩:=mem_getD x;rw[v4]at D;have:=l j (by rw[a0o];omega);rw[a36 (j:=j)]at this;exact this
def A4:List Int->Int
 |[]=>0
 |[a]=>a
 |a::r=>min a (A4 r)
theorem uD:∀{ns:a4k},ns≠[]->A4 ns∈ns
 |[],h=>absurd rfl h
 |[a],_=>by simp[A4]
 |a::b::r,_=>by
  have ih:=uD (ns:=b::r) (by simp);show min a (A4 (b::r))∈_;rcases a3W a (A4 (b::r))with h|h
  .rw[Int.min_eq_left h];exact u8
  .rw[Int.min_eq_right h];exact a0a _ ih
theorem rN:∀{d:a4k}{a:Int},a∈d->A4 d<=a
 |[],_,h=>by cases h
 |[b],a,h=>by simp at h;subst h;exact a03 _
 |b::c::r,a,h=>by
  show min b (A4 (c::r))<=a;rcases a0r.mp h with rfl|h
  .exact Int.min_le_left ..
  .exact a2g (Int.min_le_right ..) (rN h)
def CV:List PV->Out PV
 |[.l b]=>j8 ((AS b).bind λa=>if a=[]then none else some (.i (A4 a)))
 |_=>.wall
def Mj:LfC W (Po W.K) CV:=λM C B H l f Q n h q=>by
 unfold CV at q;split at q
 .obtain⟨z,e,q⟩:=yW q;obtain⟨a,i,e⟩:=a0B.mp e;by_cases hz:a=[]
  .rw[if_pos hz]at e;cases e
  .rw[if_neg hz]at e;cases e;obtain⟨v,r,rfl,⟨p,f,rfl,_,c,d⟩,j⟩:=h;cases(show _=_ from j);rw[ip d i]at c;refine⟨p,a,rfl,SqL.of c,hz,λM g b=>?_⟩;have:M=A4 a:=Int.le_antisymm (b _ (uD hz)) (rN g);rw[this];exact q _ H (zH.refl _) rfl
 .exact q.elim
def Ml(d:X.calm=true)(f:Gl X "min")(b:X.mg "min"=none)(c:AM X C S ws [e] ms)(he:starEach [e] X.env=[(false,eval e X.env)]:=by rfl):EM X C S false (.Call (.Name "min" p) [e] [] pos) (zi CV ms):=
 Ko (λa=>a▸CU d) Mj f b a3w c (he:=he)
end L2
namespace K57
open PySem L2
noncomputable section NCS
def top(i:Nat):Stmt:=PySem.Challenge.pw_fleetpath_k57_whole_closed_downward.main.body.getD i (.Pass ⟨0,0,0,0⟩)
abbrev YM:Stmt:=top 74
abbrev bX:Stmt:=top 75
abbrev V5:Stmt:=top 76
abbrev X6:Stmt:=top 77
abbrev YN:Stmt:=top 78
abbrev X7:Stmt:=top 79
abbrev V6:Stmt:=top 80
abbrev ZU:Stmt:=inClass (top 6) 0
abbrev Q6:Stmt:=top 17
abbrev ZV:Stmt:=inClass (top 4) 0
abbrev ZW:Stmt:=top 14
abbrev Q7:Stmt:=inClass (top 7) 0
abbrev jS:Stmt:=top 16
abbrev ZX:Stmt:=inClass (top 8) 0
abbrev YO:Stmt:=top 40
abbrev ZY:Stmt:=inClass (top 45) 2
abbrev vh:Stmt:=inClass (top 5) 0
abbrev vi:Stmt:=top 15
abbrev wd:Stmt:=inClass (top 26) 0
abbrev Q8:Stmt:=inClass (top 9) 0
abbrev ZZ:Stmt:=inClass (top 27) 0
abbrev Q9:Stmt:=top 28
abbrev vj:Stmt:=top 29
abbrev Q_:Stmt:=inClass (top 30) 0
abbrev YQ:Stmt:=inClass (top 10) 0
abbrev Ja:Stmt:=inClass (top 30) 2
abbrev YR:Stmt:=top 31
abbrev Mm:Stmt:=top 33
abbrev iM:Stmt:=top 34
abbrev we:Stmt:=inClass (top 47) 0
abbrev Z0:Stmt:=top 48
abbrev YS:Stmt:=inClass (top 30) 1
abbrev YT:Stmt:=inClass (top 45) 1
abbrev V7:Stmt:=top 49
abbrev wg:Stmt:=top 36
abbrev rO:Stmt:=top 35
abbrev V8:Stmt:=inClass (top 61) 1
abbrev Jb:Stmt:=inClass (top 64) 1
abbrev V9:Stmt:=inClass (top 60) 0
abbrev Jc:Stmt:=inClass (top 63) 1
abbrev V_:Stmt:=inClass (top 62) 1
abbrev Jd:Stmt:=inClass (top 65) 1
abbrev wj:Stmt:=inClass (top 69) 0
abbrev Wa:Stmt:=top 50
abbrev YU:Stmt:=top 51
abbrev X8:Stmt:=top 58
abbrev rQ:Stmt:=top 59
abbrev YV:Stmt:=top 70
abbrev wm:Stmt:=top 71
abbrev iN:Stmt:=top 72
abbrev X9:Stmt:=top 82
abbrev Wb:Stmt:=top 85
abbrev Je:Stmt:=inClass (top 65) 0
abbrev Z1:Stmt:=top 41
abbrev Jf:Stmt:=top 42
abbrev Z2:Stmt:=top 43
abbrev Jg:Stmt:=inClass (top 45) 0
abbrev bY:Stmt:=top 86
abbrev Jh:Stmt:=top 87
abbrev Wc:Stmt:=top 81
abbrev Wd:Stmt:=inClass (top 61) 0
abbrev We:Stmt:=inClass (top 62) 0
abbrev Ji:Stmt:=inClass (top 63) 0
abbrev Jj:Stmt:=inClass (top 64) 0
abbrev X_:Stmt:=top 84
abbrev Jk:Stmt:=top 88
abbrev Mn:Stmt:=top 89
def scB(N P:a40)(a:Scope):Bool:=(match a.kind with | .function=>true|_=>false)&&(!a.isCoroutine&&(!a.isGenerator&&(decide N.Nodup&&(decide (N.take P.length=P)&&(P.all (λx=>match a.names.lookup x with|some .local=>true|some .cell=>true|_=>false)&&a.names.all λy=>match y.2 with | .free=>false|_=>true)))))
def qZ(h:scB N P sc=true):zo N P sc:=by
 unfold scB at h;simp only[Bool.and_eq_true,decide_eq_true_eq,List.all_eq_true]at h;obtain⟨g,d,c,a,i,b,l⟩:=h;refine⟨?_,by simpa using d,by simpa using c,a,i,λx j=>?_,λy f e=>?_⟩
 .revert g;cases sc.kind<;>simp
 .have:=b x j;split at this<;>simp_all
 .have:=l y f;rw[e]at this;cases this
def dW:zo ["_law_script","_law_k"] ["_law_script","_law_k"] (zg YM):=qZ (by decide +kernel)
def Aj:zo ["_law_script","_law_k","_law_prime"] ["_law_script","_law_k","_law_prime"] (zg bX):=qZ (by decide +kernel)
def yq:zo ["_law_script","_law_at","_law_many","_law_some","_law_cell","_law_signs","_law_way","_law_names_here","_law_k","_law_row","_law_spot"] ["_law_script","_law_at","_law_many"] (zg V5):=qZ (by decide +kernel)
def jv:zo ["_law_script","_law_at","_law_names_here","_law_many","_law_far","_law_ways_here","_law_k","_law_cell"] ["_law_script","_law_at","_law_names_here"] (zg X6):=qZ (by decide +kernel)
def yc:zo ["_law_names_here","_law_ways_here","_law_found","_law_name","_law_one","_law_other","_law_minutes","_law_mid","_law_by"] ["_law_names_here","_law_ways_here"] (zg YN):=qZ (by decide +kernel)
def yx:zo ["_law_script","_law_at","_law_name","_law_places","_law_lengths_here","_law_ahead","_law_first","_law_second","_law_third","_law_origin","_law_goal","_law_more","_law_took","_law_start"] ["_law_script","_law_at","_law_name","_law_places","_law_lengths_here","_law_ahead"] (zg X7):=qZ (by decide +kernel)
def k9:zo ["_law_script","_law_at","_law_names_here","_law_places","_law_lengths_here","_law_trips_here","_law_k","_law_ahead"] ["_law_script","_law_at","_law_names_here","_law_places","_law_lengths_here"] (zg V6):=qZ (by decide +kernel)
def bZ:zo ["self","most"] ["self","most"] (zg ZU):=qZ (by decide +kernel)
def iO:zo ["things","most"] ["things","most"] (zg Q6):=qZ (by decide +kernel)
def b4:zo ["self","name"] ["self","name"] (zg ZV):=qZ (by decide +kernel)
def Jl:zo ["name","sign"] ["name"] (zg ZW):=qZ (by decide +kernel)
def iP:zo ["self","name"] ["self","name"] (zg Q7):=qZ (by decide +kernel)
def Wf:zo ["name","had"] ["name","had"] (zg jS):=qZ (by decide +kernel)
def b5:zo ["self","name"] ["self","name"] (zg ZX):=qZ (by decide +kernel)
def dX:zo ["name","places"] ["name","places"] (zg YO):=qZ (by decide +kernel)
def b6:zo ["self","origin","goal"] ["self","origin","goal"] (zg ZY):=qZ (by decide +kernel)
def Ua:zo ["self","value"] ["self","value"] (zg vh):=qZ (by decide +kernel)
def Ub:zo ["value","least"] ["value","least"] (zg vi):=qZ (by decide +kernel)
def aA:zo ["self","name"] ["self","name"] (zg wd):=qZ (by decide +kernel)
def iQ:zo ["self","origin","goal"] ["self","origin","goal"] (zg Q8):=qZ (by decide +kernel)
def b7:zo ["self","name"] ["self","name"] (zg ZZ):=qZ (by decide +kernel)
def W2:zo ["roads","trip","had","length"] ["roads","trip","had"] (zg Q9):=qZ (by decide +kernel)
def Uc:zo ["trip"] ["trip"] (zg vj):=qZ (by decide +kernel)
def W3:zo ["self","roads","trips","trip"] ["self","roads","trips"] (zg Q_):=qZ (by decide +kernel)
def dY:zo ["self","name"] ["self","name"] (zg YQ):=qZ (by decide +kernel)
def iR:zo ["self","name"] ["self","name"] (zg Ja):=qZ (by decide +kernel)
def KN:zo ["table","names","name"] ["table","names"] (zg YR):=qZ (by decide +kernel)
def uE:zo ["table","one","other","ahead","behind","length"] ["table","one","other"] (zg Mm):=qZ (by decide +kernel)
def nF:zo ["table","one","other","minutes"] ["table","one","other"] (zg iM):=qZ (by decide +kernel)
def aB:zo ["self","first","second"] ["self","first","second"] (zg we):=qZ (by decide +kernel)
def wo:zo ["table","names","one","other"] ["table","names"] (zg Z0):=qZ (by decide +kernel)
def dZ:zo ["self"] ["self"] (zg YS):=qZ (by decide +kernel)
def d3:zo ["self"] ["self"] (zg YT):=qZ (by decide +kernel)
def nG:zo ["table","home","names"] ["table","home","names"] (zg V7):=qZ (by decide +kernel)
def aC:zo ["table","one","names"] ["table","one","names"] (zg wg):=qZ (by decide +kernel)
def uF:zo ["table","names"] ["table"] (zg rO):=qZ (by decide +kernel)
def nH:zo ["self","rows"] ["self","rows"] (zg V8):=qZ (by decide +kernel)
def iS:zo ["self","rows"] ["self","rows"] (zg Jb):=qZ (by decide +kernel)
def nI:zo ["self","rows"] ["self","rows"] (zg V9):=qZ (by decide +kernel)
def qg:zo ["self","rows","driven","kind","begin","end"] ["self","rows"] (zg Jc):=qZ (by decide +kernel)
def UA:zo ["self","rows","worked"] ["self","rows"] (zg V_):=qZ (by decide +kernel)
def iT:zo ["self","rows"] ["self","rows"] (zg Jd):=qZ (by decide +kernel)
def aE:zo ["self","name"] ["self","name"] (zg wj):=qZ (by decide +kernel)
def nJ:zo ["roads","origin","goal"] ["roads","origin","goal"] (zg Wa):=qZ (by decide +kernel)
def d6:zo ["table","home","names"] ["table","home","names"] (zg YU):=qZ (by decide +kernel)
def qh:zo ["table","home","names","minute","place","parts","name","trip","arrival"] ["table","home","names"] (zg X8):=qZ (by decide +kernel)
def FQ:zo ["table","home","names"] ["table","home","names"] (zg rQ):=qZ (by decide +kernel)
def d7:zo ["table","home","rule","name"] ["table","home","rule","name"] (zg YV):=qZ (by decide +kernel)
def Qp:zo ["table","home","rule","names","behind","tried"] ["table","home","rule","names","behind"] (zg wm):=qZ (by decide +kernel)
def wq:zo ["table","home","rule","name","behind","duties","walked","names"] ["table","home","rule"] (zg iN):=qZ (by decide +kernel)
def wt:zo ["_law_rows","_law_least","_law_runs_here","_law_word","_law_start","_law_finish"] ["_law_rows","_law_least"] (zg X9):=qZ (by decide +kernel)
def yK:zo ["_law_script","_law_at","_law_sheets","_law_spans","_law_works","_law_runs_here","_law_specs_here","_law_k","_law_cell","_law_more","_law_begin"] ["_law_script","_law_at","_law_sheets"] (zg Wb):=qZ (by decide +kernel)
def iU:zo ["self","rules"] ["self","rules"] (zg Je):=qZ (by decide +kernel)
def wu:zo ["places","had","name"] ["places"] (zg Z1):=qZ (by decide +kernel)
def vC:zo ["places","ways","origin","goal","minutes"] ["places","ways"] (zg Jf):=qZ (by decide +kernel)
def yf:zo ["origin","ways","heights","changed","start","goal","minutes","height"] ["origin","ways"] (zg Z2):=qZ (by decide +kernel)
def iV:zo ["self","places","ways"] ["self","places","ways"] (zg Jg):=qZ (by decide +kernel)
def Ak:zo ["_law_row"] ["_law_row"] (zg bY):=qZ (by decide +kernel)
def YW:zo ["_law_row","_law_known","_law_behind","_law_k"] ["_law_row","_law_known","_law_behind"] (zg Jh):=qZ (by decide +kernel)
def yL:zo ["_law_row","_law_home","_law_lengths_here","_law_rows","_law_place","_law_minute","_law_trip_here","_law_least"] ["_law_row","_law_home","_law_lengths_here"] (zg Wc):=qZ (by decide +kernel)
def nK:zo ["self","most"] ["self","most"] (zg Wd):=qZ (by decide +kernel)
def nM:zo ["self","most"] ["self","most"] (zg We):=qZ (by decide +kernel)
def iW:zo ["self","most","least"] ["self","most","least"] (zg Ji):=qZ (by decide +kernel)
def iX:zo ["self","first","last"] ["self","first","last"] (zg Jj):=qZ (by decide +kernel)
def rR:zo ["_law_spec"] ["_law_spec"] (zg X_):=qZ (by decide +kernel)
def YX:zo ["_law_row","_law_known","_law_behind","_law_rule_here","_law_table","_law_home","_law_name","_law_longer_here"] ["_law_row","_law_known","_law_behind","_law_rule_here","_law_table","_law_home"] (zg Jk):=qZ (by decide +kernel)
def vw:zo ["_law_script","_law_places","_law_ways_here","_law_lengths_here","_law_many","_law_trips_here","_law_home","_law_rule_here","_law_specs_here","_law_table","_law_found","_law_behind","_law_known","_law_row"] ["_law_script"] (zg Mn):=qZ (by decide +kernel)
abbrev NsN(K:a4n)(x:Str):Prop:=W.nsIn K mainGlobals x=some none
abbrev NsR(K:a4n)(x:Str)(c:Addr):Prop:=W.nsIn K mainGlobals x=some (some (.ref c))
def ev(i:Nat)(d:X.N[i]?=some x:=by rfl)(c:Vis X.env.scope x:=by first|exact Or.inl rfl|exact Or.inr (Or.inl rfl)|exact Or.inr (Or.inr rfl))(b:(x==("__debug__":Str))=false:=by decide)(a:(x==("__classdict__":Str))=false:=by decide):EM X C S true (.Name x pos) (zd i):=Ox (pv i d c b a)
def ei{j}:EM X C S false (.Constant (.int i) j pos) (mC (.i i)):=zV NG
def rm(a:v8 k A)(h:j<=k:=by decide):v8 j A:=a.mono h
def Pp{K:a4n}{C f:Addr}{nm q:Str}{N:Addr}{bs b:a46}{m:a40}{sub:a46}{c:Bool}{a:Option Bool}{dd:a4v}{i g l o d:Option Value}(p:W.findIn K (.ref C) "__init__"=some (some (.ref f)))(j:K.lookup C=some (excClassObj nm q C N bs b true m sub c a dd i g l o d "ValueError.__new__"))(h:mX K b=true)(e:W.typeIn K (.ref f)=some (.type "function"))(n:W.keepIn K (.ref C)=true):XMk K C f:=⟨⟨_,_,_,_,_,_,_,_,_,_,_,_,_,_,_,j,h⟩,p,e,n⟩
abbrev fnT(st:a4z)(sh q:Str)(kV dc pm:Value)(an:a4v)(cd ct:Value):FuncData:=W.fnOf sh q (bu st) (YI st) (zg st) .none kV dc pm an cd ct
abbrev DfN(K:a4n)(x:Str)(st:a4z)(f:Addr)(fd:a4j):Prop:=W.nsIn K mainGlobals x=some (some (.ref f))/\Fun K x x st f fd
structure Def(K:a4n)(mg:a37)(x:Str)(st:a4z)(ps:a40)(f:Addr)(fd:a4j):Prop where
 g:mg x=some (.ref f)
 F:Fun K x x st f fd
 b:Binds K fd ps []
def Def.k(D:Def K mg x st ps f fd):W.keepIn K (.ref f)=true:=D.F.kp
abbrev BN(x q:Str)(st:a4z)(ps:a40):Prop:=∀(kV dc pm:Value)(an:a4v)(cd ct:Value)(us:a46),us.length=ps.length->bindArgs (fnT st x q kV dc pm an cd ct) ⟨us,[]⟩=pure (ps.zip us)
def yg(X:K.In h)(G:h.Ns mainGlobals mg)(D:DfN K x st f fd)(b:BN x x st ps):Def K mg x st ps f fd:=⟨a0K X G D.1,D.2,D.2.binds b⟩
def fz{P:a4M}:∀c∈([]:List Nat),P c:=λ_ h=>nomatch h
def fa{P:a4M}{a:Nat}{l:a39}(h:P a)(t:∀c∈l,P c):∀c∈a::l,P c:=λc b=>(a0r.mp b).elim (λe=>e▸h) (t c)
def al{X:Cx}{W:RC}{fr:Bool}{ws:a47}{a:Str}{c:Nat}{f:a4c}(h:Nl X.prog X.w X.K X.mg X.base X.A a (W.cls c) (lsp W fr (true::ws) f)):∀K sp,RW W fr ws [(c,f)] K sp->Nl X.prog X.w X.K X.mg X.base X.A a K sp:=λK sp ⟨q,e,b,d⟩=>by cases a0l.mp e;subst b d;exact h
def ec{X:Cx}{C:LC}{S:a39}{k j:Nat}{f:Addr}{c:a4j}{d:a40}{fr:Bool}{ws:a47}{g:a4c}{x:Str}{st:a4z}{e:a45}{es:a44}{ms:MA}{p a:Pos}(F:yF X.prog X.w X.K X.mg X.base (CXe X.prog X.w) k f c d (lsp C.W fr ws g))(l:v8 j X.A)(D:Def X.K X.mg x st d f c)(n:Passes (CXe X.prog X.w) X C.E)(i:AM X C S ws (e::es) ms)(h:k<=j:=by decide)(m:Gl X x:=by rfl)
  (b:(x==("__debug__":Str))=false:=by decide) (he:starEach (e::es) X.env=(false,eval e X.env)::starEach es X.env:=by rfl) (hpl:(backTo a (starEach es X.env)).any (·.1)=false:=by rfl):EM X C S false (.Call (.Name x p) (e::es) [] a) (zi g ms):=LB F (l.mono h) m D.g D.k D.b n i b he hpl
def gn(i:Nat)(b:X.N.Nodup)(a:X.N[i]?=some x:=by rfl)(c:Loc X.env.scope x:=by exact .inl rfl)(hf:X.fn x=true\/X.env.scope.names.lookup x=some .local:=by first|exact .inl rfl|exact .inr rfl|assumption):GM X C S (S.set i 0) (.Name x pos) (gNm i):=yw b a c hf
def se(i:Nat)(b:X.N.Nodup)(h:EM X C S false e m)(c:X.N[i]?=some x:=by rfl)(d:Loc X.env.scope x:=by exact .inl rfl)(a:swapsWith e (some (.Name x pos')) pos.line X.env=pure false:=by rfl)(hf:X.fn x=true\/X.env.scope.names.lookup x=some .local:=by first|exact .inl rfl|exact .inr rfl|assumption):SM X C S (S.set i 0) Sb Sc (.Assign [.Name x pos'] e pos) (z8 i m):=bE b c d h a hf
def ix(d:v8 k X.A)(e:EM X C S w1 a m1)(f:EM X C S w2 b m2)(c:g9 b:=by intro _ _;rfl):EM X C S false (.Subscript a b pos) (mOp pIx m1 m2):=SY (qY d) e f c
def hp(h:EM X ⟨W,E,false⟩ (List.replicate 30 0) false e m):HE X W E e (hP bs m):=za9 bs h (a1d.mpr λ_ h=>by rw[a3b h];rfl)
def hf(h:FM X ⟨W,E,false⟩ (List.replicate 30 0) e m):HE X W E e (hF bs m):=zba bs h (a1d.mpr λ_ h=>by rw[a3b h];rfl)
def bn1(h:∀kV a b d cd ct c,bindArgs (fnT st x q kV a b d cd ct) ⟨[c],[]⟩=pure (ps.zip [c]):=by intros;rfl)(hp:ps.length=1:=by rfl):BN x q st ps:=λkV a b d cd ct e f=>S_ (P:=λe=>bindArgs (fnT st x q kV a b d cd ct) ⟨e,[]⟩=pure (ps.zip e)) (f.trans hp) λc=>h kV a b d cd ct c
def bn2(h:∀kV a b d cd ct c e,bindArgs (fnT st x q kV a b d cd ct) ⟨[c,e],[]⟩=pure (ps.zip [c,e]):=by intros;rfl)(hp:ps.length=2:=by rfl):BN x q st ps:=λkV a b d cd ct f g=>Tc (P:=λf=>bindArgs (fnT st x q kV a b d cd ct) ⟨f,[]⟩=pure (ps.zip f)) (g.trans hp) λc e=>h kV a b d cd ct c e
def bn3(h:∀kV a b d cd ct c f e,bindArgs (fnT st x q kV a b d cd ct) ⟨[c,f,e],[]⟩=pure (ps.zip [c,f,e]):=by intros;rfl)(hp:ps.length=3:=by rfl):BN x q st ps:=λkV a b d cd ct g i=>Td (P:=λg=>bindArgs (fnT st x q kV a b d cd ct) ⟨g,[]⟩=pure (ps.zip g)) (i.trans hp) λc f e=>h kV a b d cd ct c f e
def bn4(h:∀kV a b d cd ct c g f e,bindArgs (fnT st x q kV a b d cd ct) ⟨[c,g,f,e],[]⟩=pure (ps.zip [c,g,f,e]):=by intros;rfl)(hp:ps.length=4:=by rfl):BN x q st ps:=λkV a b d cd ct i j=>Te (P:=λi=>bindArgs (fnT st x q kV a b d cd ct) ⟨i,[]⟩=pure (ps.zip i)) (j.trans hp) λc g f e=>h kV a b d cd ct c g f e
def bn5(h:∀kV b c e cd ct d i g f a,bindArgs (fnT st x q kV b c e cd ct) ⟨[d,i,g,f,a],[]⟩=pure (ps.zip [d,i,g,f,a]):=by intros;rfl)(hp:ps.length=5:=by rfl):BN x q st ps:=λkV b c e cd ct j l=>Tf (P:=λj=>bindArgs (fnT st x q kV b c e cd ct) ⟨j,[]⟩=pure (ps.zip j)) (l.trans hp) λd i g f a=>h kV b c e cd ct d i g f a
def bn6(h:∀kV a c e cd ct d j i b g f,bindArgs (fnT st x q kV a c e cd ct) ⟨[d,j,i,b,g,f],[]⟩=pure (ps.zip [d,j,i,b,g,f]):=by intros;rfl)(hp:ps.length=6:=by rfl):BN x q st ps:=λkV a c e cd ct l m=>To (P:=λl=>bindArgs (fnT st x q kV a c e cd ct) ⟨l,[]⟩=pure (ps.zip l)) (m.trans hp) λd j i b g f=>h kV a c e cd ct d j i b g f
structure Adr where
 (wO jB wQ Wk wR Qd Qe kB wU Qf Qg qU oY gE gG Wl Wm Uo kC z4 yh jx v5 qP kr ky Yc yD Yd qx JC z6 Ye yn zx vn zZ wV JD Yf qG zJ JE Qh zr qQ Ao Zx wW yT zB zD qI y9 Wi zW zO zX zP zY z_ wX qj qk kA Yb qS yI Kv km jA qb qy jF yC qH jV qF jw kn ko jD jE v7 qJ Df:Addr)
 (Xs oZ dq gH Xt gI dr Yg U1 Yh Vq JF ZK Yi Xu Yj vo Qy wY JG Yk U2 Qz JH Qi JI Xv RF xy wZ Vr Qj Ql dv JJ D2 Wn JK Wo JL Wq JM w6 dw Xw gJ D3 Xx JN xA gK dy JO Vs U3 Vt JP o6 U4 dz Wr Ws JQ JR gL U5 RG:a4j)
 (Nc o7 fc o8 RH GC RI Nd GD Nf lY sW zaa RJ RK Ng zab RL lZ:Tok)
abbrev zay(K:a4n)(mg:a37)(a:Adr):Prop:=
 (mg "LIMIT"=some (.int 1000000000 a.Nc))/\
 (mg "NAME_SIGNS"=some (.str "abcdefghijklmnopqrstuvwxyz0123456789" a.o7))/\
 (mg "LONGEST_NAME"=some (.int 12 a.fc))/\
 (mg "MOST_TRIPS"=some (.int 40 a.o8))/\
 (mg "NAME"=some (.int 0 a.RH))/\
 (mg "ORIGIN"=some (.int 1 a.GC))/\
 (mg "GOAL"=some (.int 2 a.RI))/\
 (mg "START"=some (.int 3 a.Nd))
abbrev zaz(K:a4n)(mg:a37)(a:Adr):Prop:=
 (mg "FINISH"=some (.int 4 a.GD))/\
 (mg "SEATS"=some (.int 5 a.Nf))/\
 (mg "MOST_PLACES"=some (.int 12 a.lY))/\
 (mg "MOST_WAYS"=some (.int 60 a.sW))/\
 (mg "WAY"=some (.str "way" a.zaa))/\
 (mg "TRIP"=some (.str "trip" a.RJ))/\
 (mg "WAIT"=some (.str "wait" a.RK))/\
 (mg "BEGIN"=some (.int 1 a.Ng))
abbrev Txt2(K:a4n)(mg:a37)(a:Adr):Prop:=
 (mg "END"=some (.int 2 a.zab))/\
 (mg "DEEP"=some (.int 5 a.RL))/\
 (mg "MOST_DUTIES"=some (.int 400 a.lZ))/\
 (mg "BadName"=some (.ref a.wO))/\
 (mg "BadNumber"=some (.ref a.jB))/\
 (mg "TooMany"=some (.ref a.wQ))/\
 (mg "Twice"=some (.ref a.Wk))/\
 (mg "NoPlace"=some (.ref a.wR))
abbrev zaA(K:a4n)(mg:a37)(a:Adr):Prop:=
 (mg "NoWay"=some (.ref a.Qd))/\
 (mg "NoTrip"=some (.ref a.Qe))/\
 (mg "Backward"=some (.ref a.kB))/\
 (mg "TooFast"=some (.ref a.wU))/\
 (mg "Table"=some (.ref a.Qf))/\
 (mg "Roads"=some (.ref a.Qg))/\
 (mg "Unlinked"=some (.ref a.qU))/\
 (mg "Rule"=some (.ref a.oY))
abbrev zaB(K:a4n)(mg:a37)(a:Adr):Prop:=
 (mg "Span"=some (.ref a.gE))/\
 (mg "Work"=some (.ref a.gG))/\
 (mg "Pause"=some (.ref a.Wl))/\
 (mg "Shift"=some (.ref a.Wm))/\
 (mg "AllOf"=some (.ref a.Uo))/\
 (mg "Unlawful"=some (.ref a.kC))/\
 (mg "all"=none)/\
 (mg "dict"=none)
abbrev zaC(K:a4n)(mg:a37)(a:Adr):Prop:=
 (mg "isinstance"=none)/\
 (mg "len"=none)/\
 (mg "list"=none)/\
 (mg "max"=none)/\
 (mg "min"=none)/\
 (mg "range"=none)/\
 (mg "sorted"=none)/\
 (mg "sum"=none)
abbrev zaD(K:a4n)(mg:a37)(a:Adr):Prop:=
 (mg "zip"=none)/\
 (Def K mg "_law_cell_at" YM ["_law_script","_law_k"] a.z4 a.Xs)/\
 (Def K mg "_law_mix" bX ["_law_script","_law_k","_law_prime"] a.yh a.oZ)/\
 (Def K mg "_law_names" V5 ["_law_script","_law_at","_law_many"] a.jx a.dq)/\
 (Def K mg "_law_ways" X6 ["_law_script","_law_at","_law_names_here"] a.v5 a.gH)/\
 (Def K mg "_law_lengths" YN ["_law_names_here","_law_ways_here"] a.qP a.Xt)/\
 (Def K mg "_law_trip" X7 ["_law_script","_law_at","_law_name","_law_places","_law_lengths_here","_law_ahead"] a.kr a.gI)/\
 (Def K mg "_law_trips" V6 ["_law_script","_law_at","_law_names_here","_law_places","_law_lengths_here"] a.ky a.dr)
abbrev zaE(K:a4n)(mg:a37)(a:Adr):Prop:=
 (Fun K "__init__" "TooMany.__init__" ZU a.Yc a.Yg)/\
 (Binds K a.Yg ["self","most"] [])/\
 (Def K mg "check_most" Q6 ["things","most"] a.yD a.U1)/\
 (Fun K "__init__" "BadName.__init__" ZV a.Yd a.Yh)/\
 (Binds K a.Yh ["self","name"] [])/\
 (Def K mg "checked_name" ZW ["name"] a.qx a.Vq)/\
 (Fun K "__init__" "Twice.__init__" Q7 a.JC a.JF)/\
 (Binds K a.JF ["self","name"] [])
abbrev zaF(K:a4n)(mg:a37)(a:Adr):Prop:=
 (Def K mg "checked_new_name" jS ["name","had"] a.z6 a.ZK)/\
 (Fun K "__init__" "NoPlace.__init__" ZX a.Ye a.Yi)/\
 (Binds K a.Yi ["self","name"] [])/\
 (Def K mg "check_place" YO ["name","places"] a.yn a.Xu)/\
 (Fun K "length" "Roads.length" ZY a.zx a.Yj)/\
 (Binds K a.Yj ["self","origin","goal"] [])/\
 (Fun K "__init__" "BadNumber.__init__" vh a.vn a.vo)/\
 (Binds K a.vo ["self","value"] [])
abbrev zaG(K:a4n)(mg:a37)(a:Adr):Prop:=
 (Def K mg "checked_number" vi ["value","least"] a.zZ a.Qy)/\
 (Fun K "__init__" "Backward.__init__" wd a.wV a.wY)/\
 (Binds K a.wY ["self","name"] [])/\
 (Fun K "__init__" "NoWay.__init__" Q8 a.JD a.JG)/\
 (Binds K a.JG ["self","origin","goal"] [])/\
 (Fun K "__init__" "TooFast.__init__" ZZ a.Yf a.Yk)/\
 (Binds K a.Yk ["self","name"] [])/\
 (Def K mg "check_trip" Q9 ["roads","trip","had"] a.qG a.U2)
abbrev Pq(K:a4n)(mg:a37)(a:Adr):Prop:=
 (Def K mg "place_in_order" vj ["trip"] a.zJ a.Qz)/\
 (Fun K "__init__" "Table.__init__" Q_ a.JE a.JH)/\
 (Binds K a.JH ["self","roads","trips"] [])/\
 (Fun K "__init__" "NoTrip.__init__" YQ a.Qh a.Qi)/\
 (Binds K a.Qi ["self","name"] [])/\
 (Fun K "trip" "Table.trip" Ja a.zr a.JI)/\
 (Binds K a.JI ["self","name"] [])/\
 (Def K mg "check_trips" YR ["table","names"] a.qQ a.Xv)
abbrev Pr(K:a4n)(mg:a37)(a:Adr):Prop:=
 (Def K mg "gap" Mm ["table","one","other"] a.Ao a.RF)/\
 (Def K mg "linked" iM ["table","one","other"] a.Zx a.xy)/\
 (Fun K "__init__" "Unlinked.__init__" we a.wW a.wZ)/\
 (Binds K a.wZ ["self","first","second"] [])/\
 (Def K mg "check_linked" Z0 ["table","names"] a.yT a.Vr)/\
 (Fun K "names" "Table.names" YS a.zB a.Qj)/\
 (Binds K a.Qj ["self"] [])/\
 (Fun K "names" "Roads.names" YT a.zD a.Ql)
abbrev Pt(K:a4n)(mg:a37)(a:Adr):Prop:=
 (Binds K a.Ql ["self"] [])/\
 (Def K mg "check_row" V7 ["table","home","names"] a.qI a.dv)/\
 (Def K mg "linked_behind" wg ["table","one","names"] a.y9 a.JJ)/\
 (Def K mg "links" rO ["table"] a.Wi a.D2)/\
 (Fun K "fits" "Span.fits" V8 a.zW a.Wn)/\
 (Binds K a.Wn ["self","rows"] [])/\
 (Fun K "fits" "Shift.fits" Jb a.zO a.JK)/\
 (Binds K a.JK ["self","rows"] [])
abbrev Pu(K:a4n)(mg:a37)(a:Adr):Prop:=
 (Fun K "fits" "Rule.fits" V9 a.zX a.Wo)/\
 (Binds K a.Wo ["self","rows"] [])/\
 (Fun K "fits" "Pause.fits" Jc a.zP a.JL)/\
 (Binds K a.JL ["self","rows"] [])/\
 (Fun K "fits" "Work.fits" V_ a.zY a.Wq)/\
 (Binds K a.Wq ["self","rows"] [])/\
 (Fun K "fits" "AllOf.fits" Jd a.z_ a.JM)/\
 (Binds K a.JM ["self","rows"] [])
abbrev Pw(K:a4n)(mg:a37)(a:Adr):Prop:=
 (Fun K "__init__" "Unlawful.__init__" wj a.wX a.w6)/\
 (Binds K a.w6 ["self","name"] [])/\
 (Def K mg "check_way" Wa ["roads","origin","goal"] a.qj a.dw)/\
 (Def K mg "check_block" YU ["table","home","names"] a.qk a.Xw)/\
 (Def K mg "parts_of" X8 ["table","home","names"] a.kA a.gJ)/\
 (Def K mg "sheet" rQ ["table","home","names"] a.Yb a.D3)/\
 (Def K mg "check_alone" YV ["table","home","rule","name"] a.qS a.Xx)/\
 (Def K mg "longer_by_one" wm ["table","home","rule","names","behind"] a.yI a.JN)
abbrev Px(K:a4n)(mg:a37)(a:Adr):Prop:=
 (Def K mg "lawful" iN ["table","home","rule"] a.Kv a.xA)/\
 (Def K mg "_law_runs" X9 ["_law_rows","_law_least"] a.km a.gK)/\
 (Def K mg "_law_specs" Wb ["_law_script","_law_at","_law_sheets"] a.jA a.dy)/\
 (Fun K "__init__" "AllOf.__init__" Je a.qb a.JO)/\
 (Binds K a.JO ["self","rules"] [])/\
 (Def K mg "check_places" Z1 ["places"] a.qy a.Vs)/\
 (Def K mg "check_ways" Jf ["places","ways"] a.jF a.U3)/\
 (Def K mg "heights_from" Z2 ["origin","ways"] a.yC a.Vt)
abbrev Py(K:a4n)(mg:a37)(a:Adr):Prop:=
 (Fun K "__init__" "Roads.__init__" Jg a.qH a.JP)/\
 (Binds K a.JP ["self","places","ways"] [])/\
 (Def K mg "_law_key" bY ["_law_row"] a.jV a.o6)/\
 (Def K mg "_law_closed" Jh ["_law_row","_law_known","_law_behind"] a.qF a.U4)/\
 (Def K mg "_law_sheet" Wc ["_law_row","_law_home","_law_lengths_here"] a.jw a.dz)/\
 (Fun K "__init__" "Span.__init__" Wd a.kn a.Wr)/\
 (Binds K a.Wr ["self","most"] [])/\
 (Fun K "__init__" "Work.__init__" We a.ko a.Ws)
abbrev Pz(K:a4n)(mg:a37)(a:Adr):Prop:=
 (Binds K a.Ws ["self","most"] [])/\
 (Fun K "__init__" "Pause.__init__" Ji a.jD a.JQ)/\
 (Binds K a.JQ ["self","most","least"] [])/\
 (Fun K "__init__" "Shift.__init__" Jj a.jE a.JR)/\
 (Binds K a.JR ["self","first","last"] [])/\
 (Def K mg "_law_rule" X_ ["_law_spec"] a.v7 a.gL)/\
 (Def K mg "_law_longer" Jk ["_law_row","_law_known","_law_behind","_law_rule_here","_law_table","_law_home"] a.qJ a.U5)/\
 (Def K mg "law" Mn ["_law_script"] a.Df a.RG)
abbrev PB(K:a4n)(mg:a37)(a:Adr):Prop:=
 (QT K a.wO)/\
 (XMk K a.wO a.Yd)/\
 (W.takerIn K a.wO "name"=some none)/\
 (QT K a.jB)/\
 (XMk K a.jB a.vn)/\
 (W.takerIn K a.jB "value"=some none)/\
 (QT K a.wQ)/\
 (XMk K a.wQ a.Yc)
abbrev PC(K:a4n)(mg:a37)(a:Adr):Prop:=
 (W.takerIn K a.wQ "most"=some none)/\
 (QT K a.Wk)/\
 (XMk K a.Wk a.JC)/\
 (W.takerIn K a.Wk "name"=some none)/\
 (QT K a.wR)/\
 (XMk K a.wR a.Ye)/\
 (W.takerIn K a.wR "name"=some none)/\
 (QT K a.Qd)
abbrev PD(K:a4n)(mg:a37)(a:Adr):Prop:=
 (XMk K a.Qd a.JD)/\
 (W.takerIn K a.Qd "origin"=some none)/\
 (W.takerIn K a.Qd "goal"=some none)/\
 (QT K a.Qe)/\
 (XMk K a.Qe a.Qh)/\
 (W.takerIn K a.Qe "name"=some none)/\
 (QT K a.kB)/\
 (XMk K a.kB a.wV)
abbrev PF(K:a4n)(mg:a37)(a:Adr):Prop:=
 (W.takerIn K a.kB "name"=some none)/\
 (QT K a.wU)/\
 (XMk K a.wU a.Yf)/\
 (W.takerIn K a.wU "name"=some none)/\
 (QT K a.qU)/\
 (XMk K a.qU a.wW)/\
 (W.takerIn K a.qU "first"=some none)/\
 (W.takerIn K a.qU "second"=some none)
abbrev PH(K:a4n)(mg:a37)(a:Adr):Prop:=
 (QT K a.kC)/\
 (XMk K a.kC a.wX)/\
 (W.takerIn K a.kC "name"=some none)/\
 (Cls K a.Qf)/\
 (qC K a.Qf "by_name")/\
 (qC K a.Qf "order")/\
 (qC K a.Qf "roads")/\
 (Meth K a.Qf "names" a.zB)
abbrev PJ(K:a4n)(mg:a37)(a:Adr):Prop:=
 (Meth K a.Qf "trip" a.zr)/\
 (Mk K a.Qf a.JE)/\
 (Cls K a.Qg)/\
 (qC K a.Qg "lengths")/\
 (qC K a.Qg "places")/\
 (qC K a.Qg "ways")/\
 (Meth K a.Qg "length" a.zx)/\
 (Meth K a.Qg "names" a.zD)
abbrev PL(K:a4n)(mg:a37)(a:Adr):Prop:=
 (Mk K a.Qg a.qH)/\
 (Cls K a.oY)/\
 (Meth K a.oY "fits" a.zX)/\
 (MkO K a.oY)/\
 (Cls K a.gE)/\
 (qC K a.gE "most")/\
 (Meth K a.gE "fits" a.zW)/\
 (Mk K a.gE a.kn)
abbrev PM(K:a4n)(mg:a37)(a:Adr):Prop:=
 (Cls K a.gG)/\
 (qC K a.gG "most")/\
 (Meth K a.gG "fits" a.zY)/\
 (Mk K a.gG a.ko)/\
 (Cls K a.Wl)/\
 (qC K a.Wl "least")/\
 (qC K a.Wl "most")/\
 (Meth K a.Wl "fits" a.zP)
abbrev PN(K:a4n)(mg:a37)(a:Adr):Prop:=
 (Mk K a.Wl a.jD)/\
 (Cls K a.Wm)/\
 (qC K a.Wm "first")/\
 (qC K a.Wm "last")/\
 (Meth K a.Wm "fits" a.zO)/\
 (Mk K a.Wm a.jE)/\
 (Cls K a.Uo)/\
 (qC K a.Uo "rules")
abbrev PQ(K:a4n)(mg:a37)(a:Adr):Prop:=
 (Meth K a.Uo "fits" a.z_)/\
 (Mk K a.Uo a.qb)/\
 (W.kitOne K (.type "list") (.type "list")=some true)
abbrev Txt(K:a4n)(mg:a37)(a:Adr):Prop:=zay K mg a/\zaz K mg a/\Txt2 K mg a/\zaA K mg a/\zaB K mg a/\zaC K mg a/\zaD K mg a/\zaE K mg a/\zaF K mg a/\zaG K mg a/\Pq K mg a/\Pr K mg a/\Pt K mg a/\Pu K mg a/\Pw K mg a/\Px K mg a/\Py K mg a/\Pz K mg a/\PB K mg a/\PC K mg a/\PD K mg a/\PF K mg a/\PH K mg a/\PJ K mg a/\PL K mg a/\PM K mg a/\PN K mg a/\PQ K mg a
section
variable {K:a4n}{mg:a37}{a:Adr}(T:Txt K mg a)
include T
def Txt.cc0:zay K mg a:=T.1
def Txt.rS:=T.cc0.1
def Txt.Jm:=T.cc0.2.1
def Txt.Z3:=T.cc0.2.2.1
def Txt.Jn:=T.cc0.2.2.2.1
def Txt.UB:=T.cc0.2.2.2.2.1
def Txt.Zj:=T.cc0.2.2.2.2.2.1
def Txt.b8:=T.cc0.2.2.2.2.2.2.1
def Txt.Z4:=T.cc0.2.2.2.2.2.2.2
def Txt.cc1:zaz K mg a:=T.2.1
def Txt.vD:=T.cc1.1
def Txt.rT:=T.cc1.2.1
def Txt.YY:=T.cc1.2.2.1
def Txt.Wg:=T.cc1.2.2.2.1
def Txt.FR:=T.cc1.2.2.2.2.1
def Txt.uG:=T.cc1.2.2.2.2.2.1
def Txt.nN:=T.cc1.2.2.2.2.2.2.1
def Txt.b9:=T.cc1.2.2.2.2.2.2.2
def Txt.cc2:Txt2 K mg a:=T.2.2.1
def Txt.CW:=T.cc2.1
def Txt.CY:=T.cc2.2.1
def Txt.YZ:=T.cc2.2.2.1
def Txt.W4:=T.cc2.2.2.2.1
def Txt.Wh:=T.cc2.2.2.2.2.1
def Txt.b_:=T.cc2.2.2.2.2.2.1
def Txt.rV:=T.cc2.2.2.2.2.2.2.1
def Txt.cb:=T.cc2.2.2.2.2.2.2.2
def Txt.cc3:zaA K mg a:=T.2.2.2.1
def Txt.iY:=T.cc3.1
def Txt.iZ:=T.cc3.2.1
def Txt.Ud:=T.cc3.2.2.1
def Txt.cf:=T.cc3.2.2.2.1
def Txt.rX:=T.cc3.2.2.2.2.1
def Txt.rY:=T.cc3.2.2.2.2.2.1
def Txt.Ue:=T.cc3.2.2.2.2.2.2.1
def Txt.uH:=T.cc3.2.2.2.2.2.2.2
def Txt.cc4:zaB K mg a:=T.2.2.2.2.1
def Txt.CZ:=T.cc4.1
def Txt.C0:=T.cc4.2.1
def Txt.rZ:=T.cc4.2.2.1
def Txt.r8:=T.cc4.2.2.2.1
def Txt.r9:=T.cc4.2.2.2.2.1
def Txt.Ug:=T.cc4.2.2.2.2.2.1
def Txt.C1:=T.cc4.2.2.2.2.2.2.1
def Txt.uI:=T.cc4.2.2.2.2.2.2.2
def Txt.cc5:zaC K mg a:=T.2.2.2.2.2.1
def Txt.Jo:=T.cc5.1
def Txt.kh:=T.cc5.2.1
def Txt.Qq:=T.cc5.2.2.1
def Txt.i4:=T.cc5.2.2.2.1
def Txt.nO:=T.cc5.2.2.2.2.1
def Txt.Z5:=T.cc5.2.2.2.2.2.1
def Txt.i5:=T.cc5.2.2.2.2.2.2.1
def Txt.FT:=T.cc5.2.2.2.2.2.2.2
def Txt.cc6:zaD K mg a:=T.2.2.2.2.2.2.1
def Txt.Mo:=T.cc6.1
def Txt.yz:=T.cc6.2.1
def Txt.qq:=T.cc6.2.2.1
def Txt.qi:=T.cc6.2.2.2.1
def Txt.vW:=T.cc6.2.2.2.2.1
def Txt.qO:=T.cc6.2.2.2.2.2.1
def Txt.Kt:=T.cc6.2.2.2.2.2.2.1
def Txt.ki:=T.cc6.2.2.2.2.2.2.2
def Txt.cc7:zaE K mg a:=T.2.2.2.2.2.2.2.1
def Txt.d8:=T.cc7.1
def Txt.d9:=T.cc7.2.1
def Txt.qE:=T.cc7.2.2.1
def Txt.d_:=T.cc7.2.2.2.1
def Txt.KO:=T.cc7.2.2.2.2.1
def Txt.kI:=T.cc7.2.2.2.2.2.1
def Txt.nP:=T.cc7.2.2.2.2.2.2.1
def Txt.nQ:=T.cc7.2.2.2.2.2.2.2
def Txt.cc8:zaF K mg a:=T.2.2.2.2.2.2.2.2.1
def Txt.yM:=T.cc8.1
def Txt.eA:=T.cc8.2.1
def Txt.eB:=T.cc8.2.2.1
def Txt.yN:=T.cc8.2.2.2.1
def Txt.eC:=T.cc8.2.2.2.2.1
def Txt.qv:=T.cc8.2.2.2.2.2.1
def Txt.aF:=T.cc8.2.2.2.2.2.2.1
def Txt.aG:=T.cc8.2.2.2.2.2.2.2
def Txt.cc9:zaG K mg a:=T.2.2.2.2.2.2.2.2.2.1
def Txt.yy:=T.cc9.1
def Txt.cg:=T.cc9.2.1
def Txt.cj:=T.cc9.2.2.1
def Txt.nR:=T.cc9.2.2.2.1
def Txt.UC:=T.cc9.2.2.2.2.1
def Txt.eE:=T.cc9.2.2.2.2.2.1
def Txt.eF:=T.cc9.2.2.2.2.2.2.1
def Txt.Zk:=T.cc9.2.2.2.2.2.2.2
def Txt.HJ:Pq K mg a:=T.2.2.2.2.2.2.2.2.2.2.1
def Txt.qr:=T.HJ.1
def Txt.nS:=T.HJ.2.1
def Txt.nU:=T.HJ.2.2.1
def Txt.i6:=T.HJ.2.2.2.1
def Txt.i7:=T.HJ.2.2.2.2.1
def Txt.nV:=T.HJ.2.2.2.2.2.1
def Txt.qa:=T.HJ.2.2.2.2.2.2.1
def Txt.vE:=T.HJ.2.2.2.2.2.2.2
def Txt.HK:Pr K mg a:=T.2.2.2.2.2.2.2.2.2.2.2.1
def Txt.FU:=T.HK.1
def Txt.W5:=T.HK.2.1
def Txt.ck:=T.HK.2.2.1
def Txt.cn:=T.HK.2.2.2.1
def Txt.kJ:=T.HK.2.2.2.2.1
def Txt.i8:=T.HK.2.2.2.2.2.1
def Txt.vF:=T.HK.2.2.2.2.2.2.1
def Txt.i9:=T.HK.2.2.2.2.2.2.2
def Txt.HL:Pt K mg a:=T.2.2.2.2.2.2.2.2.2.2.2.2.1
def Txt.vG:=T.HL.1
def Txt.wx:=T.HL.2.1
def Txt.y3:=T.HL.2.2.1
def Txt.Y0:=T.HL.2.2.2.1
def Txt.r_:=T.HL.2.2.2.2.1
def Txt.Y1:=T.HL.2.2.2.2.2.1
def Txt.nW:=T.HL.2.2.2.2.2.2.1
def Txt.Zl:=T.HL.2.2.2.2.2.2.2
def Txt.HN:Pu K mg a:=T.2.2.2.2.2.2.2.2.2.2.2.2.2.1
def Txt.sd:=T.HN.1
def Txt.Y2:=T.HN.2.1
def Txt.nX:=T.HN.2.2.1
def Txt.Zm:=T.HN.2.2.2.1
def Txt.sf:=T.HN.2.2.2.2.1
def Txt.Y3:=T.HN.2.2.2.2.2.1
def Txt.nY:=T.HN.2.2.2.2.2.2.1
def Txt.Jp:=T.HN.2.2.2.2.2.2.2
def Txt.HP:Pw K mg a:=T.2.2.2.2.2.2.2.2.2.2.2.2.2.2.1
def Txt.cq:=T.HP.1
def Txt.cu:=T.HP.2.1
def Txt.wy:=T.HP.2.2.1
def Txt.vH:=T.HP.2.2.2.1
def Txt.vX:=T.HP.2.2.2.2.1
def Txt.vk:=T.HP.2.2.2.2.2.1
def Txt.vI:=T.HP.2.2.2.2.2.2.1
def Txt.y4:=T.HP.2.2.2.2.2.2.2
def Txt.HQ:Px K mg a:=T.2.2.2.2.2.2.2.2.2.2.2.2.2.2.2.1
def Txt.Ku:=T.HQ.1
def Txt.vY:=T.HQ.2.1
def Txt.kj:=T.HQ.2.2.1
def Txt.nZ:=T.HQ.2.2.2.1
def Txt.n4:=T.HQ.2.2.2.2.1
def Txt.kK:=T.HQ.2.2.2.2.2.1
def Txt.Zn:=T.HQ.2.2.2.2.2.2.1
def Txt.qw:=T.HQ.2.2.2.2.2.2.2
def Txt.HU:Py K mg a:=T.2.2.2.2.2.2.2.2.2.2.2.2.2.2.2.2.1
def Txt.n5:=T.HU.1
def Txt.n6:=T.HU.2.1
def Txt.Yv:=T.HU.2.2.1
def Txt.Zo:=T.HU.2.2.2.1
def Txt.kl:=T.HU.2.2.2.2.1
def Txt.si:=T.HU.2.2.2.2.2.1
def Txt.sj:=T.HU.2.2.2.2.2.2.1
def Txt.so:=T.HU.2.2.2.2.2.2.2
def Txt.HW:Pz K mg a:=T.2.2.2.2.2.2.2.2.2.2.2.2.2.2.2.2.2.1
def Txt.sr:=T.HW.1
def Txt.n8:=T.HW.2.1
def Txt.n_:=T.HW.2.2.1
def Txt.oa:=T.HW.2.2.2.1
def Txt.og:=T.HW.2.2.2.2.1
def Txt.vZ:=T.HW.2.2.2.2.2.1
def Txt.Zp:=T.HW.2.2.2.2.2.2.1
def Txt.C2:=T.HW.2.2.2.2.2.2.2
def Txt.HY:PB K mg a:=T.2.2.2.2.2.2.2.2.2.2.2.2.2.2.2.2.2.2.1
def Txt.cw:=T.HY.1
def Txt.oh:=T.HY.2.1
def Txt.cx:=T.HY.2.2.1
def Txt.cy:=T.HY.2.2.2.1
def Txt.su:=T.HY.2.2.2.2.1
def Txt.W6:=T.HY.2.2.2.2.2.1
def Txt.oi:=T.HY.2.2.2.2.2.2.1
def Txt.C3:=T.HY.2.2.2.2.2.2.2
def Txt.HZ:PC K mg a:=T.2.2.2.2.2.2.2.2.2.2.2.2.2.2.2.2.2.2.2.1
def Txt.cz:=T.HZ.1
def Txt.C4:=T.HZ.2.1
def Txt.Mp:=T.HZ.2.2.1
def Txt.i_:=T.HZ.2.2.2.1
def Txt.oj:=T.HZ.2.2.2.2.1
def Txt.C5:=T.HZ.2.2.2.2.2.1
def Txt.cA:=T.HZ.2.2.2.2.2.2.1
def Txt.la:=T.HZ.2.2.2.2.2.2.2
def Txt.H_:PD K mg a:=T.2.2.2.2.2.2.2.2.2.2.2.2.2.2.2.2.2.2.2.2.1
def Txt.C6:=T.H_.1
def Txt.cB:=T.H_.2.1
def Txt.lb:=T.H_.2.2.1
def Txt.uJ:=T.H_.2.2.2.1
def Txt.FV:=T.H_.2.2.2.2.1
def Txt.eG:=T.H_.2.2.2.2.2.1
def Txt.fY:=T.H_.2.2.2.2.2.2.1
def Txt.Al:=T.H_.2.2.2.2.2.2.2
def Txt.Ia:PF K mg a:=T.2.2.2.2.2.2.2.2.2.2.2.2.2.2.2.2.2.2.2.2.2.1
def Txt.aH:=T.Ia.1
def Txt.om:=T.Ia.2.1
def Txt.C7:=T.Ia.2.2.1
def Txt.cC:=T.Ia.2.2.2.1
def Txt.Uh:=T.Ia.2.2.2.2.1
def Txt.Am:=T.Ia.2.2.2.2.2.1
def Txt.Ui:=T.Ia.2.2.2.2.2.2.1
def Txt.W7:=T.Ia.2.2.2.2.2.2.2
def Txt.Ib:PH K mg a:=T.2.2.2.2.2.2.2.2.2.2.2.2.2.2.2.2.2.2.2.2.2.2.1
def Txt.fZ:=T.Ib.1
def Txt.An:=T.Ib.2.1
def Txt.aI:=T.Ib.2.2.1
def Txt.z1:=T.Ib.2.2.2.1
def Txt.qt:=T.Ib.2.2.2.2.1
def Txt.KP:=T.Ib.2.2.2.2.2.1
def Txt.yB:=T.Ib.2.2.2.2.2.2.1
def Txt.kL:=T.Ib.2.2.2.2.2.2.2
def Txt.Ic:PJ K mg a:=T.2.2.2.2.2.2.2.2.2.2.2.2.2.2.2.2.2.2.2.2.2.2.2.1
def Txt.yO:=T.Ic.1
def Txt.FW:=T.Ic.2.1
def Txt.yP:=T.Ic.2.2.1
def Txt.Qr:=T.Ic.2.2.2.1
def Txt.jT:=T.Ic.2.2.2.2.1
def Txt.lg:=T.Ic.2.2.2.2.2.1
def Txt.y6:=T.Ic.2.2.2.2.2.2.1
def Txt.kM:=T.Ic.2.2.2.2.2.2.2
def Txt.Ie:PL K mg a:=T.2.2.2.2.2.2.2.2.2.2.2.2.2.2.2.2.2.2.2.2.2.2.2.2.1
def Txt.FX:=T.Ie.1
def Txt.lh:=T.Ie.2.1
def Txt.Zq:=T.Ie.2.2.1
def Txt.C8:=T.Ie.2.2.2.1
def Txt.Jq:=T.Ie.2.2.2.2.1
def Txt.Zr:=T.Ie.2.2.2.2.2.1
def Txt.Zs:=T.Ie.2.2.2.2.2.2.1
def Txt.Mq:=T.Ie.2.2.2.2.2.2.2
def Txt.Ig:PM K mg a:=T.2.2.2.2.2.2.2.2.2.2.2.2.2.2.2.2.2.2.2.2.2.2.2.2.2.1
def Txt.Jr:=T.Ig.1
def Txt.Zt:=T.Ig.2.1
def Txt.Zu:=T.Ig.2.2.1
def Txt.Mr:=T.Ig.2.2.2.1
def Txt.kN:=T.Ig.2.2.2.2.1
def Txt.KQ:=T.Ig.2.2.2.2.2.1
def Txt.vJ:=T.Ig.2.2.2.2.2.2.1
def Txt.vL:=T.Ig.2.2.2.2.2.2.2
def Txt.Ih:PN K mg a:=T.2.2.2.2.2.2.2.2.2.2.2.2.2.2.2.2.2.2.2.2.2.2.2.2.2.2.1
def Txt.FY:=T.Ih.1
def Txt.Zv:=T.Ih.2.1
def Txt.KR:=T.Ih.2.2.1
def Txt.W8:=T.Ih.2.2.2.1
def Txt.vM:=T.Ih.2.2.2.2.1
def Txt.FZ:=T.Ih.2.2.2.2.2.1
def Txt.W9:=T.Ih.2.2.2.2.2.2.1
def Txt.KS:=T.Ih.2.2.2.2.2.2.2
def Txt.Tx:PQ K mg a:=T.2.2.2.2.2.2.2.2.2.2.2.2.2.2.2.2.2.2.2.2.2.2.2.2.2.2.2
def Txt.Y4:=T.Tx.1
def Txt.F2:=T.Tx.2.1
def Txt.Js:=T.Tx.2.2
end
def cls(a:Adr):Nat->Addr
 |1=>a.wO
 |2=>a.jB
 |3=>a.wQ
 |4=>a.Wk
 |5=>a.wR
 |6=>a.Qd
 |7=>a.Qe
 |8=>a.kB
 |9=>a.wU
 |10=>a.Qf
 |11=>a.Qg
 |12=>a.qU
 |13=>a.oY
 |14=>a.gE
 |15=>a.gG
 |16=>a.Wl
 |17=>a.Wm
 |18=>a.Uo
 |19=>a.kC
 |_=>0
abbrev WW(K:a4n)(a:Adr):RC:=⟨K,cls a⟩
abbrev Y5:MS:=
  (zI (sIf (z9 (mOp pLt (zd 1) (zi Yo (zb (zd 0) zk)))) (je (mOp pIx (zd 0) (zd 1))) zR)
  (je (mC (.i 0))))
def z4:List PV->Out PV:=kg false 2 Y5
abbrev wz:MG:=
  (gNm 3)
abbrev wA:MS:=
  (nA 2 (zb (zd 3) (zb (zd 3) zk)) (mC (.i 0)))
abbrev wB:MG:=
  (gTp 3 (jf (gNm 4) (jf (gNm 5) (jf (gNm 6) ng))))
abbrev wC:MS:=
  (nA 2 (zb (zd 4) (zb (zd 5) zk)) (zi bB (zb (zd 6) (zb (Ai (zd 2) (zb (zd 4) (zb (zd 5) zk)) (zd 6)) zk))))
abbrev wD:MG:=
  (gNm 5)
abbrev jU:MS:=
  (sIf (fP (z9 (CF false (zb (zd 4) (zb (zd 7) zk)) (zd 2))) (z9 (CF false (zb (zd 7) (zb (zd 5) zk)) (zd 2)))) (zI (z8 8 (mOp z0 (ny (zd 2) (zb (zd 4) (zb (zd 7) zk))) (ny (zd 2) (zb (zd 7) (zb (zd 5) zk)))))
  (nA 2 (zb (zd 4) (zb (zd 5) zk)) (zi bB (zb (zd 8) (zb (Ai (zd 2) (zb (zd 4) (zb (zd 5) zk)) (zd 8)) zk))))) zR)
abbrev wF:MG:=
  (gNm 4)
abbrev wG:MS:=
  (Kz (zS (zd 0)) wD jU)
abbrev wH:MG:=
  (gNm 7)
abbrev wI:MS:=
  (Kz (zS (zd 0)) wF wG)
abbrev W_:MS:=
  (zI (z8 2 Hy)
  (zI (Kz (zS (zd 0)) wz wA)
  (zI (Kz (zS (zd 1)) wB wC)
  (zI (Kz (zS (zd 0)) wH wI)
  (je (zd 2))))))
def qP:List PV->Out PV:=kg true 9 W_
abbrev Qs:MS:=
  (je (Ux (zb (mOp pIx (zd 0) (mC (.i 3))) (zb (mOp pIx (zd 0) (mC (.i 4))) (zb (mOp pIx (zd 0) (mC (.i 0))) zk)))))
def zJ:List PV->Out PV:=kg false 1 Qs
abbrev Xa:MS:=
  (je (zi Ys (zb (vV [10] "order" (zd 0)) zk)))
def zB:List PV->Out PV:=kg true 1 Xa
abbrev Xb:MS:=
  (je (zi Ys (zb (vV [11] "places" (zd 0)) zk)))
def zD:List PV->Out PV:=kg true 1 Xb
abbrev cD:MS:=
  (je (Np (mOp (ke false) (zi Yo (zb (zd 1) zk)) (mC (.i 0))) (mOp pLe (mOp WH (mOp pIx (mOp pIx (zd 1) (mUn pO (mC (.i 1)))) (mC (.i 2))) (mOp pIx (mOp pIx (zd 1) (mC (.i 0))) (mC (.i 1)))) (vV [14,15,16] "most" (zd 0)))))
def zW:List PV->Out PV:=kg false 2 cD
abbrev UD:MS:=
  (je (Np (mOp (ke false) (zi Yo (zb (zd 1) zk)) (mC (.i 0))) (BP (mOp pLe (vV [17] "first" (zd 0)) (mOp pIx (mOp pIx (zd 1) (mC (.i 0))) (mC (.i 1)))) (mOp pLe (mOp pIx (mOp pIx (zd 1) (mUn pO (mC (.i 1)))) (mC (.i 2))) (vV [17] "last" (zd 0))))))
def zO:List PV->Out PV:=kg false 2 UD
abbrev cE:MS:=
  (je (mC (.b true)))
def zX:List PV->Out PV:=kg false 2 cE
abbrev Z6:MG:=
  (gTp 3 (jf (gNm 3) (jf (gNm 4) (jf (gNm 5) ng))))
abbrev jg:MS:=
  (zI (sIf (fP (z9 (mOp (ke false) (zd 3) (mC (.s "wait")))) (z9 (mOp pGe (mOp WH (zd 5) (zd 4)) (vV [16] "least" (zd 0))))) (z8 2 (mC (.i 0))) zR)
  (sIf (z9 (mOp (ke false) (zd 3) (mC (.s "trip")))) (zI (OS 2 (pI λa b=>.i (a+b)) (mOp WH (zd 5) (zd 4)))
  (sIf (z9 (mOp pGt (zd 2) (vV [14,15,16] "most" (zd 0)))) (je (mC (.b false))) zR)) zR))
abbrev UE:MS:=
  (zI (z8 2 (mC (.i 0)))
  (zI (Kz (zS (zd 1)) Z6 jg)
  (je (mC (.b true)))))
def zP:List PV->Out PV:=kg false 6 UE
abbrev KU:MG:=
  (gTp 3 (jf (gNm 0) (jf (gNm 1) (jf (gNm 2) ng))))
abbrev KW:MT:=
  (z9 (mOp (ke true) (zd 0) (mC (.s "wait"))))
abbrev KY:ME:=
  (mOp WH (zd 2) (zd 1))
abbrev cF:MS:=
  (zI (z8 2 (zi Hg (zb (mLC (zS (zd 1)) [none,none,none] KU KW KY) zk)))
  (je (Np (mOp (ke false) (zi Yo (zb (zd 1) zk)) (mC (.i 0))) (mOp pLe (zd 2) (vV [14,15,16] "most" (zd 0))))))
def zY:List PV->Out PV:=kg false 3 cF
abbrev k_:MG:=
  (gTp 3 (jf (gNm 3) (jf (gNm 4) (jf (gNm 5) ng))))
abbrev vc:MS:=
  (zI (sIf (fP (z9 (mOp (ke false) (zd 3) (mC (.s "wait")))) (z9 (mOp pGe (mOp WH (zd 5) (zd 4)) (zd 1)))) (X3 2 (mC (.i 0))) zR)
  (sIf (z9 (mOp (ke false) (zd 3) (mC (.s "trip")))) (x_ 2 (mUn pO (mC (.i 1))) (mOp WH (mOp z0 (mOp pIx (zd 2) (mUn pO (mC (.i 1)))) (zd 5)) (zd 4))) zR))
abbrev f6:MS:=
  (zI (z8 2 (V1 (zb (mC (.i 0)) zk)))
  (zI (Kz (zS (zd 0)) k_ vc)
  (je (zd 2))))
def km:List PV->Out PV:=kg true 6 f6
abbrev UG:MS:=
  (WN 0 [18] "rules" (zi Ys (zb (zd 1) zk)))
def qb:List PV->Out PV:=Hn 18 1 UG
abbrev Qt:MG:=
  (gTp 3 (jf (gNm 4) (jf (gNm 5) (jf (gNm 6) ng))))
abbrev jh:MS:=
  (sIf (z9 (mOp (pIn false) (zd 4) (zd 2))) (zI (z8 7 (mOp z0 (mOp pIx (zd 2) (zd 4)) (zd 6)))
  (sIf (mOr (z9 (mOp (pIn true) (zd 5) (zd 2))) (z9 (mOp pLt (zd 7) (mOp pIx (zd 2) (zd 5))))) (zI (Eu 2 (zd 5) (zd 7))
  (z8 3 (mC (.b true)))) zR)) zR)
abbrev jj:MT:=
  (z9 (zd 3))
abbrev yJ:MS:=
  (zI (z8 3 (mC (.b false)))
  (Kz (zS (zd 1)) Qt jh))
abbrev KZ:MS:=
  (zI (z8 2 (mD1 (zd 0) (mC (.i 0))))
  (zI (z8 3 (mC (.b true)))
  (zI (bI jj yJ)
  (je (zd 2)))))
def yC:List PV->Out PV:=kg true 8 KZ
abbrev oq:MS:=
  (je (RY iF (mC (.s " ")) (zd 0)))
def jV:List PV->Out PV:=kg false 1 oq
abbrev Xc:MG:=
  (gNm 6)
abbrev Y6:MS:=
  (zI (z8 7 (ny (zd 2) (zb (zd 4) (zb (mOp pIx (zd 6) (mC (.i 1))) zk))))
  (zI (sIf (z9 (mOp (AR false) (zd 5) (mC .n))) (z8 5 (mOp WH (mOp pIx (zd 6) (mC (.i 3))) (zd 7))) zR)
  (zI (sIf (z9 (mOp pGt (zd 7) (mC (.i 0)))) (X3 3 (Ux (zb (mC (.s "way")) (zb (zd 5) (zb (mOp z0 (zd 5) (zd 7)) zk))))) zR)
  (zI (sIf (z9 (mOp pLt (mOp z0 (zd 5) (zd 7)) (mOp pIx (zd 6) (mC (.i 3))))) (X3 3 (Ux (zb (mC (.s "wait")) (zb (mOp z0 (zd 5) (zd 7)) (zb (mOp pIx (zd 6) (mC (.i 3))) zk))))) zR)
  (zI (X3 3 (Ux (zb (mC (.s "trip")) (zb (mOp pIx (zd 6) (mC (.i 3))) (zb (mOp pIx (zd 6) (mC (.i 4))) zk)))))
  (zI (z8 4 (mOp pIx (zd 6) (mC (.i 2))))
  (z8 5 (mOp pIx (zd 6) (mC (.i 4))))))))))
abbrev cG:MS:=
  (zI (z8 3 (V1 zk))
  (zI (z8 4 (zd 1))
  (zI (z8 5 (mC .n))
  (zI (Kz (zS (zd 0)) Xc Y6)
  (zI (sIf (fP (z9 (mOp (ke true) (zd 0) (V1 zk))) (z9 (mOp pGt (ny (zd 2) (zb (zd 4) (zb (zd 1) zk))) (mC (.i 0))))) (X3 3 (Ux (zb (mC (.s "way")) (zb (zd 5) (zb (mOp z0 (zd 5) (ny (zd 2) (zb (zd 4) (zb (zd 1) zk)))) zk))))) zR)
  (je (zd 3)))))))
def jw:List PV->Out PV:=kg true 8 cG
abbrev cH:MS:=
  (WN 0 [14] "most" (zd 1))
def kn:List PV->Out PV:=Hn 14 1 cH
abbrev cI:MS:=
  (WN 0 [15] "most" (zd 1))
def ko:List PV->Out PV:=Hn 15 1 cI
abbrev UH:MS:=
  (zI (WN 0 [16] "most" (zd 1))
  (WN 0 [16] "least" (zd 2)))
def jD:List PV->Out PV:=Hn 16 2 UH
abbrev UI:MS:=
  (zI (WN 0 [17] "first" (zd 1))
  (WN 0 [17] "last" (zd 2)))
def jE:List PV->Out PV:=Hn 17 2 UI
abbrev ot:MS:=
  (je (mOp zQ (mOp Ky (mOp zQ (zi z4 (zb (zd 0) (zb (zd 1) zk))) (mC (.i 1000000007))) (mC (.i 48271))) (zd 2)))
def yh:List PV->Out PV:=kg false 3 ot
abbrev f7:MS:=
  (zI (z8 6 (zi z4 (zb (zd 0) (zb (zd 1) zk))))
  (zI (z8 7 (zi z4 (zb (zd 0) (zb (mOp z0 (zd 1) (mC (.i 1))) zk))))
  (zI (z8 8 (zi z4 (zb (zd 0) (zb (mOp z0 (zd 1) (mC (.i 2))) zk))))
  (zI (z8 9 (mOp pIx (zd 3) (mOp zQ (zd 6) (zi Yo (zb (zd 3) zk)))))
  (zI (z8 10 (mOp pIx (zd 3) (mOp zQ (mOp qM (zd 6) (mC (.i 5))) (zi Yo (zb (zd 3) zk)))))
  (zI (sIf (z9 (CF true (zb (zd 9) (zb (zd 10) zk)) (zd 4))) (z8 10 (zd 9)) zR)
  (zI (z8 11 (mOp pIx (V1 (zb (mC (.i 0)) (zb (mOp zQ (zd 8) (mC (.i 60))) (zb (mOp zQ (zd 7) (mC (.i 7))) (zb (mOp zQ (zd 8) (mOp rj (mC (.i 10)) (mC (.i 8)))) zk))))) (mOp zQ (mOp qM (zd 6) (mC (.i 25))) (mC (.i 4)))))
  (zI (z8 12 (zi x9 (zb (mC (.i 1)) (zb (mOp z0 (ny (zd 4) (zb (zd 9) (zb (zd 10) zk))) (zd 11)) zk))))
  (zI (z8 13 (mOp pIx (V1 (zb (mOp zQ (zd 7) (mC (.i 1440))) (zb (mOp zQ (zd 7) (mC (.i 200))) (zb (mOp zQ (zd 7) (mOp rj (mC (.i 10)) (mC (.i 9)))) zk)))) (mOp zQ (mOp qM (zd 6) (mC (.i 100))) (mC (.i 3)))))
  (zI (sIf (fP (z9 (mOp (ke false) (mOp zQ (mOp qM (zd 6) (mC (.i 300))) (mC (.i 2))) (mC (.i 1)))) (fP (z9 (mOp (AR true) (zd 5) (mC .n))) (z9 (CF false (zb (mOp pIx (zd 5) (mC (.i 2))) (zb (zd 9) zk)) (zd 4))))) (z8 13 (mOp WH (mOp z0 (mOp z0 (mOp pIx (zd 5) (mC (.i 4))) (ny (zd 4) (zb (mOp pIx (zd 5) (mC (.i 2))) (zb (zd 9) zk)))) (mOp zQ (zd 7) (mC (.i 3)))) (mC (.i 1)))) zR)
  (zI (z8 13 (zi bB (zb (zd 13) (zb (mOp WH (mOp rj (mC (.i 10)) (mC (.i 9))) (zd 12)) zk))))
  (je (Ux (zb (zd 2) (zb (zd 9) (zb (zd 10) (zb (zd 13) (zb (mOp z0 (zd 13) (zd 12)) (zb (mOp zQ (mOp qM (zd 8) (mC (.i 7))) (mOp z0 (mOp rj (mC (.i 10)) (mC (.i 9))) (mC (.i 1)))) zk)))))))))))))))))))
def kr:List PV->Out PV:=kg false 14 f7
abbrev Jt:MG:=
  (gNm 0)
abbrev cJ:MT:=
  fQ
abbrev Ju:ME:=
  (yE [(13,zX),(14,zW),(15,zY),(16,zP),(17,zO)] "fits" (zd 0) (zb (zd 1) zk))
abbrev UJ:MS:=
  (je (zi Ff (zb (mLC (zS (vV [18] "rules" (zd 0))) [none,some 1] Jt cJ Ju) zk)))
def z_:List PV->Out PV:=kg false 2 UJ
abbrev Z7:MG:=
  (gNm 3)
abbrev Z8:MS:=
  (sIf (z9 (mOp (pIn true) (mOp pIx (zd 0) (mOp z0 (zd 3) (mC (.i 1)))) (mOp pIx (zd 2) (mOp pIx (zd 0) (zd 3))))) (je (mC (.b false))) zR)
abbrev K0:MG:=
  (gNm 3)
abbrev K1:MS:=
  (sIf (z9 (mOp (pIn true) (zi jV (zb (mOp z0 (mSl pSl (zd 0) my (Yq (zd 3))) (mSl pSl (zd 0) (Yq (mOp z0 (zd 3) (mC (.i 1)))) my)) zk)) (zd 1))) (je (mC (.b false))) zR)
abbrev UK:MS:=
  (zI (Kz (V4 (zb (mOp WH (zi Yo (zb (zd 0) zk)) (mC (.i 1))) zk)) Z7 Z8)
  (zI (sIf (z9 (mOp pGt (zi Yo (zb (zd 0) zk)) (mC (.i 1)))) (Kz (V4 (zb (zi Yo (zb (zd 0) zk)) zk)) K0 K1) zR)
  (je (mC (.b true)))))
def qF:List PV->Out PV:=kg false 4 UK
abbrev K2:MG:=
  (gNm 0)
abbrev K3:MT:=
  fQ
abbrev K4:ME:=
  (mOp zQ (mOp zQ (mOp z0 (mOp Ky (zd 1) (mC (.i 16807))) (mOp Ky (mOp Ky (mC (.i 7919)) (zd 0)) (zd 0))) (mC (.i 65521))) (mC (.i 36)))
abbrev Z9:MG:=
  (gNm 0)
abbrev Z_:MT:=
  fQ
abbrev Ya:ME:=
  (mOp pIx (zd 1) (zd 0))
abbrev Xd:MG:=
  (gNm 8)
abbrev Y7:MS:=
  (zI (z8 9 (mOp Fp (zi Ys (zb (mSl pSl (zd 5) my (Yq (mOp z0 (mC (.i 1)) (mOp zQ (zd 4) (mC (.i 11)))))) zk)) (mOp Ky (mSl pSl (zd 5) (Yq (mC (.i 11))) my) (mOp zQ (zd 8) (mC (.i 2))))))
  (zI (z8 10 (mOp zQ (mOp qM (zd 6) (mC (.i 4))) (zi Yo (zb (zd 9) zk))))
  (zI (x_ 9 (zd 10) (mOp zQ (mOp z0 (mOp pIx (zd 9) (zd 10)) (zd 8)) (mC (.i 36))))
  (zI (sIf (fP (z9 (mOp (ke false) (mOp zQ (zd 6) (mC (.i 4))) (mC (.i 1)))) (z9 (mOp pLe (zd 2) (mC (.i 12))))) (z8 9 (mSl LD (zd 5) my (Yq (mOp z0 (mC (.i 1)) (zd 8))))) zR)
  (zI (sIf (fP (z9 (mOp (ke false) (mOp zQ (zd 6) (mC (.i 4))) (mC (.i 2)))) (z9 (mOp pLe (zd 2) (mC (.i 12))))) (z8 9 (mSl LD (zd 5) my (Yq (mOp WH (zd 2) (zd 8))))) zR)
  (X3 7 (RY iF (mC (.s "")) (mLC (zS (zd 9)) [none,some 3] Z9 Z_ Ya))))))))
abbrev cK:MS:=
  (zI (z8 3 (mC (.s "abcdefghijklmnopqrstuvwxyz0123456789")))
  (zI (z8 4 (mOp zQ (zi z4 (zb (zd 0) (zb (zd 1) zk))) (mC (.i 1000000007))))
  (zI (z8 5 (mLC (V4 (zb (mC (.i 12)) zk)) [none,some 4] K2 K3 K4))
  (zI (z8 6 (zi yh (zb (zd 0) (zb (mOp z0 (zd 1) (mC (.i 1))) (zb (mC (.i 65537)) zk)))))
  (zI (z8 7 (V1 zk))
  (zI (Kz (V4 (zb (zd 2) zk)) Xd Y7)
  (je (zd 7))))))))
def jx:List PV->Out PV:=kg true 11 cK
abbrev UL:MG:=
  (gNm 6)
abbrev UM:MS:=
  (X3 5 (Ux (zb (mOp pIx (zd 2) (zd 6)) (zb (mOp pIx (zd 2) (mOp zQ (mOp z0 (zd 6) (mC (.i 1))) (zd 3))) (zb (mOp z0 (mC (.i 1)) (mOp zQ (zi yh (zb (zd 0) (zb (mOp z0 (zd 1) (zd 6)) (zb (mC (.i 65497)) zk)))) (zd 4))) zk)))))
abbrev UN:MG:=
  (gNm 6)
abbrev UO:MS:=
  (zI (z8 7 (zi z4 (zb (zd 0) (zb (mOp z0 (zd 1) (zd 6)) zk))))
  (X3 5 (Ux (zb (mOp pIx (zd 2) (mOp zQ (zd 7) (zd 3))) (zb (mOp pIx (zd 2) (mOp zQ (mOp qM (zd 7) (zd 3)) (zd 3))) (zb (mOp z0 (mC (.i 1)) (mOp zQ (mOp qM (zd 7) (mC (.i 25))) (zd 4))) zk))))))
abbrev f9:MS:=
  (zI (z8 3 (zi Yo (zb (zd 2) zk)))
  (zI (z8 4 (mOp pIx (V1 (zb (mC (.i 60)) (zb (mC (.i 60)) (zb (mC (.i 3)) (zb (mOp Ky (mC (.i 2)) (mOp rj (mC (.i 10)) (mC (.i 8)))) zk))))) (mOp zQ (zi yh (zb (zd 0) (zb (zd 1) (zb (mC (.i 65521)) zk)))) (mC (.i 4)))))
  (zI (z8 5 (V1 zk))
  (zI (Kz (V4 (zb (zd 3) zk)) UL UM)
  (zI (Kz (V4 (zb (mC (.i 8)) zk)) UN UO)
  (je (zd 5)))))))
def v5:List PV->Out PV:=kg true 8 f9
abbrev Xe:MG:=
  (gNm 6)
abbrev Xf:MS:=
  (zI (z8 7 (mC .n))
  (zI (sIf (z9 (mOp pGt (zd 6) (mC (.i 0)))) (z8 7 (mOp pIx (zd 5) (mOp zQ (zi yh (zb (zd 0) (zb (mOp z0 (mOp z0 (zd 1) (mOp Ky (mC (.i 3)) (zd 6))) (mC (.i 1))) (zb (mC (.i 65479)) zk)))) (zd 6)))) zR)
  (X3 5 (zi kr (zb (zd 0) (zb (mOp z0 (zd 1) (mOp Ky (mC (.i 3)) (zd 6))) (zb (mOp pIx (zd 2) (zd 6)) (zb (zd 3) (zb (zd 4) (zb (zd 7) zk))))))))))
abbrev cL:MS:=
  (zI (z8 5 (V1 zk))
  (zI (Kz (V4 (zb (zi Yo (zb (zd 2) zk)) zk)) Xe Xf)
  (je (zd 5))))
def ky:List PV->Out PV:=kg true 8 cL
abbrev UP:MS:=
  (sIf (z9 (mOp pGt (zi Yo (zb (zd 0) zk)) (zd 1))) (wa 3 ["most"] (zb (zd 1) zk)) zR)
def yD:List PV->Out PV:=kg false 2 UP
abbrev Qu:MG:=
  (gNm 1)
abbrev jm:MS:=
  (sIf (z9 (mOp (pIn true) (zd 1) (mC (.s "abcdefghijklmnopqrstuvwxyz0123456789")))) (wa 1 ["name"] (zb (zd 0) zk)) zR)
abbrev K5:MS:=
  (zI (sIf (mOr (z9 (mOp pLt (zi Yo (zb (zd 0) zk)) (mC (.i 1)))) (z9 (mOp pGt (zi Yo (zb (zd 0) zk)) (mC (.i 12))))) (wa 1 ["name"] (zb (zd 0) zk)) zR)
  (zI (Kz (nv (zd 0)) Qu jm)
  (je (zd 0))))
def qx:List PV->Out PV:=kg false 2 K5
abbrev Xg:MS:=
  (sIf (z9 (mOp (pIn true) (zd 0) (zd 1))) (wa 5 ["name"] (zb (zd 0) zk)) zR)
def yn:List PV->Out PV:=kg false 2 Xg
abbrev Qv:MS:=
  (zI (sIf (mOr (z9 (mOp pLt (zd 0) (zd 1))) (z9 (mOp pGt (zd 0) (mC (.i 1000000000))))) (wa 2 ["value"] (zb (zd 0) zk)) zR)
  (je (zd 0)))
def zZ:List PV->Out PV:=kg false 2 Qv
abbrev UQ:MS:=
  (zI (sIf (z9 (mOp (pIn true) (zd 1) (vV [10] "by_name" (zd 0)))) (wa 7 ["name"] (zb (zd 1) zk)) zR)
  (je (mOp pIx (vV [10] "by_name" (zd 0)) (zd 1))))
def zr:List PV->Out PV:=kg false 2 UQ
abbrev K6:MG:=
  (gNm 0)
abbrev eI:MT:=
  fQ
abbrev K7:ME:=
  (mOp WH (mOp pIx (mOp pIx (zd 0) (mUn pO (mC (.i 1)))) (mC (.i 2))) (mOp pIx (mOp pIx (zd 0) (mC (.i 0))) (mC (.i 1))))
abbrev K8:MG:=
  (gNm 0)
abbrev K9:MT:=
  (z9 (mOp (ke true) (mOp pIx (zd 0) (mC (.i 0))) (mC (.s "wait"))))
abbrev K_:ME:=
  (mOp WH (mOp pIx (zd 0) (mC (.i 2))) (mOp pIx (zd 0) (mC (.i 1))))
abbrev Va:MG:=
  (gNm 0)
abbrev eJ:MT:=
  fQ
abbrev Vb:ME:=
  (zi Hg (zb (mLC (zS (zd 0)) [none] K8 K9 K_) zk))
abbrev Vc:MG:=
  (gNm 0)
abbrev eK:MT:=
  fQ
abbrev Vd:ME:=
  (zi x9 (zb (zi km (zb (zd 0) (zb (mC (.i 1)) zk))) zk))
abbrev Ve:MG:=
  (gNm 0)
abbrev eN:MT:=
  fQ
abbrev Vf:ME:=
  (mOp pIx (mOp pIx (zd 0) (mC (.i 0))) (mC (.i 1)))
abbrev Vg:MG:=
  (gNm 0)
abbrev eO:MT:=
  fQ
abbrev Vh:ME:=
  (mOp pIx (mOp pIx (zd 0) (mUn pO (mC (.i 1)))) (mC (.i 2)))
abbrev Xh:MG:=
  (gNm 7)
abbrev Xi:MS:=
  (zI (z8 8 (zi yh (zb (zd 0) (zb (mOp z0 (zd 1) (zd 7)) (zb (mC (.i 65537)) zk)))))
  (zI (z8 9 (mOp pIx (V1 (zb (mOp zQ (mOp qM (zd 8) (mC (.i 5))) (mC (.i 40))) (zb (mOp zQ (mOp qM (zd 8) (mC (.i 5))) (mC (.i 400))) (zb (mOp zQ (mOp qM (zd 8) (mC (.i 5))) (mC (.i 3000))) zk)))) (mOp zQ (mOp qM (zd 8) (mC (.i 7))) (mC (.i 3)))))
  (zI (sIf (z9 (mOp (ke false) (mOp zQ (zd 8) (mC (.i 5))) (mC (.i 0)))) (X3 6 (Ux (zb (mC (.s "span")) (zb (mOp z0 (zi x9 (zb (zd 3) zk)) (zd 9)) zk)))) zR)
  (zI (sIf (z9 (mOp (ke false) (mOp zQ (zd 8) (mC (.i 5))) (mC (.i 1)))) (X3 6 (Ux (zb (mC (.s "work")) (zb (mOp z0 (zi x9 (zb (zd 4) zk)) (zd 9)) zk)))) zR)
  (zI (sIf (z9 (mOp (ke false) (mOp zQ (zd 8) (mC (.i 5))) (mC (.i 2)))) (X3 6 (Ux (zb (mC (.s "pause")) (zb (mOp z0 (zi x9 (zb (zd 5) zk)) (zd 9)) (zb (mOp z0 (mC (.i 1)) (mOp zQ (mOp qM (zd 8) (mC (.i 35))) (mC (.i 60)))) zk))))) zR)
  (zI (sIf (z9 (mOp (ke false) (mOp zQ (zd 8) (mC (.i 5))) (mC (.i 3)))) (zI (z8 10 (zi CV (zb (mLC (zS (zd 2)) [none] Ve eN Vf) zk)))
  (X3 6 (Ux (zb (mC (.s "shift")) (zb (mOp WH (zd 10) (zd 9)) (zb (mOp z0 (zi x9 (zb (mLC (zS (zd 2)) [none] Vg eO Vh) zk)) (zd 9)) zk)))))) zR)
  (sIf (z9 (mOp (ke false) (mOp zQ (zd 8) (mC (.i 5))) (mC (.i 4)))) (X3 6 (Ux (zb (mC (.s "rule")) zk))) zR)))))))
abbrev cM:MS:=
  (zI (z8 3 (mLC (zS (zd 2)) [none] K6 eI K7))
  (zI (z8 4 (mLC (zS (zd 2)) [none] Va eJ Vb))
  (zI (z8 5 (mLC (zS (zd 2)) [none] Vc eK Vd))
  (zI (z8 6 (V1 zk))
  (zI (Kz (V4 (zb (mOp z0 (mC (.i 1)) (mOp zQ (zi yh (zb (zd 0) (zb (zd 1) (zb (mC (.i 65521)) zk)))) (mC (.i 4)))) zk)) Xh Xi)
  (je (zd 6)))))))
def jA:List PV->Out PV:=kg true 11 cM
abbrev f_:MS:=
  (zI (sIf (z9 (mOp (ke false) (mOp pIx (zd 0) (mC (.i 0))) (mC (.s "span")))) (je (zi kn (zb (mOp pIx (zd 0) (mC (.i 1))) zk))) zR)
  (zI (sIf (z9 (mOp (ke false) (mOp pIx (zd 0) (mC (.i 0))) (mC (.s "work")))) (je (zi ko (zb (mOp pIx (zd 0) (mC (.i 1))) zk))) zR)
  (zI (sIf (z9 (mOp (ke false) (mOp pIx (zd 0) (mC (.i 0))) (mC (.s "pause")))) (je (zi jD (zb (mOp pIx (zd 0) (mC (.i 1))) (zb (mOp pIx (zd 0) (mC (.i 2))) zk)))) zR)
  (zI (sIf (z9 (mOp (ke false) (mOp pIx (zd 0) (mC (.i 0))) (mC (.s "shift")))) (je (zi jE (zb (mOp pIx (zd 0) (mC (.i 1))) (zb (mOp pIx (zd 0) (mC (.i 2))) zk)))) zR)
  (je (S8 13))))))
def v7:List PV->Out PV:=kg true 1 f_
abbrev Zw:MS:=
  (zI (jd (zi qx (zb (zd 0) zk)))
  (zI (sIf (z9 (mOp (pIn false) (zd 0) (zd 1))) (wa 4 ["name"] (zb (zd 0) zk)) zR)
  (je (zd 0))))
def z6:List PV->Out PV:=kg false 2 Zw
abbrev Vi:MS:=
  (zI (jd (zi yn (zb (zd 1) (zb (vV [11] "places" (zd 0)) zk))))
  (zI (jd (zi yn (zb (zd 2) (zb (vV [11] "places" (zd 0)) zk))))
  (je (RZ (mOp pIx (vV [11] "lengths" (zd 0)) (zd 1)) (zd 2)))))
def zx:List PV->Out PV:=kg false 3 Vi
abbrev wJ:MG:=
  (gNm 2)
abbrev wK:MS:=
  (jd (yE [(10,zr)] "trip" (zd 0) (zb (zd 2) zk)))
abbrev Xj:MS:=
  (Kz (zS (zd 1)) wJ wK)
def qQ:List PV->Out PV:=kg false 3 Xj
abbrev Vj:MG:=
  (gTp 3 (jf (gNm 2) (jf (gNm 3) (jf (gNm 4) ng))))
abbrev kO:MS:=
  (zI (jd (zi yn (zb (zd 2) (zb (zd 0) zk))))
  (zI (jd (zi yn (zb (zd 3) (zb (zd 0) zk))))
  (jd (zi zZ (zb (zd 4) (zb (mC (.i 1)) zk))))))
abbrev UR:MS:=
  (Kz (zS (zd 1)) Vj kO)
def jF:List PV->Out PV:=kg false 5 UR
abbrev US:MS:=
  (zI (jd (zi z6 (zb (mOp pIx (zd 1) (mC (.i 0))) (zb (zd 2) zk))))
  (zI (z8 3 (yE [(11,zx)] "length" (zd 0) (zb (mOp pIx (zd 1) (mC (.i 1))) (zb (mOp pIx (zd 1) (mC (.i 2))) zk))))
  (zI (jd (zi zZ (zb (mOp pIx (zd 1) (mC (.i 3))) (zb (mC (.i 0)) zk))))
  (zI (jd (zi zZ (zb (mOp pIx (zd 1) (mC (.i 4))) (zb (mC (.i 0)) zk))))
  (zI (jd (zi zZ (zb (mOp pIx (zd 1) (mC (.i 5))) (zb (mC (.i 0)) zk))))
  (zI (sIf (z9 (mOp pLe (mOp pIx (zd 1) (mC (.i 4))) (mOp pIx (zd 1) (mC (.i 3))))) (wa 8 ["name"] (zb (mOp pIx (zd 1) (mC (.i 0))) zk)) zR)
  (zI (sIf (z9 (mOp (AR false) (zd 3) (mC .n))) (wa 6 ["origin","goal"] (zb (mOp pIx (zd 1) (mC (.i 1))) (zb (mOp pIx (zd 1) (mC (.i 2))) zk))) zR)
  (sIf (z9 (mOp pLt (mOp WH (mOp pIx (zd 1) (mC (.i 4))) (mOp pIx (zd 1) (mC (.i 3)))) (zd 3))) (wa 9 ["name"] (zb (mOp pIx (zd 1) (mC (.i 0))) zk)) zR))))))))
def qG:List PV->Out PV:=kg false 4 US
abbrev PR:MS:=
  (zI (z8 3 (yE [(10,zr)] "trip" (zd 0) (zb (zd 1) zk)))
  (zI (z8 4 (yE [(10,zr)] "trip" (zd 0) (zb (zd 2) zk)))
  (zI (z8 5 (yE [(11,zx)] "length" (vV [10] "roads" (zd 0)) (zb (mOp pIx (zd 3) (mC (.i 2))) (zb (mOp pIx (zd 4) (mC (.i 1))) zk))))
  (zI (sIf (z9 (mOp (AR false) (zd 5) (mC .n))) (je (mC .n)) zR)
  (je (mOp WH (mOp WH (mOp pIx (zd 4) (mC (.i 3))) (mOp pIx (zd 3) (mC (.i 4)))) (zd 5)))))))
def Ao:List PV->Out PV:=kg false 6 PR
abbrev cN:MS:=
  (sIf (z9 (mOp (AR false) (yE [(11,zx)] "length" (zd 0) (zb (zd 1) (zb (zd 2) zk))) (mC .n))) (wa 6 ["origin","goal"] (zb (zd 1) (zb (zd 2) zk))) zR)
def qj:List PV->Out PV:=kg false 3 cN
abbrev UT:MG:=
  (gNm 6)
abbrev UU:MS:=
  (zI (z8 7 (yE [(10,zr)] "trip" (zd 0) (zb (zd 6) zk)))
  (zI (z8 8 (mOp z0 (zd 3) (yE [(11,zx)] "length" (vV [10] "roads" (zd 0)) (zb (zd 4) (zb (mOp pIx (zd 7) (mC (.i 1))) zk)))))
  (zI (X3 5 (Ux (zb (mC (.s "way")) (zb (zd 3) (zb (zd 8) zk)))))
  (zI (X3 5 (Ux (zb (mC (.s "wait")) (zb (zd 8) (zb (mOp pIx (zd 7) (mC (.i 3))) zk)))))
  (zI (X3 5 (Ux (zb (mC (.s "trip")) (zb (mOp pIx (zd 7) (mC (.i 3))) (zb (mOp pIx (zd 7) (mC (.i 4))) zk)))))
  (zI (z8 3 (mOp pIx (zd 7) (mC (.i 4))))
  (z8 4 (mOp pIx (zd 7) (mC (.i 2))))))))))
abbrev gc:MS:=
  (zI (z8 3 (mOp WH (mOp pIx (yE [(10,zr)] "trip" (zd 0) (zb (mOp pIx (zd 2) (mC (.i 0))) zk)) (mC (.i 3))) (yE [(11,zx)] "length" (vV [10] "roads" (zd 0)) (zb (zd 1) (zb (mOp pIx (yE [(10,zr)] "trip" (zd 0) (zb (mOp pIx (zd 2) (mC (.i 0))) zk)) (mC (.i 1))) zk)))))
  (zI (z8 4 (zd 1))
  (zI (z8 5 (V1 zk))
  (zI (Kz (zS (zd 2)) UT UU)
  (zI (X3 5 (Ux (zb (mC (.s "way")) (zb (zd 3) (zb (mOp z0 (zd 3) (yE [(11,zx)] "length" (vV [10] "roads" (zd 0)) (zb (zd 4) (zb (zd 1) zk)))) zk)))))
  (je (zd 5)))))))
def kA:List PV->Out PV:=kg true 9 gc
abbrev Qw:MG:=
  (gNm 2)
abbrev jn:MS:=
  (zI (jd (zi z6 (zb (zd 2) (zb (zd 1) zk))))
  (Eu 1 (zd 2) (mC (.b true))))
abbrev Vk:MS:=
  (zI (z8 1 Cm)
  (Kz (zS (zd 0)) Qw jn))
def qy:List PV->Out PV:=kg false 3 Vk
abbrev jW:HMG:=
  (hgN 3)
abbrev y8:HMS:=
  (Ez (Af (hP [true,true,false,true] (zi qG (zb (zd 1) (zb (zd 3) (zb (vV [10] "by_name" (zd 0)) zk))))))
  (Pd (Pa [10] "by_name" (uz 0)) (hP [false,false,false,true] (mOp pIx (zd 3) (mC (.i 0)))) (uz 3)))
abbrev wL:MG:=
  (gNm 0)
abbrev wM:MT:=
  fQ
abbrev wN:ME:=
  (mOp pIx (zd 0) (mC (.i 0)))
abbrev vN:HMS:=
  (Ez (Af (hP [false,false,true] (zi yD (zb (zd 2) (zb (mC (.i 40)) zk)))))
  (Ez (iL [10] "roads" (uz 0) (uz 1))
  (Ez (iL [10] "by_name" (uz 0) (hF [] Cm))
  (Ez (L9 [false,false,true] (zS (zd 2)) jW y8)
  (iL [10] "order" (uz 0) (hP [false,false,true] (mLC (zS (uC zJ (zb (zd 2) zk))) [none] wL wM wN)))))))
def qR:List HV->AH->HX HV:=Th 4 vN
abbrev uK:MS:=
  (zI (z8 3 (zi Ao (zb (zd 0) (zb (zd 1) (zb (zd 2) zk)))))
  (je (BP (mOp (AR true) (zd 3) (mC .n)) (mOp pGe (zd 3) (mC (.i 0))))))
def Zx:List PV->Out PV:=kg false 4 uK
abbrev Jv:MG:=
  (gNm 0)
abbrev Jw:MT:=
  fQ
abbrev Jx:ME:=
  (Ux (zb (zd 0) (zb (zi yC (zb (zd 0) (zb (zd 1) zk))) zk)))
abbrev Zy:MS:=
  (zI (jd (zi yD (zb (zd 1) (zb (mC (.i 12)) zk))))
  (zI (jd (zi yD (zb (zd 2) (zb (mC (.i 60)) zk))))
  (zI (jd (zi qy (zb (zd 1) zk)))
  (zI (jd (zi jF (zb (zd 1) (zb (zd 2) zk))))
  (zI (WN 0 [11] "places" (zi Ys (zb (zd 1) zk)))
  (zI (WN 0 [11] "ways" (zi Ys (zb (zd 2) zk)))
  (WN 0 [11] "lengths" (zi bP (zb (mLC (zS (zd 1)) [none,some 2] Jv Jw Jx) zk)))))))))
def qH:List PV->Out PV:=Hn 11 2 Zy
abbrev jo:MG:=
  (gTp 2 (jf (gNm 2) (jf (gNm 3) ng)))
abbrev jq:MS:=
  (sIf (ud (z9 (zi Zx (zb (zd 0) (zb (zd 2) (zb (zd 3) zk)))))) (wa 12 ["first","second"] (zb (zd 2) (zb (zd 3) zk))) zR)
abbrev Vl:MS:=
  (zI (jd (zi qQ (zb (zd 0) (zb (zd 1) zk))))
  (Kz (R_ (zb (zd 1) (zb (mSl pSl (zd 1) (Yq (mC (.i 1))) my) zk))) jo jq))
def yT:List PV->Out PV:=kg false 4 Vl
abbrev Xk:MG:=
  (gNm 0)
abbrev Xl:MT:=
  (z9 (zi Zx (zb (zd 1) (zb (zd 2) (zb (zd 0) zk)))))
abbrev Xm:ME:=
  (zd 0)
abbrev Jy:MS:=
  (je (mLC (zS (zd 2)) [none,some 0,some 1] Xk Xl Xm))
def y9:List PV->Out PV:=kg true 3 Jy
abbrev cO:MS:=
  (zI (jd (zi yn (zb (zd 1) (zb (yE [(10,zB),(11,zD)] "names" (vV [10] "roads" (zd 0)) zk) zk))))
  (jd (zi yT (zb (zd 0) (zb (zd 2) zk)))))
def qI:List PV->Out PV:=kg false 3 cO
abbrev gf:MG:=
  (gNm 0)
abbrev Ap:MT:=
  fQ
abbrev gg:ME:=
  (Ux (zb (zd 0) (zb (zi y9 (zb (zd 1) (zb (zd 0) (zb (zd 2) zk)))) zk)))
abbrev C9:MS:=
  (zI (z8 1 (yE [(10,zB),(11,zD)] "names" (zd 0) zk))
  (je (zi bP (zb (mLC (zS (zd 1)) [none,some 0,some 1] gf Ap gg) zk))))
def Wi:List PV->Out PV:=kg true 2 C9
abbrev Xn:MS:=
  (zI (jd (zi qI (zb (zd 0) (zb (zd 1) (zb (zd 2) zk)))))
  (sIf (z9 (mOp pGt (zi Yo (zb (zd 2) zk)) (mC (.i 0)))) (zI (jd (zi qj (zb (vV [10] "roads" (zd 0)) (zb (zd 1) (zb (mOp pIx (yE [(10,zr)] "trip" (zd 0) (zb (mOp pIx (zd 2) (mC (.i 0))) zk)) (mC (.i 1))) zk)))))
  (jd (zi qj (zb (vV [10] "roads" (zd 0)) (zb (mOp pIx (yE [(10,zr)] "trip" (zd 0) (zb (mOp pIx (zd 2) (mUn pO (mC (.i 1)))) zk)) (mC (.i 2))) (zb (zd 1) zk)))))) zR))
def qk:List PV->Out PV:=kg false 3 Xn
abbrev gh:MG:=
  (gNm 0)
abbrev gi:MT:=
  (z9 (mOp pLt (mOp pIx (zd 0) (mC (.i 1))) (mOp pIx (zd 0) (mC (.i 2)))))
abbrev gj:ME:=
  (zd 0)
abbrev C_:MS:=
  (zI (jd (zi qk (zb (zd 0) (zb (zd 1) (zb (zd 2) zk)))))
  (zI (sIf (z9 (mOp (ke false) (zi Yo (zb (zd 2) zk)) (mC (.i 0)))) (je (V1 zk)) zR)
  (je (mLC (zS (zi kA (zb (zd 0) (zb (zd 1) (zb (zd 2) zk))))) [none] gh gi gj))))
def Yb:List PV->Out PV:=kg true 3 C_
abbrev Xo:MS:=
  (sIf (ud (z9 (yE [(13,zX),(14,zW),(15,zY),(16,zP),(17,zO),(18,z_)] "fits" (zd 2) (zb (zi Yb (zb (zd 0) (zb (zd 1) (zb (V1 (zb (zd 3) zk)) zk)))) zk)))) (wa 19 ["name"] (zb (zd 3) zk)) zR)
def qS:List PV->Out PV:=kg false 4 Xo
abbrev Zz:MG:=
  (gNm 0)
abbrev Xp:MT:=
  fQ
abbrev ZA:ME:=
  (mOp z0 (zd 1) (V1 (zb (zd 0) zk)))
abbrev ZC:MG:=
  (gNm 0)
abbrev ZD:MT:=
  (z9 (yE [(13,zX),(14,zW),(15,zY),(16,zP),(17,zO),(18,z_)] "fits" (zd 1) (zb (zi Yb (zb (zd 2) (zb (zd 3) (zb (zd 0) zk)))) zk)))
abbrev ZE:ME:=
  (zd 0)
abbrev Jz:MS:=
  (zI (sIf (z9 (mOp (ke false) (zi Yo (zb (zd 3) zk)) (mC (.i 5)))) (je (V1 zk)) zR)
  (zI (z8 5 (mLC (zS (zd 4)) [none,some 3] Zz Xp ZA))
  (je (mLC (zS (zd 5)) [none,some 2,some 0,some 1] ZC ZD ZE))))
def yI:List PV->Out PV:=kg true 6 Jz
abbrev Vm:MG:=
  (gNm 6)
abbrev Vn:MS:=
  (zI (z8 7 (mOp z0 (zd 0) (V1 (zb (zd 6) zk))))
  (sIf (z9 (mOp (ke true) (yE [(13,zX),(14,zW),(15,zY),(16,zP),(17,zO),(18,z_)] "fits" (zd 3) (zb (zi Yb (zb (zd 4) (zb (zd 5) (zb (zd 7) zk)))) zk)) (mOp (pIn false) (zi jV (zb (zd 7) zk)) (zd 1)))) (je (mC (.b false))) zR))
abbrev UW:MS:=
  (zI (Kz (zS (mOp pIx (zd 2) (mOp pIx (zd 0) (mUn pO (mC (.i 1)))))) Vm Vn)
  (je (mC (.b true))))
def qJ:List PV->Out PV:=kg false 8 UW
abbrev gk:MG:=
  (gNm 3)
abbrev gm:MS:=
  (jd (zi qS (zb (zd 0) (zb (zd 1) (zb (zd 2) (zb (zd 3) zk))))))
abbrev cP:MG:=
  (gNm 0)
abbrev sv:MT:=
  fQ
abbrev cQ:ME:=
  (V1 (zb (zd 0) zk))
abbrev Uj:MT:=
  (z9 (mOp pLt (zd 6) (zi Yo (zb (zd 5) zk))))
abbrev gp:MS:=
  (zI (z8 7 (mOp pIx (zd 5) (zd 6)))
  (zI (Nt 5 (zi yI (zb (zd 0) (zb (zd 1) (zb (zd 2) (zb (zd 7) (zb (mOp pIx (zd 4) (mOp pIx (zd 7) (mUn pO (mC (.i 1))))) zk)))))))
  (zI (jd (zi yD (zb (zd 5) (zb (mC (.i 400)) zk))))
  (OS 6 (pI λa b=>.i (a+b)) (mC (.i 1))))))
abbrev uL:MS:=
  (zI (jd (zi qI (zb (zd 0) (zb (zd 1) (zb (V1 zk) zk)))))
  (zI (Kz (zS (yE [(10,zB),(11,zD)] "names" (zd 0) zk)) gk gm)
  (zI (z8 4 (zi Wi (zb (zd 0) zk)))
  (zI (z8 5 (mLC (zS (yE [(10,zB),(11,zD)] "names" (zd 0) zk)) [none] cP sv cQ))
  (zI (z8 6 (mC (.i 0)))
  (zI (bI Uj gp)
  (je (zd 5))))))))
def Kv:List PV->Out PV:=kg true 8 uL
abbrev lj:MG:=
  (gNm 0)
abbrev uM:MT:=
  fQ
abbrev ll:ME:=
  (zi jw (zb (V1 (zb (zd 0) zk)) (zb (zd 1) (zb (zd 2) zk))))
abbrev lq:MG:=
  (gNm 0)
abbrev uN:MT:=
  fQ
abbrev lx:ME:=
  (zi v7 (zb (zd 0) zk))
abbrev lz:MG:=
  (gNm 0)
abbrev uO:MT:=
  fQ
abbrev lC:ME:=
  (mOp (pIn false) (zd 0) (zd 1))
abbrev Dc:MG:=
  (gNm 13)
abbrev sx:MS:=
  (zI (sIf (mOr (ud (z9 (mUn (zar [(.list,true)]) (zd 13)))) (mOr (ud (z9 (m6 pLe pLe (mC (.i 1)) (zi Yo (zb (zd 13) zk)) (mC (.i 5))))) (ud (z9 (zi Ff (zb (mLC (zS (zd 13)) [none,some 11] lz uO lC) zk)))))) (je (mC (.b false))) zR)
  (Eu 12 (zi jV (zb (zd 13) zk)) (mC (.b true))))
abbrev lD:MG:=
  (gNm 0)
abbrev uP:MT:=
  fQ
abbrev lE:ME:=
  (mOp (pIn false) (mOp pIx (zd 0) (mC (.i 0))) (zd 1))
abbrev Dd:MG:=
  (gNm 13)
abbrev De:MS:=
  (zI (sIf (ud (z9 (zi qF (zb (zd 13) (zb (zd 12) (zb (zd 11) zk)))))) (je (mC (.b false))) zR)
  (sIf (fP (z9 (mOp pLt (zi Yo (zb (zd 13) zk)) (mC (.i 5)))) (ud (z9 (zi qJ (zb (zd 13) (zb (zd 12) (zb (zd 11) (zb (zd 7) (zb (zd 9) (zb (zd 6) zk)))))))))) (je (mC (.b false))) zR))
abbrev PU:MS:=
  (zI (z8 1 (zi jx (zb (zd 0) (zb (mC (.i 0)) (zb (mOp z0 (mC (.i 2)) (mOp zQ (zi yh (zb (zd 0) (zb (mC (.i 2)) (zb (mC (.i 65449)) zk)))) (mC (.i 4)))) zk)))))
  (zI (z8 2 (zi v5 (zb (zd 0) (zb (mC (.i 3)) (zb (zd 1) zk)))))
  (zI (z8 3 (zi qP (zb (zd 1) (zb (zd 2) zk))))
  (zI (z8 4 (zi x9 (zb (mOp zQ (zi yh (zb (zd 0) (zb (mC (.i 11)) (zb (mC (.i 65521)) zk)))) (mC (.i 6))) (zb (zi bB (zb (mC (.i 7)) (zb (mOp qM (mOp WH (zi bB (zb (zi Yo (zb (zd 0) zk)) (zb (mC (.i 34)) zk))) (mC (.i 11))) (mC (.i 3))) zk))) zk))))
  (zI (z8 5 (zi ky (zb (zd 0) (zb (mC (.i 13)) (zb (zi jx (zb (zd 0) (zb (mC (.i 11)) (zb (zd 4) zk)))) (zb (zd 1) (zb (zd 3) zk)))))))
  (zI (z8 6 (mOp pIx (zd 1) (mOp zQ (zi yh (zb (zd 0) (zb (mC (.i 34)) (zb (mC (.i 65537)) zk)))) (zi Yo (zb (zd 1) zk)))))
  (zI (z8 7 (S8 13))
  (zI (sIf (z9 (mOp (ke true) (zd 5) (V1 zk))) (zI (z8 8 (zi jA (zb (zd 0) (zb (mC (.i 35)) (zb (mLC (zS (zd 5)) [none,some 6,some 3] lj uM ll) zk)))))
  (z8 7 (zi qb (zb (mLC (zS (zd 8)) [none] lq uN lx) zk)))) zR)
  (zI (z8 9 (zi (mkV 10 qR) (zb (zi qH (zb (zi Ys (zb (zd 1) zk)) (zb (zi Ys (zb (zd 2) zk)) zk))) (zb (zi Ys (zb (zd 5) zk)) zk))))
  (zI (z8 10 (zi Kv (zb (zd 9) (zb (zd 6) (zb (zd 7) zk)))))
  (zI (z8 11 (zi Wi (zb (zd 9) zk)))
  (zI (z8 12 Cm)
  (zI (Kz (zS (zd 10)) Dc sx)
  (zI (sIf (mOr (z9 (mOp (ke true) (zi Yo (zb (zd 12) zk)) (zi Yo (zb (zd 10) zk)))) (ud (z9 (zi Ff (zb (mLC (zS (zd 5)) [none,some 12] lD uP lE) zk))))) (je (mC (.b false))) zR)
  (zI (Kz (zS (zd 10)) Dd De)
  (je (mC (.b true))))))))))))))))))
def Df:List PV->Out PV:=kg false 14 PU
def qT(T:Txt K mg a):yF P w K mg base (CXe P w) 1 a.z4 a.Xs ["_law_script","_law_k"] (lsp (WW K a) false [true,true] z4):=
 zu (ms:=Y5) (S':=[1,1]) (Sb:=[]) (Sc:=[]) T.yz.F dW rfl rfl rfl (by decide) λd A b s H E c=>
  (zf (yp (yA g5 ie (ev 1) (qo rfl T.kh (za (ev 0) ze)) (yt _))
    (zh (yH (ix c (ev 0) (ev 1))))
    zN)
   (zh (yH ei)))
def lF(T:Txt K mg a):yF P w K mg base (CXe P w) 1 a.qP a.Xt ["_law_names_here","_law_ways_here"] (lsp (WW K a) true [true,true] qP):=
 zu (ms:=W_) (S':=[1,1,0,0,0,0,0,0,0]) (Sb:=[]) (Sc:=[]) T.qO.F yc rfl rfl rfl (by decide) λd A c s H E b=>
  (zf (jR (i:=2) yc.nd rfl (.inl rfl) FF)
   (zf (y_ (zz ⟨rfl,rfl⟩) rfl (j9 (Zh (pv 0))) (gn 3 yc.nd)
    (zh (rL (qY b) (pv 2) (za (zj (pv 3)) (za (zj (pv 3)) ze)) ei)))
   (zf (y_ (zz ⟨rfl,rfl⟩) rfl (j9 (Zh (pv 1))) (bG (n:=3) rfl (yY (gn 4 yc.nd) (yY (gn 5 yc.nd) (yY (gn 6 yc.nd) bF jC) jC) jC))
    (zh (rL (qY b) (pv 2) (za (zj (pv 4)) (za (zj (pv 5)) ze)) (m_ rfl rfl T.nO (za (ev 6) (za (CT (qY b) (ev 2) (za (zj (pv 4)) (za (zj (pv 5)) ze)) (ev 6) ⟨rfl,rfl,rfl,rfl⟩) ze))))))
   (zf (y_ (zz ⟨rfl,rfl⟩) rfl (j9 (Zh (pv 0))) (gn 7 yc.nd)
    (zh (y_ (zz ⟨rfl,rfl⟩) rfl (j9 (Zh (pv 0))) (gn 4 yc.nd)
    (zh (y_ (zz ⟨rfl,rfl⟩) rfl (j9 (Zh (pv 0))) (gn 5 yc.nd)
    (zh (yp (TWM.tm (WK (CG (qY b) (za (zj (pv 4)) (za (zj (pv 7)) ze)) (ev 2)) (Q1 (CG (qY b) (za (zj (pv 7)) (za (zj (pv 5)) ze)) (ev 2)))))
    (zf (se 8 yc.nd (zt zL zM (bU (qY b) (ev 2) (za (zj (pv 4)) (za (zj (pv 7)) ze))) (bU (qY b) (ev 2) (za (zj (pv 7)) (za (zj (pv 5)) ze)))))
   (zh (rL (qY b) (pv 2) (za (zj (pv 4)) (za (zj (pv 5)) ze)) (m_ rfl rfl T.nO (za (ev 8) (za (CT (qY b) (ev 2) (za (zj (pv 4)) (za (zj (pv 5)) ze)) (ev 8) ⟨rfl,rfl,rfl,rfl⟩) ze))))))
    zN)))))))
   (zh (ZT (pv 2)))))))
def eR(T:Txt K mg a):yF P w K mg base (CXe P w) 1 a.Yc a.Yg ["self","most"] (AW a.wQ ["most"]):=by
 refine T.d8.okX bZ (λg H Q E h=>by obtain⟨e,d,rfl,b,_⟩:=h;rw[a0b,b];rfl) λi A c s H g Q E j h=>?_;obtain⟨e,d,rfl,b,f,k⟩:=h
 match d,b with
 |[v],_=>exact⟨_,j_ (kc (pv 0) (pv 1) rfl),_,rfl,_,rfl,e,a.wQ,.none,rfl,T.oi,T.cz,.inl ⟨f,k⟩⟩
def Vo(T:Txt K mg a):yF P w K mg base (CXe P w) 1 a.Yd a.Yh ["self","name"] (AW a.wO ["name"]):=by
 refine T.d_.okX b4 (λg H Q E h=>by obtain⟨e,d,rfl,b,_⟩:=h;rw[a0b,b];rfl) λi A c s H g Q E j h=>?_;obtain⟨e,d,rfl,b,f,k⟩:=h
 match d,b with
 |[v],_=>exact⟨_,j_ (kc (pv 0) (pv 1) rfl),_,rfl,_,rfl,e,a.wO,.none,rfl,T.cw,T.cx,.inl ⟨f,k⟩⟩
def ou(T:Txt K mg a):yF P w K mg base (CXe P w) 1 a.JC a.JF ["self","name"] (AW a.Wk ["name"]):=by
 refine T.nP.okX iP (λg H Q E h=>by obtain⟨e,d,rfl,b,_⟩:=h;rw[a0b,b];rfl) λi A c s H g Q E j h=>?_;obtain⟨e,d,rfl,b,f,k⟩:=h
 match d,b with
 |[v],_=>exact⟨_,j_ (kc (pv 0) (pv 1) rfl),_,rfl,_,rfl,e,a.Wk,.none,rfl,T.C4,T.i_,.inl ⟨f,k⟩⟩
def eS(T:Txt K mg a):yF P w K mg base (CXe P w) 1 a.Ye a.Yi ["self","name"] (AW a.wR ["name"]):=by
 refine T.eA.okX b5 (λg H Q E h=>by obtain⟨e,d,rfl,b,_⟩:=h;rw[a0b,b];rfl) λi A c s H g Q E j h=>?_;obtain⟨e,d,rfl,b,f,k⟩:=h
 match d,b with
 |[v],_=>exact⟨_,j_ (kc (pv 0) (pv 1) rfl),_,rfl,_,rfl,e,a.wR,.none,rfl,T.oj,T.cA,.inl ⟨f,k⟩⟩
def aJ(T:Txt K mg a):yF P w K mg base (CXe P w) 1 a.vn a.vo ["self","value"] (AW a.jB ["value"]):=by
 refine T.aF.okX Ua (λg H Q E h=>by obtain⟨e,d,rfl,b,_⟩:=h;rw[a0b,b];rfl) λi A c s H g Q E j h=>?_;obtain⟨e,d,rfl,b,f,k⟩:=h
 match d,b with
 |[v],_=>exact⟨_,j_ (kc (pv 0) (pv 1) rfl),_,rfl,_,rfl,e,a.jB,.none,rfl,T.cy,T.W6,.inl ⟨f,k⟩⟩
def cR(T:Txt K mg a):yF P w K mg base (CXe P w) 1 a.wV a.wY ["self","name"] (AW a.kB ["name"]):=by
 refine T.cg.okX aA (λg H Q E h=>by obtain⟨e,d,rfl,b,_⟩:=h;rw[a0b,b];rfl) λi A c s H g Q E j h=>?_;obtain⟨e,d,rfl,b,f,k⟩:=h
 match d,b with
 |[v],_=>exact⟨_,j_ (kc (pv 0) (pv 1) rfl),_,rfl,_,rfl,e,a.kB,.none,rfl,T.fY,T.aH,.inl ⟨f,k⟩⟩
def UX(T:Txt K mg a):yF P w K mg base (CXe P w) 1 a.JD a.JG ["self","origin","goal"] (AW a.Qd ["origin","goal"]):=by
 refine T.nR.okX iQ (λp H Q E h=>by obtain⟨e,n,rfl,j,_⟩:=h;rw[a0b,j];rfl) λo A l s H p Q E y h=>?_;obtain⟨e,n,rfl,j,m,k⟩:=h
 match n,j with
 |[v,u],_=>
  have i:∀{c},H c=none->c≠e:=λh z=>by rw[z,m]at h;cases h
  exact⟨_,aV (kc (pv 0) (pv 1) rfl) (j_ (kc (pv 0) (pv 2) rfl)),_,rfl,_,rfl,e,a.Qd,.none,rfl,T.la,T.cB,.inl ⟨m,λc g=>⟨_,rfl,_,rfl,e,a.Qd,.none,rfl,T.la,T.lb,.inr ⟨c,[(("origin":Str),v)],by rw[zl],by rw[zm (i g),zl],i g,(show 1<1000 by decide),by
   have q:=k c g;have x:WB ("goal":Str) u [(("origin":Str),v)]=[(("origin":Str),v),(("goal":Str),u)]:=rfl;rw[x];have r:∀{A B C:HO},upd (upd (upd H c A) e B) c C=upd (upd H c C) e B:=λ{A B C}=>funext λb=>by
    by_cases f:b=c
    .subst f;rw[zl,zm (i g),zl]
    .rw[zm f];by_cases d:b=e
     .subst d;rw[zl,zl]
     .rw[zm d,zm d,zm f,zm f]
   rw[r];exact q⟩⟩⟩⟩
def eU(T:Txt K mg a):yF P w K mg base (CXe P w) 1 a.Yf a.Yk ["self","name"] (AW a.wU ["name"]):=by
 refine T.eE.okX b7 (λg H Q E h=>by obtain⟨e,d,rfl,b,_⟩:=h;rw[a0b,b];rfl) λi A c s H g Q E j h=>?_;obtain⟨e,d,rfl,b,f,k⟩:=h
 match d,b with
 |[v],_=>exact⟨_,j_ (kc (pv 0) (pv 1) rfl),_,rfl,_,rfl,e,a.wU,.none,rfl,T.om,T.cC,.inl ⟨f,k⟩⟩
def aL(T:Txt K mg a):yF P w K mg base (CXe P w) 1 a.zJ a.Qz ["trip"] (lsp (WW K a) false [true] zJ):=
 zu (ms:=Qs) (S':=[1]) (Sb:=[]) (Sc:=[]) T.qr.F Uc rfl rfl rfl (by decide) λd A c s H E b=>
  (zh (yH (jP (za (ix b (ev 0) (zV (zy (v:=.int 3) rfl T.Z4 ⟨_,rfl⟩))) (za (ix b (ev 0) (zV (zy (v:=.int 4) rfl T.vD ⟨_,rfl⟩))) (za (ix b (ev 0) (zV (zy (v:=.int 0) rfl T.UB ⟨_,rfl⟩))) ze))))))
def lG(T:Txt K mg a):yF P w K mg base (CXe P w) 1 a.Qh a.Qi ["self","name"] (AW a.Qe ["name"]):=by
 refine T.i6.okX dY (λg H Q E h=>by obtain⟨e,d,rfl,b,_⟩:=h;rw[a0b,b];rfl) λi A c s H g Q E j h=>?_;obtain⟨e,d,rfl,b,f,k⟩:=h
 match d,b with
 |[v],_=>exact⟨_,j_ (kc (pv 0) (pv 1) rfl),_,rfl,_,rfl,e,a.Qe,.none,rfl,T.uJ,T.eG,.inl ⟨f,k⟩⟩
def cS(T:Txt K mg a):yF P w K mg base (CXe P w) 1 a.wW a.wZ ["self","first","second"] (AW a.qU ["first","second"]):=by
 refine T.ck.okX aB (λp H Q E h=>by obtain⟨e,n,rfl,j,_⟩:=h;rw[a0b,j];rfl) λo A l s H p Q E y h=>?_;obtain⟨e,n,rfl,j,m,k⟩:=h
 match n,j with
 |[v,u],_=>
  have i:∀{c},H c=none->c≠e:=λh z=>by rw[z,m]at h;cases h
  exact⟨_,aV (kc (pv 0) (pv 1) rfl) (j_ (kc (pv 0) (pv 2) rfl)),_,rfl,_,rfl,e,a.qU,.none,rfl,T.Uh,T.Ui,.inl ⟨m,λc g=>⟨_,rfl,_,rfl,e,a.qU,.none,rfl,T.Uh,T.W7,.inr ⟨c,[(("first":Str),v)],by rw[zl],by rw[zm (i g),zl],i g,(show 1<1000 by decide),by
   have q:=k c g;have x:WB ("second":Str) u [(("first":Str),v)]=[(("first":Str),v),(("second":Str),u)]:=rfl;rw[x];have r:∀{A B C:HO},upd (upd (upd H c A) e B) c C=upd (upd H c C) e B:=λ{A B C}=>funext λb=>by
    by_cases f:b=c
    .subst f;rw[zl,zm (i g),zl]
    .rw[zm f];by_cases d:b=e
     .subst d;rw[zl,zl]
     .rw[zm d,zm d,zm f,zm f]
   rw[r];exact q⟩⟩⟩⟩
def vO(T:Txt K mg a):yF P w K mg base (CXe P w) 1 a.zB a.Qj ["self"] (lsp (WW K a) true [true] zB):=
 zu (ms:=Xa) (S':=[1]) (Sb:=[]) (Sc:=[]) T.i8 dZ rfl rfl rfl (by decide) λc A b s H E d=>
  (zh (kf (vA rfl rfl T.Qq (za (qW (ev 0) (fa ⟨T.z1,T.KP⟩ fz)) ze))))
def vP(T:Txt K mg a):yF P w K mg base (CXe P w) 1 a.zD a.Ql ["self"] (lsp (WW K a) true [true] zD):=
 zu (ms:=Xb) (S':=[1]) (Sb:=[]) (Sc:=[]) T.i9 d3 rfl rfl rfl (by decide) λc A b s H E d=>
  (zh (kf (vA rfl rfl T.Qq (za (qW (ev 0) (fa ⟨T.yP,T.jT⟩ fz)) ze))))
def Y8(T:Txt K mg a):yF P w K mg base (CXe P w) 1 a.zW a.Wn ["self","rows"] (lsp (WW K a) false [true,true] zW):=
 zu (ms:=cD) (S':=[1,1]) (Sb:=[]) (Sc:=[]) T.r_ nH rfl rfl rfl (by decide) λd A c s H E b=>
  (zh (yH (Lo (Ls b.units (qo rfl T.kh (za (ev 1) ze)) ei) (m8 (Uw g6 ig (zt jK jM (ix b (ix b (ev 1) (ic WA WI ei)) (zV (zy (v:=.int 2) rfl T.CW ⟨_,rfl⟩))) (ix b (ix b (ev 1) ei) (zV (zy (v:=.int 1) rfl T.b9 ⟨_,rfl⟩)))) (qW (ev 0) (fa ⟨T.Jq,T.Zr⟩ (fa ⟨T.Jr,T.Zt⟩ (fa ⟨T.kN,T.vJ⟩ fz)))) (yt _))))))
def ZF(T:Txt K mg a):yF P w K mg base (CXe P w) 1 a.zO a.JK ["self","rows"] (lsp (WW K a) false [true,true] zO):=
 zu (ms:=UD) (S':=[1,1]) (Sb:=[]) (Sc:=[]) T.nW iS rfl rfl rfl (by decide) λd A c s H E b=>
  (zh (yH (Lo (Ls b.units (qo rfl T.kh (za (ev 1) ze)) ei) (m8 (Hd (Uw g6 ig (qW (ev 0) (fa ⟨T.Zv,T.KR⟩ fz)) (ix b (ix b (ev 1) ei) (zV (zy (v:=.int 1) rfl T.b9 ⟨_,rfl⟩))) (yt _)) (m8 (Uw g6 ig (ix b (ix b (ev 1) (ic WA WI ei)) (zV (zy (v:=.int 2) rfl T.CW ⟨_,rfl⟩))) (qW (ev 0) (fa ⟨T.Zv,T.W8⟩ fz)) (yt _))))))))
def Y9(T:Txt K mg a):yF P w K mg base (CXe P w) 1 a.zX a.Wo ["self","rows"] (lsp (WW K a) false [true,true] zX):=
 zu (ms:=cE) (S':=[1,1]) (Sb:=[]) (Sc:=[]) T.sd nI rfl rfl rfl (by decide) λc A b s H E d=>
  (zh (yH (QQ QP)))
def ZG(T:Txt K mg a):yF P w K mg base (CXe P w) 1 a.zP a.JL ["self","rows"] (lsp (WW K a) false [true,true] zP):=
 zu (ms:=UE) (S':=[1,1,0,0,0,0]) (Sb:=[]) (Sc:=[]) T.nX qg rfl rfl rfl (by decide) λd A b s H E c=>
  (zf (se 2 qg.nd ei)
   (zf (y_ (zz ⟨rfl,rfl⟩) rfl (j9 (Zh (pv 1))) (bG (n:=3) rfl (yY (gn 3 qg.nd) (yY (gn 4 qg.nd) (yY (gn 5 qg.nd) bF jC) jC) jC))
    (zf (yp (TWM.tm (WK (QR c.units (ev 3) (yX (zy (v:=.str "wait") rfl T.nN ⟨_,rfl⟩))) (Q1 (yA IJ Ln (zt jK jM (ev 5) (ev 4)) (qW (ev 0) (fa ⟨T.kN,T.KQ⟩ fz)) (yt _)))))
    (zh (se 2 qg.nd ei))
    zN)
   (zh (yp (QR c.units (ev 3) (yX (zy (v:=.str "trip") rfl T.uG ⟨_,rfl⟩)))
    (zf (Cc (i:=2) qg.nd rfl (.inl rfl) (zt jK jM (ev 5) (ev 4)) GU)
   (zh (yp (yA g7 ij (ev 2) (qW (ev 0) (fa ⟨T.Jq,T.Zr⟩ (fa ⟨T.Jr,T.Zt⟩ (fa ⟨T.kN,T.vJ⟩ fz)))) (yt _))
    (zh (yH (QQ QP)))
    zN)))
    zN))))
   (zh (yH (QQ QP)))))
def Y_(T:Txt K mg a):yF P w K mg base (CXe P w) 1 a.zY a.Wq ["self","rows"] (lsp (WW K a) false [true,true] zY):=
 zu (ms:=cF) (S':=[1,1,0]) (Sb:=[]) (Sc:=[]) T.sf UA rfl rfl rfl (by decide) λd A b s H E c=>
  (zf (se 2 UA.nd (Hh rfl rfl T.FT (za (FM.em (KA ["kind","begin","end"] [none,none,none] [0,0,0] rfl (by kernel_rfl) (yS (ev 1)) (λ_=>(bG (n:=3) rfl (yY (yw (i:=0) (show List.Nodup (["kind","begin","end"]:List Str)from by decide +kernel) rfl (.inl rfl)) (yY (yw (i:=1) (show List.Nodup (["kind","begin","end"]:List Str)from by decide +kernel) rfl (.inl rfl)) (yY (yw (i:=2) (show List.Nodup (["kind","begin","end"]:List Str)from by decide +kernel) rfl (.inl rfl)) bF jC) jC) jC))) (λ_=>(nh (x6 c.units (ev 0) (yX (zy (v:=.str "wait") rfl T.nN ⟨_,rfl⟩))))) (λ_=>(zt jK jM (ev 2) (ev 1))))) ze)))
   (zh (yH (Lo (Ls c.units (qo rfl T.kh (za (ev 1) ze)) ei) (m8 (Uw g6 ig (ev 2) (qW (ev 0) (fa ⟨T.Jq,T.Zr⟩ (fa ⟨T.Jr,T.Zt⟩ (fa ⟨T.kN,T.vJ⟩ fz)))) (yt _)))))))
def cT(T:Txt K mg a):yF P w K mg base (CXe P w) 1 a.wX a.w6 ["self","name"] (AW a.kC ["name"]):=by
 refine T.cq.okX aE (λg H Q E h=>by obtain⟨e,d,rfl,b,_⟩:=h;rw[a0b,b];rfl) λi A c s H g Q E j h=>?_;obtain⟨e,d,rfl,b,f,k⟩:=h
 match d,b with
 |[v],_=>exact⟨_,j_ (kc (pv 0) (pv 1) rfl),_,rfl,_,rfl,e,a.kC,.none,rfl,T.fZ,T.aI,.inl ⟨f,k⟩⟩
def Aq(T:Txt K mg a):yF P w K mg base (CXe P w) 1 a.km a.gK ["_law_rows","_law_least"] (lsp (WW K a) true [true,true] km):=
 zu (ms:=f6) (S':=[1,1,0,0,0,0]) (Sb:=[]) (Sc:=[]) T.vY.F wt rfl rfl rfl (by decide) λd A c s H E b=>
  (zf (jR (i:=2) wt.nd rfl (.inl rfl) (q_ (za ei ze)))
   (zf (y_ (zz ⟨rfl,rfl⟩) rfl (j9 (Zh (pv 0))) (bG (n:=3) rfl (yY (gn 3 wt.nd) (yY (gn 4 wt.nd) (yY (gn 5 wt.nd) bF jC) jC) jC))
    (zf (yp (TWM.tm (WK (QR b.units (ev 3) (yX jJ)) (Q1 (yA IJ Ln (zt jK jM (ev 5) (ev 4)) (ev 1) (yt _)))))
    (zh (yk (pv 2) ei))
    zN)
   (zh (yp (QR b.units (ev 3) (yX jJ))
    (zh (Cb (pv 2) (ic WA WI ei) (zt jK jM (zt zL zM (ix b (ev 2) (ic WA WI ei)) (ev 5)) (ev 4))))
    zN))))
   (zh (ZT (pv 2)))))
def ow(T:Txt K mg a):yF P w K mg base (CXe P w) 1 a.qb a.JO ["self","rules"] (Fg (WW K a) 18 [true] qb):=
 Yr (ms:=UG) (S':=[2,1]) (Sb:=[]) (Sc:=[]) (n:=1) T.nZ iU rfl rfl rfl (by decide) rfl λc A b s H E d=>
  (zh (KI (i:=0) (pv 0) (FM.em (vA rfl rfl T.Qq (za (ev 1) ze))) (fa ⟨T.W9,T.KS⟩ fz)))
def eV(T:Txt K mg a):yF P w K mg base (CXe P w) 1 a.yC a.Vt ["origin","ways"] (lsp (WW K a) true [true,true] yC):=
 zu (ms:=KZ) (S':=[1,1,0,0,0,0,0,0]) (Sb:=[]) (Sc:=[]) T.qw.F yf rfl rfl rfl (by decide) λd A c s H E b=>
  (zf (jR (i:=2) yf.nd rfl (.inl rfl) (Ti (ev 0) ei))
   (zf (se 3 yf.nd (QQ QP))
   (zf (um (zz ⟨rfl,rfl⟩) (KG (ev 3))
    (zf (se 3 yf.nd (QQ QP))
   (zh (y_ (zz ⟨rfl,rfl⟩) rfl (j9 (Zh (pv 1))) (bG (n:=3) rfl (yY (gn 4 yf.nd) (yY (gn 5 yf.nd) (yY (gn 6 yf.nd) bF jC) jC) jC))
    (zh (yp (OH (qY b) (ev 4) (ev 2))
    (zf (se 7 yf.nd (zt zL zM (ix b (ev 2) (ev 4)) (ev 6)))
   (zh (yp (TWM.tm (x5 (Kn (qY b) (ev 5) (ev 2)) (m7 (yA g5 ie (ev 7) (ix b (ev 2) (ev 5)) (yt _)))))
    (zf (Ca (qY b) (pv 2) (ev 5) (zj (pv 7)))
   (zh (se 3 yf.nd (QQ QP))))
    zN)))
    zN))))))
   (zh (ZT (pv 2))))))
def cU(T:Txt K mg a):yF P w K mg base (CXe P w) 1 a.jV a.o6 ["_law_row"] (lsp (WW K a) false [true] jV):=
 zu (ms:=oq) (S':=[1]) (Sb:=[]) (Sc:=[]) T.Yv.F Ak rfl rfl rfl (by decide) λc A b s H E d=>
  (zh (yH (CD (yX jJ) (ev 0))))
def sA(T:Txt K mg a):yF P w K mg base (CXe P w) 1 a.jw a.dz ["_law_row","_law_home","_law_lengths_here"] (lsp (WW K a) true [true,false,true] jw):=
 zu (ms:=cG) (S':=[1,0,1,0,0,0,0,0]) (Sb:=[]) (Sc:=[]) T.kl.F yL rfl rfl rfl (by decide) λd A c s H E b=>
  (zf (jR (i:=3) yL.nd rfl (.inl rfl) (q_ ze))
   (zf (se 4 yL.nd (zj (pv 1)))
   (zf (se 5 yL.nd (WG Wz))
   (zf (y_ (zz ⟨rfl,rfl⟩) rfl (j9 (Zh (pv 0))) (gn 6 yL.nd)
    (zf (se 7 yL.nd (bU (qY b) (ev 2) (za (zj (pv 4)) (za (ix b (ev 6) ei) ze))))
   (zf (yp (yA tS uc (ev 5) (WG Wz) (yt _))
    (zh (se 5 yL.nd (zt jK jM (ix b (ev 6) ei) (ev 7))))
    zN)
   (zf (yp (yA g7 ij (ev 7) ei (yt _))
    (zh (yk (pv 3) (jP (za (yX jJ) (za (zj (pv 5)) (za (zt zL zM (ev 5) (ev 7)) ze))))))
    zN)
   (zf (yp (yA g5 ie (zt zL zM (ev 5) (ev 7)) (ix b (ev 6) ei) (yt _))
    (zh (yk (pv 3) (jP (za (yX jJ) (za (zt zL zM (ev 5) (ev 7)) (za (ix b (ev 6) ei) ze))))))
    zN)
   (zf (yk (pv 3) (jP (za (yX jJ) (za (ix b (ev 6) ei) (za (ix b (ev 6) ei) ze)))))
   (zf (se 4 yL.nd (ix b (ev 6) ei))
   (zh (se 5 yL.nd (ix b (ev 6) ei))))))))))
   (zf (yp (TWM.tm (WK (x6 b.units (ev 0) (FM.em (q_ ze))) (Q1 (yA g7 ij (bU (qY b) (ev 2) (za (zj (pv 4)) (za (zj (pv 1)) ze))) ei (yt _)))))
    (zh (yk (pv 3) (jP (za (yX jJ) (za (zj (pv 5)) (za (zt zL zM (ev 5) (bU (qY b) (ev 2) (za (zj (pv 4)) (za (zj (pv 1)) ze)))) ze))))))
    zN)
   (zh (ZT (pv 3))))))))
def sC(T:Txt K mg a):yF P w K mg base (CXe P w) 1 a.kn a.Wr ["self","most"] (Fg (WW K a) 14 [false] kn):=
 Yr (ms:=cH) (S':=[2,0]) (Sb:=[]) (Sc:=[]) (n:=1) T.si nK rfl rfl rfl (by decide) rfl λc A b s H E d=>
  (zh (KI (i:=0) (pv 0) (zj (pv 1)) (fa ⟨T.Jq,T.Zr⟩ fz)))
def sD(T:Txt K mg a):yF P w K mg base (CXe P w) 1 a.ko a.Ws ["self","most"] (Fg (WW K a) 15 [false] ko):=
 Yr (ms:=cI) (S':=[2,0]) (Sb:=[]) (Sc:=[]) (n:=1) T.so nM rfl rfl rfl (by decide) rfl λc A b s H E d=>
  (zh (KI (i:=0) (pv 0) (zj (pv 1)) (fa ⟨T.Jr,T.Zt⟩ fz)))
def oy(T:Txt K mg a):yF P w K mg base (CXe P w) 1 a.jD a.JQ ["self","most","least"] (Fg (WW K a) 16 [false,false] jD):=
 Yr (ms:=UH) (S':=[2,0,0]) (Sb:=[]) (Sc:=[]) (n:=2) T.n8 iW rfl rfl rfl (by decide) rfl λc A b s H E d=>
  (zf (KI (i:=0) (pv 0) (zj (pv 1)) (fa ⟨T.kN,T.vJ⟩ fz))
   (zh (KI (i:=0) (pv 0) (zj (pv 2)) (fa ⟨T.kN,T.KQ⟩ fz))))
def oz(T:Txt K mg a):yF P w K mg base (CXe P w) 1 a.jE a.JR ["self","first","last"] (Fg (WW K a) 17 [false,false] jE):=
 Yr (ms:=UI) (S':=[2,0,0]) (Sb:=[]) (Sc:=[]) (n:=2) T.oa iX rfl rfl rfl (by decide) rfl λc A b s H E d=>
  (zf (KI (i:=0) (pv 0) (zj (pv 1)) (fa ⟨T.Zv,T.KR⟩ fz))
   (zh (KI (i:=0) (pv 0) (zj (pv 2)) (fa ⟨T.Zv,T.W8⟩ fz))))
def jX(T:Txt K mg a):yF P w K mg base (CXe P w) 2 a.yh a.oZ ["_law_script","_law_k","_law_prime"] (lsp (WW K a) false [true,true,true] yh):=
 zu (ms:=ot) (S':=[1,1,1]) (Sb:=[]) (Sc:=[]) T.qq.F Aj rfl rfl rfl (by decide) λd A b s H E c=>
  (zh (yH (zt zF zG (zt QY QZ (zt zF zG (ec (qT T) c T.yz zE (za (ev 0) (za (ev 1) ze))) ei) ei) (ev 2))))
def Ar(T:Txt K mg a):yF P w K mg base (CXe P w) 2 a.kr a.gI ["_law_script","_law_at","_law_name","_law_places","_law_lengths_here","_law_ahead"] (lsp (WW K a) false [true,true,false,true,true,true] kr):=
 zu (ms:=f7) (S':=[1,1,0,1,1,1,0,0,0,0,0,0,0,0]) (Sb:=[]) (Sc:=[]) T.Kt.F yx rfl rfl rfl (by decide) λd A c s H E b=>
  (zf (se 6 yx.nd (ec (qT T) b T.yz zE (za (ev 0) (za (ev 1) ze))))
   (zf (se 7 yx.nd (ec (qT T) b T.yz zE (za (ev 0) (za (EM.weak (zt zL zM (ev 1) ei)) ze))))
   (zf (se 8 yx.nd (ec (qT T) b T.yz zE (za (ev 0) (za (EM.weak (zt zL zM (ev 1) ei)) ze))))
   (zf (se 9 yx.nd (ix b (ev 3) (zt zF zG (ev 6) (qo rfl T.kh (za (ev 3) ze)))))
   (zf (se 10 yx.nd (ix b (ev 3) (zt zF zG (zt jN jO (ev 6) ei) (qo rfl T.kh (za (ev 3) ze)))))
   (zf (yp (CJ (qY b) (za (zj (pv 9)) (za (zj (pv 10)) ze)) (ev 4))
    (zh (se 10 yx.nd (zj (pv 9))))
    zN)
   (zf (se 11 yx.nd (ix b (FM.em (q_ (za ei (za (zt zF zG (ev 8) ei) (za (zt zF zG (ev 7) ei) (za (zt zF zG (ev 8) (zt mG bz ei ei)) ze)))))) (zt zF zG (zt jN jO (ev 6) ei) ei)))
   (zf (se 12 yx.nd (bC rfl rfl T.i4 (za ei (za (zt zL zM (bU (qY b) (ev 4) (za (zj (pv 9)) (za (zj (pv 10)) ze))) (ev 11)) ze))))
   (zf (se 13 yx.nd (ix b (FM.em (q_ (za (zt zF zG (ev 7) ei) (za (zt zF zG (ev 7) ei) (za (zt zF zG (ev 7) (zt mG bz ei ei)) ze))))) (zt zF zG (zt jN jO (ev 6) ei) ei)))
   (zf (yp (TWM.tm (WK (QR b.units (zt zF zG (zt jN jO (ev 6) ei) ei) ei) (WK (yA Be BO (ev 5) (WG Wz) (yt _)) (Q1 (CG (qY b) (za (ix b (ev 5) ei) (za (zj (pv 9)) ze)) (ev 4))))))
    (zh (se 13 yx.nd (zt jK jM (zt zL zM (zt zL zM (ix b (ev 5) ei) (bU (qY b) (ev 4) (za (ix b (ev 5) ei) (za (zj (pv 9)) ze)))) (zt zF zG (ev 7) ei)) ei)))
    zN)
   (zf (se 13 yx.nd (m_ rfl rfl T.nO (za (ev 13) (za (zt jK jM (zt mG bz ei ei) (ev 12)) ze))))
   (zh (yH (jP (za (zj (pv 2)) (za (zj (pv 9)) (za (zj (pv 10)) (za (zj (pv 13)) (za (zt zL zM (ev 13) (ev 12)) (za (zt zF zG (zt jN jO (ev 8) ei) (zt zL zM (zt mG bz ei ei) ei)) ze))))))))))))))))))))
def JA(T:Txt K mg a):yF P w K mg base (CXe P w) 2 a.z_ a.JM ["self","rows"] (lsp (WW K a) false [true,true] z_):=
 zu (ms:=UJ) (S':=[1,1]) (Sb:=[]) (Sc:=[]) T.nY iT rfl rfl rfl (by decide) λe A c s H E b=>
  (zh (yH (B0 rfl rfl T.C1 (za (FM.em (KA ["rule","rows"] [none,some 1] [0,1] rfl (by kernel_rfl) (yS (qW (ev 0) (fa ⟨T.W9,T.KS⟩ fz))) (λ_=>(yw (i:=0) (show List.Nodup (["rule","rows"]:List Str)from by decide +kernel) rfl (.inl rfl))) (λ_=>k8) (λ_=>(qA (fr:=false) (ws:=[true]) (tab:=[(13,zX),(14,zW),(15,zY),(16,zP),(17,zO)]) (ev 0) (λK sp ⟨q,d,f,g⟩=>by
    simp only[List.mem_cons,List.not_mem_nil,or_false]at d;rcases d with rfl|rfl|rfl|rfl|rfl<;>subst f g
    .exact⟨_,_,_,_,T.lh,T.Zq,Y9 T,(rm b),T.Y2⟩
    .exact⟨_,_,_,_,T.Jq,T.Zs,Y8 T,(rm b),T.Y1⟩
    .exact⟨_,_,_,_,T.Jr,T.Zu,Y_ T,(rm b),T.Y3⟩
    .exact⟨_,_,_,_,T.kN,T.vL,ZG T,(rm b),T.Zm⟩
    .exact⟨_,_,_,_,T.Zv,T.vM,ZF T,(rm b),T.Zl⟩) WE (za (ev 1) ze))))) ze))))
def oA(T:Txt K mg a):yF P w K mg base (CXe P w) 2 a.qF a.U4 ["_law_row","_law_known","_law_behind"] (lsp (WW K a) false [true,true,true] qF):=
 zu (ms:=UK) (S':=[1,1,1,0]) (Sb:=[]) (Sc:=[]) T.Zo.F YW rfl rfl rfl (by decide) λd A c s H E b=>
  (zf (y_ (zz ⟨rfl,rfl⟩) rfl (Q2 rfl T.Z5 (za (zt jK jM (qo rfl T.kh (za (ev 0) ze)) ei) ze)) (gn 3 YW.nd)
    (zh (yp (Kn (qY b) (ix b (ev 0) (zt zL zM (ev 3) ei)) (ix b (ev 2) (ix b (ev 0) (ev 3))))
    (zh (yH (QQ QP)))
    zN)))
   (zf (yp (yA g7 ij (qo rfl T.kh (za (ev 0) ze)) ei (yt _))
    (zh (y_ (zz ⟨rfl,rfl⟩) rfl (Q2 rfl T.Z5 (za (qo rfl T.kh (za (ev 0) ze)) ze)) (gn 3 YW.nd)
    (zh (yp (Kn (qY b) (ec (cU T) b T.Yv zE (za (EM.weak (zt zL zM (WM (ev 0) V2 (V3 (ev 3))) (WM (ev 0) (V3 (zt zL zM (ev 3) ei)) V2))) ze)) (ev 1))
    (zh (yH (QQ QP)))
    zN))))
    zN)
   (zh (yH (QQ QP)))))
def cV(T:Txt K mg a):yF P w K mg base (CXe P w) 3 a.jx a.dq ["_law_script","_law_at","_law_many"] (lsp (WW K a) true [true,true,true] jx):=
 zu (ms:=cK) (S':=[1,1,1,0,0,0,0,0,0,0,0]) (Sb:=[]) (Sc:=[]) T.qi.F yq rfl rfl rfl (by decide) λd A c s H E b=>
  (zf (bE (i:=3) yq.nd rfl (by first|exact .inl rfl|exact .inr rfl) (yX jJ))
   (zf (bE (i:=4) yq.nd rfl (by first|exact .inl rfl|exact .inr rfl) (zt zF zG (ec (qT T) b T.yz zE (za (ev 0) (za (ev 1) ze))) ei))
   (zf (Cj (i:=5) ["_law_j","_law_cell"] [none,some 4] [0,0] yq.nd rfl rfl rfl (by kernel_rfl) (Q2 rfl T.Z5 (za ei ze)) (λ_=>(yw (i:=0) (show List.Nodup (["_law_j","_law_cell"]:List Str)from by decide +kernel) rfl (.inl rfl))) (λ_=>k8) (λ_=>(zt zF zG (zt zF zG (zt zL zM (zt QY QZ (ev 1) ei) (zt QY QZ (zt QY QZ ei (ev 0)) (ev 0))) ei) ei)))
   (zf (se 6 yq.nd (ec (jX T) b T.qq zE (za (ev 0) (za (EM.weak (zt zL zM (ev 1) ei)) (za (EM.weak ei) ze)))))
   (zf (jR (i:=7) yq.nd rfl (.inl rfl) (q_ ze))
   (zf (y_ (zz ⟨rfl,rfl⟩) rfl (Q2 rfl T.Z5 (za (ev 2) ze)) (gn 8 yq.nd)
    (LH (S1:=[1,1,1,0,0,0,0,2,0,2,0]) 9 (zf (jR (i:=9) yq.nd rfl (.inl rfl) (OX (by exact(FM.em (vA rfl rfl T.Qq (za (WM (ev 5) V2 (V3 (zt zL zM ei (zt zF zG (ev 4) ei)))) ze)))) (by exact(zt QY QZ (WM (ev 5) (V3 ei) V2) (zt zF zG (ev 8) ei)))))
   (zf (se 10 yq.nd (zt zF zG (zt jN jO (ev 6) ei) (qo rfl T.kh (za (ev 9) ze))))
   (zf (Cb (pv 9) (ev 10) (zt zF zG (zt zL zM (ix b (ev 9) (ev 10)) (ev 8)) ei))
   (zf (yp (TWM.tm (WK (QR b.units (zt zF zG (ev 6) ei) ei) (Q1 (yA g6 ig (ev 2) ei (yt _)))))
    (zh (jR (i:=9) yq.nd rfl (.inl rfl) (uk (ev 5) V2 (V3 (zt zL zM ei (ev 8))))))
    zN)
   (zf (yp (TWM.tm (WK (QR b.units (zt zF zG (ev 6) ei) ei) (Q1 (yA g6 ig (ev 2) ei (yt _)))))
    (zh (jR (i:=9) yq.nd rfl (.inl rfl) (uk (ev 5) V2 (V3 (zt jK jM (ev 2) (ev 8))))))
    zN)
   (zh (yk (pv 7) (CD (yX jJ) (FM.em (KA ["_law_x","_law_some"] [none,some 3] [0,0] rfl (by kernel_rfl) (yS (ev 9)) (λ_=>(yw (i:=0) (show List.Nodup (["_law_x","_law_some"]:List Str)from by decide +kernel) rfl (.inl rfl))) (λ_=>k8) (λ_=>(ix b (ev 1) (ev 0)))))))))))))))
   (zh (ZT (pv 7)))))))))
def As(T:Txt K mg a):yF P w K mg base (CXe P w) 3 a.v5 a.gH ["_law_script","_law_at","_law_names_here"] (lsp (WW K a) true [true,true,true] v5):=
 zu (ms:=f9) (S':=[1,1,1,0,0,0,0,0]) (Sb:=[]) (Sc:=[]) T.vW.F jv rfl rfl rfl (by decide) λd A c s H E b=>
  (zf (se 3 jv.nd (qo rfl T.kh (za (ev 2) ze)))
   (zf (se 4 jv.nd (ix b (FM.em (q_ (za ei (za ei (za ei (za (zt QY QZ ei (zt mG bz ei ei)) ze)))))) (zt zF zG (ec (jX T) b T.qq zE (za (ev 0) (za (ev 1) (za (EM.weak ei) ze)))) ei)))
   (zf (jR (i:=5) jv.nd rfl (.inl rfl) (q_ ze))
   (zf (y_ (zz ⟨rfl,rfl⟩) rfl (Q2 rfl T.Z5 (za (ev 3) ze)) (gn 6 jv.nd)
    (zh (yk (pv 5) (jP (za (ix b (ev 2) (ev 6)) (za (ix b (ev 2) (zt zF zG (zt zL zM (ev 6) ei) (ev 3))) (za (zt zL zM ei (zt zF zG (ec (jX T) b T.qq zE (za (ev 0) (za (EM.weak (zt zL zM (ev 1) (ev 6))) (za (EM.weak ei) ze)))) (ev 4))) ze)))))))
   (zf (y_ (zz ⟨rfl,rfl⟩) rfl (Q2 rfl T.Z5 (za ei ze)) (gn 6 jv.nd)
    (zf (se 7 jv.nd (ec (qT T) b T.yz zE (za (ev 0) (za (EM.weak (zt zL zM (ev 1) (ev 6))) ze))))
   (zh (yk (pv 5) (jP (za (ix b (ev 2) (zt zF zG (ev 7) (ev 3))) (za (ix b (ev 2) (zt zF zG (zt jN jO (ev 7) (ev 3)) (ev 3))) (za (zt zL zM ei (zt zF zG (zt jN jO (ev 7) ei) (ev 4))) ze))))))))
   (zh (ZT (pv 5))))))))
def sE(T:Txt K mg a):yF P w K mg base (CXe P w) 3 a.ky a.dr ["_law_script","_law_at","_law_names_here","_law_places","_law_lengths_here"] (lsp (WW K a) true [true,true,true,true,true] ky):=
 zu (ms:=cL) (S':=[1,1,1,1,1,0,0,0]) (Sb:=[]) (Sc:=[]) T.ki.F k9 rfl rfl rfl (by decide) λd A c s H E b=>
  (zf (jR (i:=5) k9.nd rfl (.inl rfl) (q_ ze))
   (zf (y_ (zz ⟨rfl,rfl⟩) rfl (Q2 rfl T.Z5 (za (qo rfl T.kh (za (ev 2) ze)) ze)) (gn 6 k9.nd)
    (zf (se 7 k9.nd (WG Wz))
   (zf (yp (yA g7 ij (ev 6) ei (yt _))
    (zh (se 7 k9.nd (ix b (ev 5) (zt zF zG (ec (jX T) b T.qq zE (za (ev 0) (za (EM.weak (zt zL zM (zt zL zM (ev 1) (zt QY QZ ei (ev 6))) ei)) (za (EM.weak ei) ze)))) (ev 6)))))
    zN)
   (zh (yk (pv 5) (ec (Ar T) b T.Kt zE (za (ev 0) (za (EM.weak (zt zL zM (ev 1) (zt QY QZ ei (ev 6)))) (za (ix b (ev 2) (ev 6)) (za (ev 3) (za (ev 4) (za (ev 7) ze))))))))))))
   (zh (ZT (pv 5)))))
def ZH(T:Txt K mg a):yF P w K mg base (CXe P w) 3 a.yD a.U1 ["things","most"] (lsp (WW K a) false [true,false] yD):=
 zu (ms:=UP) (S':=[1,0]) (Sb:=[]) (Sc:=[]) T.qE.F iO rfl rfl rfl (by decide) λe A b s H E d=>
  (zh (yp (yA g7 ij (qo rfl T.kh (za (ev 0) ze)) (ev 1) (yt _))
    (zh (qN (c:=3) rfl T.C3 T.oi (eR T) (rm d) rfl T.b_ T.d9 (za (zj (pv 1)) ze)))
    zN))
def eX(T:Txt K mg a):yF P w K mg base (CXe P w) 3 a.qx a.Vq ["name"] (lsp (WW K a) false [false] qx):=
 zu (ms:=K5) (S':=[0,0]) (Sb:=[]) (Sc:=[]) T.kI.F Jl rfl rfl rfl (by decide) λe A d s H E b=>
  (zf (yp (TWM.tm (x5 (yA g5 ie (qo rfl T.kh (za (ev 0) ze)) ei (yt _)) (m7 (yA g7 ij (qo rfl T.kh (za (ev 0) ze)) (zV (zy (v:=.int 12) rfl T.Z3 ⟨_,rfl⟩)) (yt _)))))
    (zh (qN (c:=1) rfl T.oh T.cw (Vo T) (rm b) rfl T.W4 T.KO (za (zj (pv 0)) ze)))
    zN)
   (zf (y_ (zz ⟨rfl,rfl⟩) rfl (Ph (ev 0)) (gn 1 Jl.nd)
    (zh (yp (Kn (qY b) (ev 1) (yX (zy (v:=.str "abcdefghijklmnopqrstuvwxyz0123456789") rfl T.Jm ⟨_,rfl⟩)))
    (zh (qN (c:=1) rfl T.oh T.cw (Vo T) (rm b) rfl T.W4 T.KO (za (zj (pv 0)) ze)))
    zN)))
   (zh (yH (zj (pv 0))))))
def jY(T:Txt K mg a):yF P w K mg base (CXe P w) 3 a.yn a.Xu ["name","places"] (lsp (WW K a) false [false,true] yn):=
 zu (ms:=Xg) (S':=[0,1]) (Sb:=[]) (Sc:=[]) T.yN.F dX rfl rfl rfl (by decide) λe A b s H E d=>
  (zh (yp (Kn (qY d) (ev 0) (ev 1))
    (zh (qN (c:=5) rfl T.C5 T.oj (eS T) (rm d) rfl T.cb T.eB (za (zj (pv 0)) ze)))
    zN))
def jr(T:Txt K mg a):yF P w K mg base (CXe P w) 3 a.zZ a.Qy ["value","least"] (lsp (WW K a) false [false,true] zZ):=
 zu (ms:=Qv) (S':=[0,1]) (Sb:=[]) (Sc:=[]) T.yy.F Ub rfl rfl rfl (by decide) λe A b s H E d=>
  (zf (yp (TWM.tm (x5 (yA g5 ie (ev 0) (ev 1) (yt _)) (m7 (yA g7 ij (ev 0) (zV (zy (v:=.int 1000000000) rfl T.rS ⟨_,rfl⟩)) (yt _)))))
    (zh (qN (c:=2) rfl T.su T.cy (aJ T) (rm d) rfl T.Wh T.aG (za (zj (pv 0)) ze)))
    zN)
   (zh (yH (zj (pv 0)))))
def qc(T:Txt K mg a):yF P w K mg base (CXe P w) 3 a.zr a.JI ["self","name"] (lsp (WW K a) false [true,false] zr):=
 zu (ms:=UQ) (S':=[1,0]) (Sb:=[]) (Sc:=[]) T.nV iR rfl rfl rfl (by decide) λe A d s H E b=>
  (zf (yp (Kn (qY b) (ev 1) (qW (ev 0) (fa ⟨T.z1,T.qt⟩ fz)))
    (zh (qN (c:=7) rfl T.FV T.uJ (lG T) (rm b) rfl T.iZ T.i7 (za (zj (pv 1)) ze)))
    zN)
   (zh (yH (ix b (qW (ev 0) (fa ⟨T.z1,T.qt⟩ fz)) (ev 1)))))
def sF(T:Txt K mg a):yF P w K mg base (CXe P w) 3 a.jA a.dy ["_law_script","_law_at","_law_sheets"] (lsp (WW K a) true [true,true,true] jA):=
 zu (ms:=cM) (S':=[1,1,1,0,0,0,0,0,0,0,0]) (Sb:=[]) (Sc:=[]) T.kj.F yK rfl rfl rfl (by decide) λd A c s H E b=>
  (zf (Cj (i:=3) ["_law_rows"] [none] [0] yK.nd rfl rfl rfl (by kernel_rfl) (yS (ev 2)) (λ_=>(yw (i:=0) (show List.Nodup (["_law_rows"]:List Str)from by decide +kernel) rfl (.inl rfl))) (λ_=>k8) (λ_=>(zt jK jM (ix b (ix b (ev 0) (ic WA WI ei)) ei) (ix b (ix b (ev 0) ei) ei))))
   (zf (Cj (i:=4) ["_law_rows"] [none] [0] yK.nd rfl rfl rfl (by kernel_rfl) (yS (ev 2)) (λ_=>(yw (i:=0) (show List.Nodup (["_law_rows"]:List Str)from by decide +kernel) rfl (.inl rfl))) (λ_=>k8) (λ_=>(Hh rfl rfl T.FT (za (FM.em (KA ["_law_part"] [none] [0] rfl (by kernel_rfl) (yS (ev 0)) (λ_=>(yw (i:=0) (show List.Nodup (["_law_part"]:List Str)from by decide +kernel) rfl (by first|exact .inl rfl|exact .inr rfl))) (λ_=>(nh (x6 b.units (ix b (ev 0) ei) (yX jJ)))) (λ_=>(zt jK jM (ix b (ev 0) ei) (ix b (ev 0) ei))))) ze))))
   (zf (Cj (i:=5) ["_law_rows"] [none] [0] yK.nd rfl rfl rfl (by kernel_rfl) (yS (ev 2)) (λ_=>(yw (i:=0) (show List.Nodup (["_law_rows"]:List Str)from by decide +kernel) rfl (.inl rfl))) (λ_=>k8) (λ_=>(bC rfl rfl T.i4 (za (FM.em (qf (Aq T) (rm b) rfl T.vY.g T.vY.k T.vY.b WE (za (ev 0) (za (EM.weak ei) ze)))) ze))))
   (zf (jR (i:=6) yK.nd rfl (.inl rfl) (q_ ze))
   (zf (y_ (zz ⟨rfl,rfl⟩) rfl (Q2 rfl T.Z5 (za (zt zL zM ei (zt zF zG (ec (jX T) b T.qq zE (za (ev 0) (za (ev 1) (za (EM.weak ei) ze)))) ei)) ze)) (gn 7 yK.nd)
    (zf (se 8 yK.nd (ec (jX T) b T.qq zE (za (ev 0) (za (EM.weak (zt zL zM (ev 1) (ev 7))) (za (EM.weak ei) ze)))))
   (zf (se 9 yK.nd (ix b (FM.em (q_ (za (zt zF zG (zt jN jO (ev 8) ei) ei) (za (zt zF zG (zt jN jO (ev 8) ei) ei) (za (zt zF zG (zt jN jO (ev 8) ei) ei) ze))))) (zt zF zG (zt jN jO (ev 8) ei) ei)))
   (zf (yp (QR b.units (zt zF zG (ev 8) ei) ei)
    (zh (yk (pv 6) (jP (za (yX jJ) (za (zt zL zM (bC rfl rfl T.i4 (za (ev 3) ze)) (ev 9)) ze)))))
    zN)
   (zf (yp (QR b.units (zt zF zG (ev 8) ei) ei)
    (zh (yk (pv 6) (jP (za (yX jJ) (za (zt zL zM (bC rfl rfl T.i4 (za (ev 4) ze)) (ev 9)) ze)))))
    zN)
   (zf (yp (QR b.units (zt zF zG (ev 8) ei) ei)
    (zh (yk (pv 6) (jP (za (yX jJ) (za (zt zL zM (bC rfl rfl T.i4 (za (ev 5) ze)) (ev 9)) (za (zt zL zM ei (zt zF zG (zt jN jO (ev 8) ei) ei)) ze))))))
    zN)
   (zf (yp (QR b.units (zt zF zG (ev 8) ei) ei)
    (zf (se 10 yK.nd (Ml rfl rfl T.nO (za (FM.em (KA ["_law_rows"] [none] [0] rfl (by kernel_rfl) (yS (ev 2)) (λ_=>(yw (i:=0) (show List.Nodup (["_law_rows"]:List Str)from by decide +kernel) rfl (.inl rfl))) (λ_=>k8) (λ_=>(ix b (ix b (ev 0) ei) ei)))) ze)))
   (zh (yk (pv 6) (jP (za (yX jJ) (za (zt jK jM (ev 10) (ev 9)) (za (zt zL zM (bC rfl rfl T.i4 (za (FM.em (KA ["_law_rows"] [none] [0] rfl (by kernel_rfl) (yS (ev 2)) (λ_=>(yw (i:=0) (show List.Nodup (["_law_rows"]:List Str)from by decide +kernel) rfl (.inl rfl))) (λ_=>k8) (λ_=>(ix b (ix b (ev 0) (ic WA WI ei)) ei)))) ze)) (ev 9)) ze)))))))
    zN)
   (zh (yp (QR b.units (zt zF zG (ev 8) ei) ei)
    (zh (yk (pv 6) (jP (za (yX jJ) ze))))
    zN)))))))))
   (zh (ZT (pv 6))))))))
def Au(T:Txt K mg a):yF P w K mg base (CXe P w) 3 a.v7 a.gL ["_law_spec"] (lsp (WW K a) true [true] v7):=
 zu (ms:=f_) (S':=[1]) (Sb:=[]) (Sc:=[]) T.vZ.F rR rfl rfl rfl (by decide) λe A d s H E b=>
  (zf (yp (QR b.units (ix b (ev 0) ei) (yX jJ))
    (zh (kf (X2 (c:=14) T.Mq (sC T) (rm b) rfl T.CZ T.sj zE (za (ix b (ev 0) ei) ze))))
    zN)
   (zf (yp (QR b.units (ix b (ev 0) ei) (yX jJ))
    (zh (kf (X2 (c:=15) T.Mr (sD T) (rm b) rfl T.C0 T.sr zE (za (ix b (ev 0) ei) ze))))
    zN)
   (zf (yp (QR b.units (ix b (ev 0) ei) (yX jJ))
    (zh (kf (X2 (c:=16) T.FY (oy T) (rm b) rfl T.rZ T.n_ zE (za (ix b (ev 0) ei) (za (ix b (ev 0) ei) ze)))))
    zN)
   (zf (yp (QR b.units (ix b (ev 0) ei) (yX jJ))
    (zh (kf (X2 (c:=17) T.FZ (oz T) (rm b) rfl T.r8 T.og zE (za (ix b (ev 0) ei) (za (ix b (ev 0) ei) ze)))))
    zN)
   (zh (kf (ui T.C8 rfl T.uH)))))))
def ZI(T:Txt K mg a):yF P w K mg base (CXe P w) 4 a.z6 a.ZK ["name","had"] (lsp (WW K a) false [false,true] z6):=
 zu (ms:=Zw) (S':=[0,1]) (Sb:=[]) (Sc:=[]) T.yM.F Wf rfl rfl rfl (by decide) λe A d s H E b=>
  (zf (yo (ec (eX T) b T.kI zE (za (zj (pv 0)) ze)))
   (zf (yp (OH (qY b) (ev 0) (ev 1))
    (zh (qN (c:=4) rfl T.Mp T.C4 (ou T) (rm b) rfl T.rV T.nQ (za (zj (pv 0)) ze)))
    zN)
   (zh (yH (zj (pv 0))))))
def qz(T:Txt K mg a):yF P w K mg base (CXe P w) 4 a.zx a.Yj ["self","origin","goal"] (lsp (WW K a) false [true,false,false] zx):=
 zu (ms:=Vi) (S':=[1,0,0]) (Sb:=[]) (Sc:=[]) T.eC b6 rfl rfl rfl (by decide) λd A c s H E b=>
  (zf (yo (ec (jY T) b T.yN zE (za (zj (pv 1)) (za (EM.weak (qW (ev 0) (fa ⟨T.yP,T.jT⟩ fz))) ze))))
   (zf (yo (ec (jY T) b T.yN zE (za (zj (pv 2)) (za (EM.weak (qW (ev 0) (fa ⟨T.yP,T.jT⟩ fz))) ze))))
   (zh (yH (Pj (qY b) (ix b (qW (ev 0) (fa ⟨T.yP,T.Qr⟩ fz)) (ev 1)) (ev 2) ⟨rfl,rfl,rfl,rfl⟩)))))
def lH(T:Txt K mg a):yF P w K mg base (CXe P w) 4 a.qQ a.Xv ["table","names"] (lsp (WW K a) false [true,true] qQ):=
 zu (ms:=Xj) (S':=[1,1,0]) (Sb:=[]) (Sc:=[]) T.vE.F KN rfl rfl rfl (by decide) λd A b s H E c=>
  (zh (y_ (zz ⟨rfl,rfl⟩) rfl (j9 (Zh (pv 1))) (gn 2 KN.nd)
    (zh (yo (qA (fr:=false) (ws:=[false]) (tab:=[(10,zr)]) (ev 0) (al ⟨_,_,_,_,T.z1,T.yO,qc T,(rm c),T.qa⟩) zE (za (zj (pv 2)) ze))))))
def oB(T:Txt K mg a):yF P w K mg base (CXe P w) 4 a.jF a.U3 ["places","ways"] (lsp (WW K a) false [true,true] jF):=
 zu (ms:=UR) (S':=[1,1,0,0,0]) (Sb:=[]) (Sc:=[]) T.Zn.F vC rfl rfl rfl (by decide) λd A c s H E b=>
  (zh (y_ (zz ⟨rfl,rfl⟩) rfl (j9 (Zh (pv 1))) (bG (n:=3) rfl (yY (gn 2 vC.nd) (yY (gn 3 vC.nd) (yY (gn 4 vC.nd) bF jC) jC) jC))
    (zf (yo (ec (jY T) b T.yN zE (za (zj (pv 2)) (za (ev 0) ze))))
   (zf (yo (ec (jY T) b T.yN zE (za (zj (pv 3)) (za (ev 0) ze))))
   (zh (yo (ec (jr T) b T.yy zE (za (zj (pv 4)) (za (EM.weak ei) ze)))))))))
def oC(T:Txt K mg a):yF P w K mg base (CXe P w) 5 a.qG a.U2 ["roads","trip","had"] (lsp (WW K a) false [true,true,true] qG):=
 zu (ms:=US) (S':=[1,1,1,0]) (Sb:=[]) (Sc:=[]) T.Zk.F W2 rfl rfl rfl (by decide) λe A d s H E b=>
  (zf (yo (ec (ZI T) b T.yM zE (za (ix b (ev 1) (zV (zy (v:=.int 0) rfl T.UB ⟨_,rfl⟩))) (za (ev 2) ze))))
   (zf (se 3 W2.nd (qA (fr:=false) (ws:=[false,false]) (tab:=[(11,zx)]) (ev 0) (al ⟨_,_,_,_,T.yP,T.y6,qz T,(rm b),T.qv⟩) zE (za (ix b (ev 1) (zV (zy (v:=.int 1) rfl T.Zj ⟨_,rfl⟩))) (za (ix b (ev 1) (zV (zy (v:=.int 2) rfl T.b8 ⟨_,rfl⟩))) ze))))
   (zf (yo (ec (jr T) b T.yy zE (za (ix b (ev 1) (zV (zy (v:=.int 3) rfl T.Z4 ⟨_,rfl⟩))) (za (EM.weak ei) ze))))
   (zf (yo (ec (jr T) b T.yy zE (za (ix b (ev 1) (zV (zy (v:=.int 4) rfl T.vD ⟨_,rfl⟩))) (za (EM.weak ei) ze))))
   (zf (yo (ec (jr T) b T.yy zE (za (ix b (ev 1) (zV (zy (v:=.int 5) rfl T.rT ⟨_,rfl⟩))) (za (EM.weak ei) ze))))
   (zf (yp (yA g6 ig (ix b (ev 1) (zV (zy (v:=.int 4) rfl T.vD ⟨_,rfl⟩))) (ix b (ev 1) (zV (zy (v:=.int 3) rfl T.Z4 ⟨_,rfl⟩))) (yt _))
    (zh (qN (c:=8) rfl T.Al T.fY (cR T) (rm b) rfl T.Ud T.cj (za (ix b (ev 1) (zV (zy (v:=.int 0) rfl T.UB ⟨_,rfl⟩))) ze)))
    zN)
   (zf (yp (yA tS uc (ev 3) (WG Wz) (yt _))
    (zh (qN (c:=6) rfl T.C6 T.la (UX T) (rm b) rfl T.iY T.UC (za (ix b (ev 1) (zV (zy (v:=.int 1) rfl T.Zj ⟨_,rfl⟩))) (za (ix b (ev 1) (zV (zy (v:=.int 2) rfl T.b8 ⟨_,rfl⟩))) ze))))
    zN)
   (zh (yp (yA g5 ie (zt jK jM (ix b (ev 1) (zV (zy (v:=.int 4) rfl T.vD ⟨_,rfl⟩))) (ix b (ev 1) (zV (zy (v:=.int 3) rfl T.Z4 ⟨_,rfl⟩)))) (ev 3) (yt _))
    (zh (qN (c:=9) rfl T.C7 T.om (eU T) (rm b) rfl T.cf T.eF (za (ix b (ev 1) (zV (zy (v:=.int 0) rfl T.UB ⟨_,rfl⟩))) ze)))
    zN)))))))))
def Tz(T:Txt K mg a):yF P w K mg base (CXe P w) 5 a.Ao a.RF ["table","one","other"] (lsp (WW K a) false [true,false,false] Ao):=
 zu (ms:=PR) (S':=[1,0,0,0,0,0]) (Sb:=[]) (Sc:=[]) T.FU.F uE rfl rfl rfl (by decide) λd A c s H E b=>
  (zf (se 3 uE.nd (qA (fr:=false) (ws:=[false]) (tab:=[(10,zr)]) (ev 0) (al ⟨_,_,_,_,T.z1,T.yO,qc T,(rm b),T.qa⟩) zE (za (zj (pv 1)) ze)))
   (zf (se 4 uE.nd (qA (fr:=false) (ws:=[false]) (tab:=[(10,zr)]) (ev 0) (al ⟨_,_,_,_,T.z1,T.yO,qc T,(rm b),T.qa⟩) zE (za (zj (pv 2)) ze)))
   (zf (se 5 uE.nd (qA (fr:=false) (ws:=[false,false]) (tab:=[(11,zx)]) (qW (ev 0) (fa ⟨T.z1,T.yB⟩ fz)) (al ⟨_,_,_,_,T.yP,T.y6,qz T,(rm b),T.qv⟩) zE (za (ix b (ev 3) (zV (zy (v:=.int 2) rfl T.b8 ⟨_,rfl⟩))) (za (ix b (ev 4) (zV (zy (v:=.int 1) rfl T.Zj ⟨_,rfl⟩))) ze))))
   (zf (yp (yA tS uc (ev 5) (WG Wz) (yt _))
    (zh (yH (WG Wz)))
    zN)
   (zh (yH (zt jK jM (zt jK jM (ix b (ev 4) (zV (zy (v:=.int 3) rfl T.Z4 ⟨_,rfl⟩))) (ix b (ev 3) (zV (zy (v:=.int 4) rfl T.vD ⟨_,rfl⟩)))) (ev 5))))))))
def cW(T:Txt K mg a):yF P w K mg base (CXe P w) 5 a.qj a.dw ["roads","origin","goal"] (lsp (WW K a) false [true,false,false] qj):=
 zu (ms:=cN) (S':=[1,0,0]) (Sb:=[]) (Sc:=[]) T.wy.F nJ rfl rfl rfl (by decide) λe A b s H E d=>
  (zh (yp (yA tS uc (qA (fr:=false) (ws:=[false,false]) (tab:=[(11,zx)]) (ev 0) (al ⟨_,_,_,_,T.yP,T.y6,qz T,(rm d),T.qv⟩) zE (za (zj (pv 1)) (za (zj (pv 2)) ze))) (WG Wz) (yt _))
    (zh (qN (c:=6) rfl T.C6 T.la (UX T) (rm d) rfl T.iY T.UC (za (zj (pv 1)) (za (zj (pv 2)) ze))))
    zN))
def Av(T:Txt K mg a):yF P w K mg base (CXe P w) 5 a.kA a.gJ ["table","home","names"] (lsp (WW K a) true [true,false,true] kA):=
 zu (ms:=gc) (S':=[1,0,1,0,0,0,0,0,0]) (Sb:=[]) (Sc:=[]) T.vX.F qh rfl rfl rfl (by decide) λd A c s H E b=>
  (zf (se 3 qh.nd (zt jK jM (ix b (qA (fr:=false) (ws:=[false]) (tab:=[(10,zr)]) (ev 0) (al ⟨_,_,_,_,T.z1,T.yO,qc T,(rm b),T.qa⟩) zE (za (ix b (ev 2) ei) ze)) (zV (zy (v:=.int 3) rfl T.Z4 ⟨_,rfl⟩))) (qA (fr:=false) (ws:=[false,false]) (tab:=[(11,zx)]) (qW (ev 0) (fa ⟨T.z1,T.yB⟩ fz)) (al ⟨_,_,_,_,T.yP,T.y6,qz T,(rm b),T.qv⟩) zE (za (zj (pv 1)) (za (ix b (qA (fr:=false) (ws:=[false]) (tab:=[(10,zr)]) (ev 0) (al ⟨_,_,_,_,T.z1,T.yO,qc T,(rm b),T.qa⟩) zE (za (ix b (ev 2) ei) ze)) (zV (zy (v:=.int 1) rfl T.Zj ⟨_,rfl⟩))) ze)))))
   (zf (se 4 qh.nd (zj (pv 1)))
   (zf (jR (i:=5) qh.nd rfl (.inl rfl) (q_ ze))
   (zf (y_ (zz ⟨rfl,rfl⟩) rfl (j9 (Zh (pv 2))) (gn 6 qh.nd)
    (zf (se 7 qh.nd (qA (fr:=false) (ws:=[false]) (tab:=[(10,zr)]) (ev 0) (al ⟨_,_,_,_,T.z1,T.yO,qc T,(rm b),T.qa⟩) zE (za (zj (pv 6)) ze)))
   (zf (se 8 qh.nd (zt zL zM (ev 3) (qA (fr:=false) (ws:=[false,false]) (tab:=[(11,zx)]) (qW (ev 0) (fa ⟨T.z1,T.yB⟩ fz)) (al ⟨_,_,_,_,T.yP,T.y6,qz T,(rm b),T.qv⟩) zE (za (zj (pv 4)) (za (ix b (ev 7) (zV (zy (v:=.int 1) rfl T.Zj ⟨_,rfl⟩))) ze)))))
   (zf (yk (pv 5) (jP (za (yX (zy (v:=.str "way") rfl T.FR ⟨_,rfl⟩)) (za (zj (pv 3)) (za (zj (pv 8)) ze)))))
   (zf (yk (pv 5) (jP (za (yX (zy (v:=.str "wait") rfl T.nN ⟨_,rfl⟩)) (za (zj (pv 8)) (za (ix b (ev 7) (zV (zy (v:=.int 3) rfl T.Z4 ⟨_,rfl⟩))) ze)))))
   (zf (yk (pv 5) (jP (za (yX (zy (v:=.str "trip") rfl T.uG ⟨_,rfl⟩)) (za (ix b (ev 7) (zV (zy (v:=.int 3) rfl T.Z4 ⟨_,rfl⟩))) (za (ix b (ev 7) (zV (zy (v:=.int 4) rfl T.vD ⟨_,rfl⟩))) ze)))))
   (zf (se 3 qh.nd (ix b (ev 7) (zV (zy (v:=.int 4) rfl T.vD ⟨_,rfl⟩))))
   (zh (se 4 qh.nd (ix b (ev 7) (zV (zy (v:=.int 2) rfl T.b8 ⟨_,rfl⟩))))))))))))
   (zf (yk (pv 5) (jP (za (yX (zy (v:=.str "way") rfl T.FR ⟨_,rfl⟩)) (za (zj (pv 3)) (za (zt zL zM (ev 3) (qA (fr:=false) (ws:=[false,false]) (tab:=[(11,zx)]) (qW (ev 0) (fa ⟨T.z1,T.yB⟩ fz)) (al ⟨_,_,_,_,T.yP,T.y6,qz T,(rm b),T.qv⟩) zE (za (zj (pv 4)) (za (zj (pv 1)) ze)))) ze)))))
   (zh (ZT (pv 5))))))))
def eY(T:Txt K mg a):yF P w K mg base (CXe P w) 5 a.qy a.Vs ["places"] (lsp (WW K a) false [true] qy):=
 zu (ms:=Vk) (S':=[1,2,0]) (Sb:=[]) (Sc:=[]) T.kK.F wu rfl rfl rfl (by decide) λd A b s H E c=>
  (zf (jR (i:=1) wu.nd rfl (.inl rfl) rH)
   (zh (y_ (zz ⟨rfl,rfl⟩) rfl (j9 (Zh (pv 0))) (gn 2 wu.nd)
    (zf (yo (ec (ZI T) c T.yM zE (za (zj (pv 2)) (za (ev 1) ze))))
   (zh (Ca (qY c) (pv 1) (ev 2) (QQ QP)))))))
def lI(T:Txt K mg a):yF P w K mg base (CXe P w) 6 a.JE a.JH ["self","roads","trips"] (hsp (WW K a) 3 qR):=
 Pf (ms:=vN) T.nS W3 rfl rfl rfl λd A c s H E b=>
  (WZ (CC (hp (ec (ZH T) b T.qE zE (za (ev 2) (za (zV (zy (v:=.int 40) rfl T.Jn ⟨_,rfl⟩)) ze)))))
   (WZ (CS (fV (pv 0)) (fV (pv 1)) (fa ⟨T.z1,T.yB⟩ fz))
   (WZ (CS (fV (pv 0)) (hf rH) (fa ⟨T.z1,T.qt⟩ fz))
   (WZ (L_ (S:=[0,0,0,0]) (fr:=false) [false,false,true] (zz ⟨rfl,rfl⟩) rfl (j9 (EM.en (zj (pv 2)))) (L8 (i:=3) W3.nd rfl (.inl rfl))
    (WZ (CC (hp (ec (oC T) b T.Zk zE (za (ev 1) (za (ev 3) (za (EM.weak (qW (ev 0) (fa ⟨T.z1,T.qt⟩ fz))) ze))))))
   (CB (Pe (qY b) (Pb (fV (pv 0)) (fa ⟨T.z1,T.qt⟩ fz)) (hp (ix b (ev 3) (zV (zy (v:=.int 0) rfl T.UB ⟨_,rfl⟩)))) (fV (pv 3))))))
   (CB (CS (fV (pv 0)) (hp (FM.em (KA ["trip"] [none] [0] rfl (by kernel_rfl) (yS (FM.em (FN (wk:=true) (aL T) (rm b) T.qr.b rfl T.i5 rfl T.qr.g (za (ev 2) ze)))) (λ_=>(yw (i:=0) (show List.Nodup (["trip"]:List Str)from by decide +kernel) rfl (.inl rfl))) (λ_=>k8) (λ_=>(ix b (ev 0) (zV (zy (v:=.int 0) rfl T.UB ⟨_,rfl⟩))))))) (fa ⟨T.z1,T.KP⟩ fz)))))))
def uQ(T:Txt K mg a):yF P w K mg base (CXe P w) 6 a.Zx a.xy ["table","one","other"] (lsp (WW K a) false [true,false,false] Zx):=
 zu (ms:=uK) (S':=[1,0,0,0]) (Sb:=[]) (Sc:=[]) T.W5.F nF rfl rfl rfl (by decide) λd A b s H E c=>
  (zf (se 3 nF.nd (ec (Tz T) c T.FU zE (za (ev 0) (za (zj (pv 1)) (za (zj (pv 2)) ze)))))
   (zh (yH (Hd (Uw Be BO (ev 3) (WG Wz) (yt _)) (m8 (Uw IJ Ln (ev 3) ei (yt _)))))))
def oE(T:Txt K mg a):yF P w K mg base (CXe P w) 6 a.qH a.JP ["self","places","ways"] (Fg (WW K a) 11 [true,true] qH):=
 Yr (ms:=Zy) (S':=[2,1,1]) (Sb:=[]) (Sc:=[]) (n:=2) T.n5 iV rfl rfl rfl (by decide) rfl λd A c s H E b=>
  (zf (yo (ec (ZH T) b T.qE zE (za (ev 1) (za (zV (zy (v:=.int 12) rfl T.YY ⟨_,rfl⟩)) ze))))
   (zf (yo (ec (ZH T) b T.qE zE (za (ev 2) (za (zV (zy (v:=.int 60) rfl T.Wg ⟨_,rfl⟩)) ze))))
   (zf (yo (ec (eY T) b T.kK zE (za (ev 1) ze)))
   (zf (yo (ec (oB T) b T.Zn zE (za (ev 1) (za (ev 2) ze))))
   (zf (KI (i:=0) (pv 0) (FM.em (vA rfl rfl T.Qq (za (ev 1) ze))) (fa ⟨T.yP,T.jT⟩ fz))
   (zf (KI (i:=0) (pv 0) (FM.em (vA rfl rfl T.Qq (za (ev 2) ze))) (fa ⟨T.yP,T.lg⟩ fz))
   (zh (KI (i:=0) (pv 0) (FM.em (uv rfl rfl T.uI (za (FM.em (KA ["place","ways"] [none,some 2] [0,1] rfl (by kernel_rfl) (yS (ev 1)) (λ_=>(yw (i:=0) (show List.Nodup (["place","ways"]:List Str)from by decide +kernel) rfl (.inl rfl))) (λ_=>k8) (λ_=>(jP (za (zj (pv 0)) (za (FM.em (qf (eV T) (rm b) rfl T.qw.g T.qw.k T.qw.b WE (za (ev 0) (za (ev 1) ze)))) ze)))))) ze))) (fa ⟨T.yP,T.Qr⟩ fz)))))))))
def eZ(T:Txt K mg a):yF P w K mg base (CXe P w) 7 a.yT a.Vr ["table","names"] (lsp (WW K a) false [true,true] yT):=
 zu (ms:=Vl) (S':=[1,1,0,0]) (Sb:=[]) (Sc:=[]) T.kJ.F wo rfl rfl rfl (by decide) λe A d s H E b=>
  (zf (yo (ec (lH T) b T.vE zE (za (ev 0) (za (ev 1) ze))))
   (zh (y_ (zz ⟨rfl,rfl⟩) rfl (Mi rfl T.Mo (Zh (pv 1)) (EM.en (WM (ev 1) (V3 ei) V2))) (bG (n:=2) rfl (yY (gn 2 wo.nd) (yY (gn 3 wo.nd) bF jC) jC))
    (zh (yp (Uy (KG (ec (uQ T) b T.W5 zE (za (ev 0) (za (zj (pv 2)) (za (zj (pv 3)) ze))))))
    (zh (qN (c:=12) rfl T.Am T.Uh (cS T) (rm b) rfl T.Ue T.cn (za (zj (pv 2)) (za (zj (pv 3)) ze))))
    zN)))))
def cX(T:Txt K mg a):yF P w K mg base (CXe P w) 7 a.y9 a.JJ ["table","one","names"] (lsp (WW K a) true [true,false,true] y9):=
 zu (ms:=Jy) (S':=[1,0,1]) (Sb:=[]) (Sc:=[]) T.y3.F aC rfl rfl rfl (by decide) λd A b s H E c=>
  (zh (kf (KA ["other","table","one"] [none,some 0,some 1] [0,1,0] rfl (by kernel_rfl) (yS (ev 2)) (λ_=>(yw (i:=0) (show List.Nodup (["other","table","one"]:List Str)from by decide +kernel) rfl (.inl rfl))) (λ_=>(nh (KG (ec (uQ T) c T.W5 WE (za (ev 1) (za (zj (pv 2)) (za (zj (pv 0)) ze))))))) (λ_=>(zj (pv 0))))))
def cY(T:Txt K mg a):yF P w K mg base (CXe P w) 8 a.qI a.dv ["table","home","names"] (lsp (WW K a) false [true,false,true] qI):=
 zu (ms:=cO) (S':=[1,0,1]) (Sb:=[]) (Sc:=[]) T.wx.F nG rfl rfl rfl (by decide) λe A c s H E b=>
  (zf (yo (ec (jY T) b T.yN zE (za (zj (pv 1)) (za (EM.weak (FM.em (aX (tab:=[(10,zB),(11,zD)]) (qW (ev 0) (fa ⟨T.z1,T.yB⟩ fz)) (λK sp ⟨q,d,f,g⟩=>by
    simp only[List.mem_cons,List.not_mem_nil,or_false]at d;rcases d with rfl|rfl<;>subst f g
    .exact⟨_,_,_,_,T.z1,T.kL,vO T,(rm b),T.vF⟩
    .exact⟨_,_,_,_,T.yP,T.kM,vP T,(rm b),T.vG⟩) zE))) ze))))
   (zh (yo (ec (eZ T) b T.kJ zE (za (ev 0) (za (ev 2) ze))))))
def Dg(T:Txt K mg a):yF P w K mg base (CXe P w) 8 a.Wi a.D2 ["table"] (lsp (WW K a) true [true] Wi):=
 zu (ms:=C9) (S':=[1,0]) (Sb:=[]) (Sc:=[]) T.Y0.F uF rfl rfl rfl (by decide) λe A c s H E b=>
  (zf (bE (i:=1) uF.nd rfl (by first|exact .inl rfl|exact .inr rfl) (FM.em (aX (tab:=[(10,zB),(11,zD)]) (ev 0) (λK sp ⟨q,d,f,g⟩=>by
    simp only[List.mem_cons,List.not_mem_nil,or_false]at d;rcases d with rfl|rfl<;>subst f g
    .exact⟨_,_,_,_,T.z1,T.kL,vO T,(rm b),T.vF⟩
    .exact⟨_,_,_,_,T.yP,T.kM,vP T,(rm b),T.vG⟩) zE)))
   (zh (kf (uv rfl rfl T.uI (za (FM.em (KA ["one","table","names"] [none,some 0,some 1] [0,1,0] rfl (by kernel_rfl) (yS (ev 1)) (λ_=>(yw (i:=0) (show List.Nodup (["one","table","names"]:List Str)from by decide +kernel) rfl (.inl rfl))) (λ_=>k8) (λ_=>(jP (za (zj (pv 0)) (za (FM.em (qf (cX T) (rm b) rfl T.y3.g T.y3.k T.y3.b WE (za (ev 1) (za (zj (pv 0)) (za (ev 2) ze))))) ze)))))) ze)))))
def lJ(T:Txt K mg a):yF P w K mg base (CXe P w) 9 a.qk a.Xw ["table","home","names"] (lsp (WW K a) false [true,false,true] qk):=
 zu (ms:=Xn) (S':=[1,0,1]) (Sb:=[]) (Sc:=[]) T.vH.F d6 rfl rfl rfl (by decide) λd A c s H E b=>
  (zf (yo (ec (cY T) b T.wx zE (za (ev 0) (za (zj (pv 1)) (za (ev 2) ze)))))
   (zh (yp (yA g7 ij (qo rfl T.kh (za (ev 2) ze)) ei (yt _))
    (zf (yo (ec (cW T) b T.wy zE (za (EM.weak (qW (ev 0) (fa ⟨T.z1,T.yB⟩ fz))) (za (zj (pv 1)) (za (ix b (qA (fr:=false) (ws:=[false]) (tab:=[(10,zr)]) (ev 0) (al ⟨_,_,_,_,T.z1,T.yO,qc T,(rm b),T.qa⟩) zE (za (ix b (ev 2) ei) ze)) (zV (zy (v:=.int 1) rfl T.Zj ⟨_,rfl⟩))) ze)))))
   (zh (yo (ec (cW T) b T.wy zE (za (EM.weak (qW (ev 0) (fa ⟨T.z1,T.yB⟩ fz))) (za (ix b (qA (fr:=false) (ws:=[false]) (tab:=[(10,zr)]) (ev 0) (al ⟨_,_,_,_,T.z1,T.yO,qc T,(rm b),T.qa⟩) zE (za (ix b (ev 2) (ic WA WI ei)) ze)) (zV (zy (v:=.int 2) rfl T.b8 ⟨_,rfl⟩))) (za (zj (pv 1)) ze)))))))
    zN)))
def sG(T:Txt K mg a):yF P w K mg base (CXe P w) 10 a.Yb a.D3 ["table","home","names"] (lsp (WW K a) true [true,false,true] Yb):=
 zu (ms:=C_) (S':=[1,0,1]) (Sb:=[]) (Sc:=[]) T.vk.F FQ rfl rfl rfl (by decide) λd A c s H E b=>
  (zf (yo (ec (lJ T) b T.vH zE (za (ev 0) (za (zj (pv 1)) (za (ev 2) ze)))))
   (zf (yp (QR b.units (qo rfl T.kh (za (ev 2) ze)) ei)
    (zh (kf (q_ ze)))
    zN)
   (zh (kf (KA ["part"] [none] [0] rfl (by kernel_rfl) (yS (FM.em (qf (Av T) (rm b) rfl T.vX.g T.vX.k T.vX.b zE (za (ev 0) (za (zj (pv 1)) (za (ev 2) ze)))))) (λ_=>(yw (i:=0) (show List.Nodup (["part"]:List Str)from by decide +kernel) rfl (.inl rfl))) (λ_=>(nh (yA g5 ie (ix b (ev 0) (zV (zy (v:=.int 1) rfl T.b9 ⟨_,rfl⟩))) (ix b (ev 0) (zV (zy (v:=.int 2) rfl T.CW ⟨_,rfl⟩))) (yt _)))) (λ_=>(zj (pv 0))))))))
def lK(T:Txt K mg a):yF P w K mg base (CXe P w) 11 a.qS a.Xx ["table","home","rule","name"] (lsp (WW K a) false [true,false,true,false] qS):=
 zu (ms:=Xo) (S':=[1,0,1,0]) (Sb:=[]) (Sc:=[]) T.vI.F d7 rfl rfl rfl (by decide) λf A d s H E b=>
  (zh (yp (Uy (KG (qA (fr:=false) (ws:=[true]) (tab:=[(13,zX),(14,zW),(15,zY),(16,zP),(17,zO),(18,z_)]) (ev 2) (λK sp ⟨q,e,g,h⟩=>by
    simp only[List.mem_cons,List.not_mem_nil,or_false]at e;rcases e with rfl|rfl|rfl|rfl|rfl|rfl<;>subst g h
    .exact⟨_,_,_,_,T.lh,T.Zq,Y9 T,(rm b),T.Y2⟩
    .exact⟨_,_,_,_,T.Jq,T.Zs,Y8 T,(rm b),T.Y1⟩
    .exact⟨_,_,_,_,T.Jr,T.Zu,Y_ T,(rm b),T.Y3⟩
    .exact⟨_,_,_,_,T.kN,T.vL,ZG T,(rm b),T.Zm⟩
    .exact⟨_,_,_,_,T.Zv,T.vM,ZF T,(rm b),T.Zl⟩
    .exact⟨_,_,_,_,T.W9,T.Y4,JA T,(rm b),T.Jp⟩) zE (za (EM.weak (FM.em (qf (sG T) (rm b) rfl T.vk.g T.vk.k T.vk.b zE (za (ev 0) (za (zj (pv 1)) (za (EM.weak (FM.em (q_ (za (zj (pv 3)) ze)))) ze)))))) ze))))
    (zh (qN (c:=19) rfl T.An T.fZ (cT T) (rm b) rfl T.Ug T.cu (za (zj (pv 3)) ze)))
    zN))
def cZ(T:Txt K mg a):yF P w K mg base (CXe P w) 11 a.yI a.JN ["table","home","rule","names","behind"] (lsp (WW K a) true [true,false,true,true,true] yI):=
 zu (ms:=Jz) (S':=[1,0,1,1,1,0]) (Sb:=[]) (Sc:=[]) T.y4.F Qp rfl rfl rfl (by decide) λe A c s H E b=>
  (zf (yp (QR b.units (qo rfl T.kh (za (ev 3) ze)) (zV (zy (v:=.int 5) rfl T.CY ⟨_,rfl⟩)))
    (zh (kf (q_ ze)))
    zN)
   (zf (Cj (i:=5) ["name","names"] [none,some 3] [0,1] Qp.nd rfl rfl rfl (by kernel_rfl) (yS (ev 4)) (λ_=>(yw (i:=0) (show List.Nodup (["name","names"]:List Str)from by decide +kernel) rfl (.inl rfl))) (λ_=>k8) (λ_=>(zt zL zM (ev 1) (FM.em (q_ (za (zj (pv 0)) ze))))))
   (zh (kf (KA ["row","rule","table","home"] [none,some 2,some 0,some 1] [0,1,1,0] rfl (by kernel_rfl) (yS (ev 5)) (λ_=>(yw (i:=0) (show List.Nodup (["row","rule","table","home"]:List Str)from by decide +kernel) rfl (.inl rfl))) (λ_=>(nh (KG (qA (fr:=false) (ws:=[true]) (tab:=[(13,zX),(14,zW),(15,zY),(16,zP),(17,zO),(18,z_)]) (ev 1) (λK sp ⟨q,d,f,g⟩=>by
    simp only[List.mem_cons,List.not_mem_nil,or_false]at d;rcases d with rfl|rfl|rfl|rfl|rfl|rfl<;>subst f g
    .exact⟨_,_,_,_,T.lh,T.Zq,Y9 T,(rm b),T.Y2⟩
    .exact⟨_,_,_,_,T.Jq,T.Zs,Y8 T,(rm b),T.Y1⟩
    .exact⟨_,_,_,_,T.Jr,T.Zu,Y_ T,(rm b),T.Y3⟩
    .exact⟨_,_,_,_,T.kN,T.vL,ZG T,(rm b),T.Zm⟩
    .exact⟨_,_,_,_,T.Zv,T.vM,ZF T,(rm b),T.Zl⟩
    .exact⟨_,_,_,_,T.W9,T.Y4,JA T,(rm b),T.Jp⟩) WE (za (EM.weak (FM.em (qf (sG T) (rm b) rfl T.vk.g T.vk.k T.vk.b WE (za (ev 2) (za (zj (pv 3)) (za (ev 0) ze)))))) ze))))) (λ_=>(zj (pv 0))))))))
def oF(T:Txt K mg a):yF P w K mg base (CXe P w) 11 a.qJ a.U5 ["_law_row","_law_known","_law_behind","_law_rule_here","_law_table","_law_home"] (lsp (WW K a) false [true,true,true,true,true,false] qJ):=
 zu (ms:=UW) (S':=[1,1,1,1,1,0,0,0]) (Sb:=[]) (Sc:=[]) T.Zp.F YX rfl rfl rfl (by decide) λe A c s H E b=>
  (zf (y_ (zz ⟨rfl,rfl⟩) rfl (j9 (EM.en (ix b (ev 2) (ix b (ev 0) (ic WA WI ei))))) (gn 6 YX.nd)
    (zf (se 7 YX.nd (zt zL zM (ev 0) (FM.em (q_ (za (zj (pv 6)) ze)))))
   (zh (yp (x6 b.units (qA (fr:=false) (ws:=[true]) (tab:=[(13,zX),(14,zW),(15,zY),(16,zP),(17,zO),(18,z_)]) (ev 3) (λK sp ⟨q,d,f,g⟩=>by
    simp only[List.mem_cons,List.not_mem_nil,or_false]at d;rcases d with rfl|rfl|rfl|rfl|rfl|rfl<;>subst f g
    .exact⟨_,_,_,_,T.lh,T.Zq,Y9 T,(rm b),T.Y2⟩
    .exact⟨_,_,_,_,T.Jq,T.Zs,Y8 T,(rm b),T.Y1⟩
    .exact⟨_,_,_,_,T.Jr,T.Zu,Y_ T,(rm b),T.Y3⟩
    .exact⟨_,_,_,_,T.kN,T.vL,ZG T,(rm b),T.Zm⟩
    .exact⟨_,_,_,_,T.Zv,T.vM,ZF T,(rm b),T.Zl⟩
    .exact⟨_,_,_,_,T.W9,T.Y4,JA T,(rm b),T.Jp⟩) zE (za (EM.weak (FM.em (qf (sG T) (rm b) rfl T.vk.g T.vk.k T.vk.b zE (za (ev 4) (za (zj (pv 5)) (za (ev 7) ze)))))) ze)) (Lv (qY b) (ec (cU T) b T.Yv zE (za (ev 7) ze)) (ev 1)))
    (zh (yH (QQ QP)))
    zN))))
   (zh (yH (QQ QP))))
def F3(T:Txt K mg a):yF P w K mg base (CXe P w) 12 a.Kv a.xA ["table","home","rule"] (lsp (WW K a) true [true,false,true] Kv):=
 zu (ms:=uL) (S':=[1,0,1,0,0,0,0,0]) (Sb:=[]) (Sc:=[]) T.Ku.F wq rfl rfl rfl (by decide) λg A d s H E b=>
  (zf (yo (ec (cY T) b T.wx zE (za (ev 0) (za (zj (pv 1)) (za (EM.weak (FM.em (q_ ze))) ze)))))
   (zf (y_ (zz ⟨rfl,rfl⟩) rfl (j9 (EM.en (FM.em (aX (tab:=[(10,zB),(11,zD)]) (ev 0) (λK sp ⟨q,c,e,f⟩=>by
    simp only[List.mem_cons,List.not_mem_nil,or_false]at c;rcases c with rfl|rfl<;>subst e f
    .exact⟨_,_,_,_,T.z1,T.kL,vO T,(rm b),T.vF⟩
    .exact⟨_,_,_,_,T.yP,T.kM,vP T,(rm b),T.vG⟩) zE)))) (gn 3 wq.nd)
    (zh (yo (ec (lK T) b T.vI zE (za (ev 0) (za (zj (pv 1)) (za (ev 2) (za (zj (pv 3)) ze))))))))
   (zf (se 4 wq.nd (FM.em (qf (Dg T) (rm b) rfl T.Y0.g T.Y0.k T.Y0.b zE (za (ev 0) ze))))
   (zf (OW (i:=5) ["name"] [none] [0] wq.nd rfl rfl rfl (by kernel_rfl) (yS (FM.em (aX (tab:=[(10,zB),(11,zD)]) (ev 0) (λK sp ⟨q,c,e,f⟩=>by
    simp only[List.mem_cons,List.not_mem_nil,or_false]at c;rcases c with rfl|rfl<;>subst e f
    .exact⟨_,_,_,_,T.z1,T.kL,vO T,(rm b),T.vF⟩
    .exact⟨_,_,_,_,T.yP,T.kM,vP T,(rm b),T.vG⟩) zE))) (λ_=>(yw (i:=0) (show List.Nodup (["name"]:List Str)from by decide +kernel) rfl (.inl rfl))) (λ_=>k8) (λ_=>(FM.em (q_ (za (zj (pv 0)) ze)))))
   (zf (se 6 wq.nd ei)
   (zf (um (zz ⟨rfl,rfl⟩) (yA g5 ie (ev 6) (qo rfl T.kh (za (ev 5) ze)) (yt _))
    (zf (se 7 wq.nd (ix b (ev 5) (ev 6)))
   (zf (B_ (pv 5) (FM.em (qf (cZ T) (rm b) rfl T.y4.g T.y4.k T.y4.b zE (za (ev 0) (za (zj (pv 1)) (za (ev 2) (za (ev 7) (za (EM.weak (ix b (ev 4) (ix b (ev 7) (ic WA WI ei)))) ze))))))))
   (zf (yo (ec (ZH T) b T.qE zE (za (ev 5) (za (zV (zy (v:=.int 400) rfl T.YZ ⟨_,rfl⟩)) ze))))
   (zh (Cc (i:=6) wq.nd rfl (.inl rfl) ei GU))))))
   (zh (ZT (pv 5)))))))))
def TB(T:Txt K mg a):yF P w K mg base (CXe P w) 13 a.Df a.RG ["_law_script"] (lsp (WW K a) false [true] Df):=
 zu (ms:=PU) (S':=[1,0,0,0,0,0,0,0,0,0,0,0,0,0]) (Sb:=[]) (Sc:=[]) T.C2.F vw rfl rfl rfl (by decide) λcdv A outer s H E hr=>
  (zf (se 1 vw.nd (FM.em (qf (cV T) (rm hr) rfl T.qi.g T.qi.k T.qi.b zE (za (ev 0) (za (EM.weak ei) (za (EM.weak (zt zL zM ei (zt zF zG (ec (jX T) hr T.qq zE (za (ev 0) (za (EM.weak ei) (za (EM.weak ei) ze)))) ei))) ze))))))
   (zf (se 2 vw.nd (FM.em (qf (As T) (rm hr) rfl T.vW.g T.vW.k T.vW.b zE (za (ev 0) (za (EM.weak ei) (za (ev 1) ze))))))
   (zf (bE (i:=3) vw.nd rfl (by first|exact .inl rfl|exact .inr rfl) (FM.em (qf (lF T) (rm hr) rfl T.qO.g T.qO.k T.qO.b zE (za (ev 1) (za (ev 2) ze)))))
   (zf (se 4 vw.nd (bC rfl rfl T.i4 (za (zt zF zG (ec (jX T) hr T.qq zE (za (ev 0) (za (EM.weak ei) (za (EM.weak ei) ze)))) ei) (za (m_ rfl rfl T.nO (za ei (za (zt jN jO (zt jK jM (m_ rfl rfl T.nO (za (qo rfl T.kh (za (ev 0) ze)) (za ei ze))) ei) ei) ze))) ze))))
   (zf (se 5 vw.nd (FM.em (qf (sE T) (rm hr) rfl T.ki.g T.ki.k T.ki.b zE (za (ev 0) (za (EM.weak ei) (za (EM.weak (FM.em (qf (cV T) (rm hr) rfl T.qi.g T.qi.k T.qi.b zE (za (ev 0) (za (EM.weak ei) (za (ev 4) ze)))))) (za (ev 1) (za (ev 3) ze))))))))
   (zf (bE (i:=6) vw.nd rfl (by first|exact .inl rfl|exact .inr rfl) (ix hr (ev 1) (zt zF zG (ec (jX T) hr T.qq zE (za (ev 0) (za (EM.weak ei) (za (EM.weak ei) ze)))) (qo rfl T.kh (za (ev 1) ze)))))
   (zf (se 7 vw.nd (FM.em (ui T.C8 rfl T.uH)))
   (zf (yp (x6 hr.units (ev 5) (FM.em (q_ ze)))
    (zf (se 8 vw.nd (FM.em (qf (sF T) (rm hr) rfl T.kj.g T.kj.k T.kj.b zE (za (ev 0) (za (EM.weak ei) (za (EM.weak (FM.em (KA ["_law_trip_here","_law_home","_law_lengths_here"] [none,some 6,some 3] [0,0,0] rfl (by kernel_rfl) (yS (ev 5)) (λ_=>(yw (i:=0) (show List.Nodup (["_law_trip_here","_law_home","_law_lengths_here"]:List Str)from by decide +kernel) rfl (.inl rfl))) (λ_=>k8) (λ_=>(FM.em (qf (sA T) (rm hr) rfl T.kl.g T.kl.k T.kl.b WE (za (EM.weak (FM.em (q_ (za (zj (pv 0)) ze)))) (za (zj (pv 1)) (za (ev 2) ze))))))))) ze))))))
   (zh (se 7 vw.nd (FM.em (X2 (c:=18) T.F2 (ow T) (rm hr) rfl T.r9 T.n4 zE (za (EM.weak (FM.em (KA ["_law_spec"] [none] [0] rfl (by kernel_rfl) (yS (ev 8)) (λ_=>(yw (i:=0) (show List.Nodup (["_law_spec"]:List Str)from by decide +kernel) rfl (.inl rfl))) (λ_=>k8) (λ_=>(FM.em (qf (Au T) (rm hr) rfl T.vZ.g T.vZ.k T.vZ.b WE (za (ev 0) ze))))))) ze))))))
    zN)
   (zf (se 9 vw.nd (FP (c:=10) T.FW (lI T) (rm hr) rfl T.rX T.nU zE (za (FM.em (X2 (c:=11) T.FX (oE T) (rm hr) rfl T.rY T.n6 zE (za (EM.weak (FM.em (vA rfl rfl T.Qq (za (ev 1) ze)))) (za (EM.weak (FM.em (vA rfl rfl T.Qq (za (ev 2) ze)))) ze)))) (za (FM.em (vA rfl rfl T.Qq (za (ev 5) ze))) ze)) rfl rfl))
   (zf (se 10 vw.nd (FM.em (qf (F3 T) (rm hr) rfl T.Ku.g T.Ku.k T.Ku.b zE (za (ev 9) (za (zj (pv 6)) (za (ev 7) ze))))))
   (zf (bE (i:=11) vw.nd rfl (by first|exact .inl rfl|exact .inr rfl) (FM.em (qf (Dg T) (rm hr) rfl T.Y0.g T.Y0.k T.Y0.b zE (za (ev 9) ze))))
   (zf (jR (i:=12) vw.nd rfl (by first|exact .inl rfl|exact .inr rfl) rH)
   (zf (y_ (zz ⟨rfl,rfl⟩) rfl (j9 (EM.en (zj (pv 10)))) (gn 13 vw.nd)
    (zf (yp (TWM.tm (x5 (Uy (KG (OQ rfl T.Jo (ev 13) (ID rfl T.Qq PyProof.Rows.Boot.«list» (v:=.ty "list") rfl) rfl ⟨⟨trivial,T.Js⟩,trivial⟩))) (x5 (Uy (Fc g6 g6 ig ig ei (qo rfl T.kh (za (ev 13) ze)) ei)) (m7 (Uy (KG (B0 rfl rfl T.C1 (za (FM.em (KA ["_law_name","_law_behind"] [none,some 11] [0,0] rfl (by kernel_rfl) (yS (ev 13)) (λ_=>(yw (i:=0) (show List.Nodup (["_law_name","_law_behind"]:List Str)from by decide +kernel) rfl (.inl rfl))) (λ_=>k8) (λ_=>(Lv (qY hr) (ev 0) (ev 1))))) ze))))))))
    (zh (yH (QQ QP)))
    zN)
   (zh (Ca (qY hr) (pv 12) (ec (cU T) hr T.Yv zE (za (ev 13) ze)) (QQ QP)))))
   (zf (yp (TWM.tm (x5 (x6 hr.units (qo rfl T.kh (za (ev 12) ze)) (qo rfl T.kh (za (ev 10) ze))) (m7 (Uy (KG (B0 rfl rfl T.C1 (za (FM.em (KA ["_law_trip_here","_law_known"] [none,some 12] [0,1] rfl (by kernel_rfl) (yS (ev 5)) (λ_=>(yw (i:=0) (show List.Nodup (["_law_trip_here","_law_known"]:List Str)from by decide +kernel) rfl (.inl rfl))) (λ_=>k8) (λ_=>(Lv (qY hr) (ix hr (ev 0) ei) (ev 1))))) ze)))))))
    (zh (yH (QQ QP)))
    zN)
   (zf (y_ (zz ⟨rfl,rfl⟩) rfl (j9 (EM.en (zj (pv 10)))) (gn 13 vw.nd)
    (zf (yp (Uy (KG (ec (oA T) hr T.Zo zE (za (ev 13) (za (ev 12) (za (ev 11) ze))))))
    (zh (yH (QQ QP)))
    zN)
   (zh (yp (TWM.tm (WK (yA g5 ie (qo rfl T.kh (za (ev 13) ze)) ei (yt _)) (Q1 (Uy (KG (ec (oF T) hr T.Zp zE (za (ev 13) (za (ev 12) (za (ev 11) (za (ev 7) (za (ev 9) (za (zj (pv 6)) ze))))))))))))
    (zh (yH (QQ QP)))
    zN))))
   (zh (yH (QQ QP))))))))))))))))))
def zq(d:a ρ=.ok x)(c:b ρ=.ok y)(h:f x y=.ok z):mOp f a b ρ=.ok z:=by unfold mOp;rw[d,okb,c,okb,h]
def zw(h:ms ρ=.ok xs)(a:f xs=.ok x):zi f ms ρ=.ok x:=by unfold zi;rw[h,okb,a]
def zp(b:a ρ=.ok x)(h:ms ρ=.ok xs):zb a ms ρ=.ok (x::xs):=by unfold zb;rw[b,okb,h,okb]
def lL(h:ms ρ=.ok xs)(a:xs.length<=sizeLine):V1 ms ρ=.ok (.l xs):=by unfold V1;rw[h,okb,if_pos a]
def vm(c:a ρ=.ok (.i x))(b:0<n):mOp zQ a (mC (.i n)) ρ=.ok (.i (x % n)):=zq c rfl (wc b)
def c4(d:a ρ=.ok (.i x))(b:0<n)(c:n<1073741824):mOp qM a (mC (.i n)) ρ=.ok (.i (x / n)):=zq d rfl (Ho b c)
def Ms(h:ρ[i]?=some (some (.i x)))(a:0<d)(b:d<1073741824)(c:0<n):mOp zQ (mOp qM (zd i) (mC (.i d))) (mC (.i n)) ρ=.ok (.i (x / d % n)):=
 vm (c4 (by unfold zd;rw[h]) a b) c
def gq(b:a ρ=.ok (.i x)):z9 (mOp (ke false) a (mC (.i n))) ρ=.ok (decide (x=n)):=by unfold z9;rw[zq (z:=.b (decide (x=n))) b rfl (LW.trans (by rw[a1X]))];rfl
def UY(b:a ρ=.ok (.i x)):z9 (mOp pGt a (mC (.i n))) ρ=.ok (decide (x>n)):=by unfold z9;rw[zq (z:=.b (decide (x>n))) b rfl rfl];rfl
def Yw(d:a ρ=.ok x)(c:b ρ=.ok y):fP a b ρ=.ok (x&&y):=by
 unfold fP;rw[d,okb];cases x
 .rfl
 .rw[if_pos rfl,c];rfl
def ya(h:c ρ=.ok x):sIf c a b ρ=if x=true then a ρ else b ρ:=by unfold sIf;rw[h,okb]
def Yx(h:m ρ=.ok x):je m ρ=.ok (.rt x):=by unfold je;rw[h,okb]
def Ii(b:a ρ=.ok (.i x)):z9 (mOp pLt a (mC (.i n))) ρ=.ok (decide (x<n)):=by unfold z9;rw[zq (z:=.b (decide (x<n))) b rfl rfl];rfl
def zU(h:m ρ=.ok (.b b)):z9 m ρ=.ok b:=by unfold z9;rw[h];rfl
def sH(d:a ρ=.ok x)(c:b ρ=.ok y):mOr a b ρ=.ok (x||y):=by
 unfold mOr;rw[d,okb];cases x
 .rw[if_neg a0q,c];rfl
 .rfl
def UZ(b:a ρ=.ok x):ud a ρ=.ok (!x):=by unfold ud;rw[b,okb]
def Dh(d:a ρ=.ok (.b x))(c:b ρ=.ok (.b y)):BP a b ρ=.ok (.b (x&&y)):=by
 unfold BP;rw[d,okb];show(Out.ok x).bind _=_;rw[okb];cases x
 .rfl
 .rw[if_pos rfl,c];rfl
def TC(f:a ρ=.ok (.i x))(e:b ρ=.ok (.i y))(d:c ρ=.ok (.i z)):m6 pLe pLe a b c ρ=.ok (.b (decide (x<=y)&&decide (y<=z))):=by
 unfold m6;rw[f,okb,e,okb,show pLe (.i x) (.i y)=.ok (.b (decide (x<=y)))from rfl,okb];show(Out.ok (decide (x<=y))).bind _=_;rw[okb];cases decide (x<=y)
 .rfl
 .rw[if_pos rfl,d,okb];rfl
def sz5{z:Str}(h:z.length<=100000):z.length<=sizeLine:=a0y h (by decide)
def signs_at(h:m ρ=.ok (.s z)):nv m ρ=.ok (z.cps.toList.map λc=>PV.s ⟨#[c]⟩):=by unfold nv;rw[h,okb];rfl
def Qa(h:ms ρ=.ok xs)(a:xs.length<=sizeLine):Ux ms ρ=.ok (.t xs):=by unfold Ux;rw[h,okb,if_pos a]
def sI(c:a ρ=.ok false):fP a b ρ=.ok false:=by unfold fP;rw[c,okb];rfl
def c5(h:p ρ G=.nx ρ' G')(a:q ρ' G'=o):Ez p q ρ G=o:=by unfold Ez;rw[h];exact a
def TF(a:fU bs ρ=some r)(b:m r=.ok x):hP bs m ρ G=.ok (.v x) G:=by unfold hP;rw[a];dsimp only;rw[b]
def zbe:bR G bs []=some []:=by cases bs<;>rfl
def zbf(h:bR G bs ρ=some r):bR G (false::bs) (a::ρ)=some (none::r):=by show(bR G bs ρ).map _=_;rw[h];rfl
def TH(a:Kr G 8 x=some y)(h:bR G bs ρ=some r):bR G (true::bs) (some x::ρ)=some (some y::r):=by show(Kr G 8 x).bind _=_;rw[a,h];rfl
def oG(a:0<=i)(b:i<xs.length):pIx (.l xs) (.i i)=.ok (xs[i.toNat]'(by omega)):=by rw[S9,Co a,a0n (by omega)];rfl
def TK{xs:a40}{i:Int}(a:0<=i)(b:i<xs.length):∃y∈xs,pIx (.l (xs.map .s)) (.i i)=.ok (.s y):=
 ⟨xs[i.toNat]'(by omega),a04 _,by rw[oG a (by rw[v4];exact b),a08]⟩
def uR{xs:a4k}{i:Int}(a:0<=i)(b:i<xs.length):∃y∈xs,pIx (.l (xs.map .i)) (.i i)=.ok (.i y):=
 ⟨xs[i.toNat]'(by omega),a04 _,by rw[oG a (by rw[v4];exact b),a08]⟩
def any_map{b c d:Type}[DecidableEq b]{f:c->d}{kvs:List (b×c)}{k:b}:(kvs.map λp=>(p.1,f p.2)).any (λa=>decide (a.1=k))=kvs.any (λa=>decide (a.1=k)):=by rw[List.any_map];rfl
def uS{a b c:Type}[DecidableEq a]{f:b->c}{kvs:List (a×b)}{k:a}{x:b}:dput (kvs.map λp=>(p.1,f p.2)) k (f x)=(dput kvs k x).map λp=>(p.1,f p.2):=by
 unfold dput;rw[any_map];split
 .rw[a0L,a0L];refine a1K λp _=>?_;show(if p.1=k then(p.1,f x)else(p.1,f p.2))=((if p.1=k then(p.1,x)else p).1,f (if p.1=k then(p.1,x)else p).2);split<;>rfl
 .rw[a0z];rfl
theorem oH{b c d:Type}[DecidableEq b]{f:c->d}:∀{a:List (b×c)}{k:b},z5 (a.map λp=>(p.1,f p.2)) k=(z5 a k).map f
 |[],_=>rfl
 | (j,u)::a,k=>by rw[a0j,yd,yd,oH];split<;>rfl
abbrev Wy:=Str×Str×Int
abbrev Ht:=List (Key×Int)
abbrev sk(z:Str):Key:=Sum.inr z
def wP(w:Wy):PV:=.t [.s w.1,.s w.2.1,.i w.2.2]
def hD(h:Ht):List (Key×PV):=h.map λp=>(p.1,.i p.2)
def Di:z5 (hD h) k=(z5 h k).map .i:=oH
def PX:dput (hD h) k (.i v)=hD (dput h k v):=uS
def PY:(hD h).length=h.length:=v4 _
def rlx(u:Ht×Bool)(w:Wy):Ht×Bool:=
 match z5 u.1 (sk w.1)with
 |none=>u
 |some x=>match z5 u.1 (sk w.2.1)with
  |none=>(dput u.1 (sk w.2.1) (x+w.2.2),true)
  |some y=>if x+w.2.2<y then(dput u.1 (sk w.2.1) (x+w.2.2),true)else u
def Mu(h:Ht):Nat:=(h.map λp=>p.2.toNat).sum
def Sup(V:List Wy)(o:Str)(h:Ht):Prop:=∀g y,z5 h g=some y->g=sk o\/∃w∈V,sk w.2.1=g/\∃x,z5 h (sk w.1)=some x/\x+w.2.2<=y
structure Aw(V:List Wy)(K:a4y)(o:Str)(h:Ht):Prop where
 sup:Sup V o h
 nd:(h.map (·.1)).Nodup
 sub:∀k∈h.map (·.1),k∈K
 pos:∀k x,z5 h k=some x->0<=x
 own:z5 h (sk o)=some 0
def ba(h:Ht)(w:Wy):Prop:=∀x,z5 h (sk w.1)=some x->∃y,z5 h (sk w.2.1)=some y/\y<=x+w.2.2
def Mv(K:a4y)(h' h:Ht):Prop:=Prod.Lex (·<·) (·<·) (K.length-h'.length,Mu h') (K.length-h.length,Mu h)
theorem Xq{c:Type}[DecidableEq c]:∀{a b:List c},a.Nodup->(∀x∈a,x∈b)->a.length<=b.length
 |[],b,_,_=>a0Y _
 |x::a,b,g,h=>by have f:=h x u8;obtain⟨j,i⟩:=a1f.mp g;have:=Xq (a:=a) (b:=b.erase x) i λy d=>(List.mem_erase_of_ne (show y≠x from λe=>j (e▸d))).mpr (h y (a0a _ d));rw[List.length_erase_of_mem f]at this;have l:0<b.length:=List.length_pos_of_mem f;rw[a0b];omega
def Aw.len{V:List Wy}{K:a4y}{o:Str}{h:Ht}(i:Aw V K o h):h.length<=K.length:=by
 have:=Xq i.nd i.sub
 rwa [v4]at this
theorem Dj{k:Key}{v:Int}:∀{h:Ht}{y:Int},(h.map (·.1)).Nodup->z5 h k=some y->v.toNat<y.toNat->Mu (h.map λa=>if a.1=k then(a.1,v)else a)<Mu h
 |[],y,_,e,_=>by cases e
 | (j,x)::h,y,f,e,b=>by
  rw[yd]at e;obtain⟨d,g⟩:=a1f.mp f;by_cases c:j=k
  .subst c;rw[if_pos rfl]at e;cases e;have:(h.map λa=>if a.1=j then(a.1,v)else a)=h:=by
    conv=>rhs;rw[<- List.map_id h]
    refine a1K λp hp=>?_;rw[if_neg (show ¬p.1=j from λz=>d (a0S.mpr ⟨p,hp,z⟩))];rfl
   unfold Mu;rw[a0j,this,if_pos rfl,a0j,a0j,a2r,a2r];exact Nat.add_lt_add_right b _
  .rw[if_neg c]at e;have:=Dj g e b;unfold Mu at this ⊢;rw[a0j,if_neg c,a0j,a0j,a2r,a2r];exact Nat.add_lt_add_left this _
def Sup.put{V:List Wy}{o:Str}{h:Ht}{w:Wy}{x:Int}(i:Sup V o h)(l:w∈V)(q:1<=w.2.2)(d:z5 h (sk w.1)=some x)(j:∀y,z5 h (sk w.2.1)=some y->x+w.2.2<y):Sup V o (dput h (sk w.2.1) (x+w.2.2)):=by
 have p:¬sk w.2.1=sk w.1:=λc=>by rw[<- c]at d;have:=j x d;omega
 intro g y e;rw[Zi]at e;split at e
 .rename_i c;cases e;refine .inr ⟨w,l,c,x,?_,a03 _⟩;rw[Zi,if_neg p];exact d
 .rcases i g y e with r|⟨m,a,n,f,b,le⟩
  .exact .inl r
  .refine .inr ⟨m,a,n,?_⟩;rw[Zi];split
   .rename_i c;rw[<- c]at b;have:=j f b;exact⟨_,rfl,by omega⟩
   .exact⟨f,b,le⟩
def Ij{V:List Wy}{K:a4y}{o:Str}{u:Ht×Bool}{w:Wy}(i:Aw V K o u.1)(l:w∈V)(r:sk w.2.1∈K)(m:1<=w.2.2):Aw V K o (rlx u w).1/\((rlx u w=u/\ba u.1 w)\/((rlx u w).2=true/\Mv K (rlx u w).1 u.1)):=by
 unfold rlx;cases f:z5 u.1 (sk w.1)with
 |none=>exact⟨i,.inl ⟨rfl,λx e=>by rw[f]at e;cases e⟩⟩
 |some x=>
  have s:=i.pos _ _ f;dsimp only;cases b:z5 u.1 (sk w.2.1)with
  |none=>
   have h:Aw V K o (dput u.1 (sk w.2.1) (x+w.2.2)):=by
    refine⟨i.sup.put l m f (λy e=>by rw[b]at e;cases e),fT i.nd,λk d=>?_,λk y e=>?_,?_⟩
    .rw[WT,b]at d;rcases a0A.mp d with d|d
     .exact i.sub k d
     .rw[a0l.mp d];exact r
    .rw[Zi]at e;split at e
     .cases e;omega
     .exact i.pos k y e
    .rw[Zi];split
     .rename_i z;rw[z]at b;rw[i.own]at b;cases b
     .exact i.own
   refine⟨h,.inr ⟨rfl,.left _ _ ?_⟩⟩;have q:=h.len;have:(dput u.1 (sk w.2.1) (x+w.2.2)).length=u.1.length+1:=by have:=a0O List.length (WT (a:=u.1) (k:=sk w.2.1) (v:=x+w.2.2));rw[b,v4]at this;rw[this];simp
   dsimp only at q ⊢;omega
  |some y=>
   dsimp only;by_cases c:x+w.2.2<y
   .rw[if_pos c];have d:(z5 u.1 (sk w.2.1)).isSome=true:=by rw[b];rfl
    have h:Aw V K o (dput u.1 (sk w.2.1) (x+w.2.2)):=by
     refine⟨i.sup.put l m f (λz e=>by rw[b]at e;cases e;exact c),fT i.nd,λk g=>?_,λk z e=>?_,?_⟩
     .rw[WT,if_pos d]at g;exact i.sub k g
     .rw[Zi]at e;split at e
      .cases e;omega
      .exact i.pos k z e
     .rw[Zi];split
      .rename_i z;rw[z,i.own]at b;cases b;omega
      .exact i.own
    refine⟨h,.inr ⟨rfl,?_⟩⟩;have n:dput u.1 (sk w.2.1) (x+w.2.2)=u.1.map λj=>if j.1=sk w.2.1 then(j.1,x+w.2.2)else j:=by unfold dput;rw[vB,if_pos d]
    have p:=Dj (v:=x+w.2.2) i.nd b (by omega);unfold Mv;dsimp only;rw[n,v4];exact .right _ p
   .rw[if_neg c];exact⟨i,.inl ⟨rfl,λz e=>by rw[f]at e;cases e;exact⟨y,b,by omega⟩⟩⟩
def Ax(d:Mv K a b)(e:Mv K b c):Mv K a c:=by unfold Mv at *;rw[Prod.lex_def]at *;dsimp only at *;omega
theorem uT{V:List Wy}{K:a4y}{o:Str}:∀{W:List Wy}{u:Ht×Bool},Aw V K o u.1->(∀w∈W,w∈V/\sk w.2.1∈K/\1<=w.2.2)->Aw V K o (W.foldl rlx u).1/\((W.foldl rlx u=u/\∀w∈W,ba u.1 w)\/((W.foldl rlx u).2=true/\Mv K (W.foldl rlx u).1 u.1))
 |[],u,i,_=>⟨i,.inl ⟨rfl,λw h=>by cases h⟩⟩
 |w::W,u,i,d=>by
  obtain⟨v,g,m⟩:=d w u8;obtain⟨s,l⟩:=Ij (u:=u) (w:=w) i v g m;obtain⟨p,a⟩:=uT (W:=W) (u:=rlx u w) s λb h=>d b (a0a _ h);refine⟨p,?_⟩;rw[a1t];rcases l with⟨x,r⟩|⟨j,f⟩
  .rw[x]at a ⊢;rcases a with⟨c,e⟩|a
   .refine .inl ⟨c,λb h=>?_⟩;rcases a0r.mp h with rfl|h
    .exact r
    .exact e b h
   .exact .inr a
  .rcases a with⟨c,e⟩|⟨n,q⟩
   .rw[c];exact .inr ⟨j,f⟩
   .exact .inr ⟨n,Ax q f⟩
def Mw(r:a4L):Prop:=∃a b c d,r=[a,b,c,d]
abbrev hSt(o:Str)(W:List Wy)(h:Ht)(b:Bool)(r:a4L):Sto:=[some (.s o),some (.l (W.map wP)),some (.d (hD h)),some (.b b)]++r
def Dk(c:a ρ=.ok (.s z))(b:zd i ρ=.ok (.d (hD h))):z9 (mOp (pIn n) a (zd i)) ρ=.ok (xor n (z5 h (sk z)).isSome):=by refine zU (zq c b ?_);show Out.ok (PV.b (xor n (z5 (hD h) (sk z)).isSome))=_;rw[Di,a1S]
def Ik(d:a ρ=.ok (.s z))(b:zd i ρ=.ok (.d (hD h)))(c:z5 h (sk z)=some x):mOp pIx (zd i) a ρ=.ok (.i x):=by refine zq b d ?_;show j8 (z5 (hD h) (sk z))=_;rw[Di,c];rfl
def PZ(c:a ρ=.ok true):mOr a b ρ=.ok true:=by unfold mOr;rw[c,okb];rfl
def Mx{o:Str}{W:List Wy}{h:Ht}{b:Bool}{w:Wy}{a7:a4g}(p:h.length<100000):∃g,jh [some (.s o),some (.l (W.map wP)),some (.d (hD h)),some (.b b),some (.s w.1),some (.s w.2.1),some (.i w.2.2),a7]=.ok (.nx [some (.s o),some (.l (W.map wP)),some (.d (hD (rlx (h,b) w).1)),some (.b (rlx (h,b) w).2),some (.s w.1),some (.s w.2.1),some (.i w.2.2),g]):=by
 have e:=ya (ρ:=[some (.s o),some (.l (W.map wP)),some (.d (hD h)),some (.b b),some (.s w.1),some (.s w.2.1),some (.i w.2.2),a7]) (a:=zI (z8 7 (mOp z0 (mOp pIx (zd 2) (zd 4)) (zd 6))) (sIf (mOr (z9 (mOp (pIn true) (zd 5) (zd 2))) (z9 (mOp pLt (zd 7) (mOp pIx (zd 2) (zd 5))))) (zI (Eu 2 (zd 5) (zd 7)) (z8 3 (mC (.b true)))) zR)) (b:=zR) (Dk (n:=false) (a:=zd 4) (i:=2) rfl rfl);unfold rlx;dsimp only;cases l:z5 h (sk w.1)with
 |none=>rw[l]at e;exact⟨a7,e⟩
 |some x=>
  rw[l]at e;have put:∀{d:Sto},d=[some (.s o),some (.l (W.map wP)),some (.d (hD h)),some (.b b),some (.s w.1),some (.s w.2.1),some (.i w.2.2),some (.i (x+w.2.2))]->zI (Eu 2 (zd 5) (zd 7)) (z8 3 (mC (.b true))) d=.ok (.nx [some (.s o),some (.l (W.map wP)),some (.d (hD (dput h (sk w.2.1) (x+w.2.2)))),some (.b true),some (.s w.1),some (.s w.2.1),some (.i w.2.2),some (.i (x+w.2.2))]):=λ{d} f=>by subst f;refine zc ⟨[some (.s o),some (.l (W.map wP)),some (.d (hD (dput h (sk w.2.1) (x+w.2.2)))),some (.b true),some (.s w.1),some (.s w.2.1),some (.i w.2.2),some (.i (x+w.2.2))].set 3 (some (.b b)),?_,rfl⟩;show(if(hD h).length<sizeLine then Out.ok (Fw.nx [some (.s o),some (.l (W.map wP)),some (.d (dput (hD h) (sk w.2.1) (.i (x+w.2.2)))),some (.b b),some (.s w.1),some (.s w.2.1),some (.i w.2.2),some (.i (x+w.2.2))])else .wall)=_;rw[if_pos (by rw[PY];exact a0u p (by decide)),PX];rfl
  have q:z8 7 (mOp z0 (mOp pIx (zd 2) (zd 4)) (zd 6)) [some (.s o),some (.l (W.map wP)),some (.d (hD h)),some (.b b),some (.s w.1),some (.s w.2.1),some (.i w.2.2),a7]=.ok (.nx [some (.s o),some (.l (W.map wP)),some (.d (hD h)),some (.b b),some (.s w.1),some (.s w.2.1),some (.i w.2.2),some (.i (x+w.2.2))]):=zK (zq (Ik rfl rfl l) rfl rfl);refine⟨some (.i (x+w.2.2)),e.trans ?_⟩;show zI _ _ _=_;refine zc ⟨_,q,?_⟩;cases j:z5 h (sk w.2.1)with
  |none=>refine(ya (PZ ((Dk (n:=true) (a:=zd 5) (i:=2) rfl rfl).trans (by rw[j];rfl)))).trans ?_;exact put rfl
  |some y=>
   dsimp only;have t:=ya (ρ:=[some (.s o),some (.l (W.map wP)),some (.d (hD h)),some (.b b),some (.s w.1),some (.s w.2.1),some (.i w.2.2),some (.i (x+w.2.2))]) (a:=zI (Eu 2 (zd 5) (zd 7)) (z8 3 (mC (.b true)))) (b:=zR) (sH (x:=false) ((Dk (n:=true) (a:=zd 5) (i:=2) rfl rfl).trans (by rw[j];rfl)) (zU (m:=mOp pLt (zd 7) (mOp pIx (zd 2) (zd 5))) (b:=decide (x+w.2.2<y)) (zq rfl (Ik rfl rfl j) rfl)));refine t.trans ?_;by_cases c:x+w.2.2<y
   .rw[if_pos c,a0f c];exact put rfl
   .rw[if_neg c,a0k c];rfl
theorem uU{K:a4y}{o:Str}{W:List Wy}(p:K.length<=1000)(n:∀w∈W,sk w.2.1∈K/\1<=w.2.2):∀{V:List Wy}{u:Ht×Bool}{r:a4L},(∀w∈V,w∈W)->Aw W K o u.1->Mw r->∃a,Mw a/\Zg Qt jh (V.map wP) (hSt o W u.1 u.2 r)=.ok (.nx (hSt o W (V.foldl rlx u).1 (V.foldl rlx u).2 a))
 |[],u,r,_,_,l=>⟨r,l,rfl⟩
 |w::V,u,r,f,i,l=>by obtain⟨y,z,x,j,rfl⟩:=l;obtain⟨d,e⟩:=Mx (o:=o) (W:=W) (h:=u.1) (b:=u.2) (w:=w) (a7:=j) (a1O (a0y i.len p) (by decide));obtain⟨g,m⟩:=n w (f w u8);obtain⟨v,_⟩:=Ij (u:=u) (w:=w) i (f w u8) g m;obtain⟨a,c,s⟩:=uU p n (V:=V) (u:=rlx u w) (r:=[some (.s w.1),some (.s w.2.1),some (.i w.2.2),d]) (λq h=>f q (a0a _ h)) v ⟨_,_,_,_,rfl⟩;refine⟨a,c,?_⟩;rw[a1t,<- s];show(jh [some (.s o),some (.l (W.map wP)),some (.d (hD u.1)),some (.b u.2),some (.s w.1),some (.s w.2.1),some (.i w.2.2),j]).bind _=_;rw[e];rfl
theorem Il(m:K.length<=1000)(d:∀w∈W,sk w.2.1∈K/\1<=w.2.2)(h:Ht)(i:Aw W K o h)(r:a4L)(x:Mw r):∃n a l,Aw W K o a/\(∀w∈W,ba a w)/\qX jj yJ n (hSt o W h true r)=.ok (.nx (hSt o W a false l)):=by
 obtain⟨c,g,A⟩:=uU (o:=o) m d (V:=W) (u:=(h,false)) (λw h=>h) i x;obtain⟨z,y⟩:=uT (W:=W) (u:=(h,false)) i λw h=>⟨h,d w h⟩;have q:yJ (hSt o W h true r)=.ok (.nx (hSt o W (W.foldl rlx (h,false)).1 (W.foldl rlx (h,false)).2 c)):=zc ⟨hSt o W h false r,rfl,yZ (zA rfl) A⟩;have one:∀{n j},qX jj yJ n (hSt o W (W.foldl rlx (h,false)).1 (W.foldl rlx (h,false)).2 c)=j->qX jj yJ (n+1) (hSt o W h true r)=j:=λ{n j} e=>by show(yJ (hSt o W h true r)).bind _=_;rw[q];exact e
 rcases y with⟨s,f⟩|⟨p,b⟩
 .refine⟨2,h,c,i,f,one ?_⟩;rw[s];rfl
 .obtain⟨n,a,l,v,f,e⟩:=Il m d (W.foldl rlx (h,false)).1 z c g;refine⟨n+1,a,l,v,f,one ?_⟩;rw[p];exact e
termination_by (K.length-h.length,Mu h)
decreasing_by exact b
def c6(o:Str)(W:List Wy)(h:Ht):Prop:=Aw W (sk o::W.map λw=>sk w.2.1) o h/\∀w∈W,ba h w
def gu(m:W.length<=100)(i:∀w∈W,1<=w.2.2):∃h,c6 o W h/\yC [.s o,.l (W.map wP)]=.ok (.d (hD h)):=by
 have d:Aw W (sk o::W.map λw=>sk w.2.1) o [(sk o,0)]:=by
  refine⟨λg y e=>?_,a1f.mpr ⟨by simp,a2N⟩,λk l=>?_,λk x e=>?_,?_⟩
  .rw[yd]at e;split at e
   .rename_i c;exact .inl c.symm
   .cases e
  .rw[a0l.mp l];exact u8
  .rw[yd]at e;split at e
   .cases e;exact a03 _
   .cases e
  .rw[yd,if_pos rfl]
 obtain⟨n,j,p,b,f,e⟩:=Il (o:=o) (W:=W) (K:=sk o::W.map λw=>sk w.2.1) (by rw[a0b,v4];omega) (λw a=>⟨a0a _ (a0S.mpr ⟨w,a,rfl⟩),i w a⟩) [(sk o,0)] d [none,none,none,none] ⟨_,_,_,_,rfl⟩;refine⟨j,⟨b,f⟩,zC ?_⟩;exact zc ⟨_,rfl,zc ⟨hSt o W [(sk o,0)] true [none,none,none,none],rfl,zc ⟨_,nr e (by intro z;cases z),rfl⟩⟩⟩
abbrev signs:Str:="abcdefghijklmnopqrstuvwxyz0123456789"
def c7:signs.length=36:=by decide +kernel
def sgn(r:Int):Str:=⟨#[(signs.cps.toList[r.toNat]?).getD 0]⟩
def P0(a:0<=r)(d:r<36):pIx (.s signs) (.i r)=.ok (.s (sgn r)):=by
 unfold pIx;have c:signs.length<=sizeLine:=by rw[c7];decide
 simp only[c,if_true];have b:r.toNat<signs.cps.toList.length:=by have:=c7;unfold Str.length at this;simp;omega
 rw[Co a];unfold sgn;rw[a0n b];rfl
def My:∀a:Fin 36,∀b:Fin 36,sgn (a.val:Int)=sgn (b.val:Int)->a=b:=by decide +kernel
def Mz(b:0<=r)(c:r<36)(a:0<=s)(d:s<36)(h:sgn r=sgn s):r=s:=by
 have:=My ⟨r.toNat,by omega⟩ ⟨s.toNat,by omega⟩ (by
  show sgn (r.toNat:Int)=sgn (s.toNat:Int);rw[a2L b,a2L a];exact h)
 have:=a0O Fin.val this;simp only at this;omega
def str_inj{a b a' c:Str}(e:a.length=a'.length)(h:a++b=a'++c):a=a'/\b=c:=by have d:a.cps++b.cps=a'.cps++c.cps:=a0O Str.cps h;have:=Array.append_inj d e;obtain⟨x⟩:=a;obtain⟨y⟩:=b;obtain⟨g⟩:=a';obtain⟨i⟩:=c;obtain⟨d,f⟩:=this;exact⟨a0O Str.mk d,a0O Str.mk f⟩
def Sgs(z:Str):Prop:=∀c∈z.cps.toList,c∈signs.cps.toList
def Sgs.app(g:Sgs a)(f:Sgs b):Sgs (a++b):=λc d=>by have e:(a++b).cps.toList=a.cps.toList++b.cps.toList:=a2M;rw[e]at d;exact(a0A.mp d).elim (g c) (f c)
theorem Sgs.sgn{r:Int}(h0:0<=r)(h1:r<36):Sgs (sgn r):=λc hc=>by
 have hl:r.toNat<signs.cps.toList.length:=by have:=c7;unfold Str.length at this;simp;omega
 have e:(K57.sgn r).cps.toList=[signs.cps.toList[r.toNat]'hl]:=by show[(signs.cps.toList[r.toNat]?).getD 0]=_;rw[a0n hl];rfl
 rw[e]at hc;rw[a0l.mp hc];exact a04 hl
def Nm(z:Str):Prop:=(1<=z.length/\z.length<=12)/\Sgs z
def nodup_range{d:Type}{f:Nat->d}(h:∀j k,j<n->k<n->f j=f k->j=k):((List.range n).map f).Nodup:=by rw[a2W,a1T];refine a3c ?_ (a2W.mp List.nodup_range);intro a b i g c e;exact c (h a b (a1p.mp i) (a1p.mp g) e)
def TL(b:a ρ=.ok (.i n)):Yq a ρ=.ok (some n):=by unfold Yq;rw[b];rfl
def WOk(N:a40)(W:List Wy):Prop:=∀w∈W,w.1∈N/\w.2.1∈N/\1<=w.2.2/\w.2.2<=1000000000
def Yy{a:Type}{f:a->PV}{xs:List a}:Yo [.l (xs.map f)]=.ok (.i (xs.length:Int)):=by show Out.ok (PV.i ((xs.map f).length:Int))=_;rw[v4]
def c8{N:a40}{s:Int}(h:0<N.length):∃z∈N,pIx (.l (N.map .s)) (.i (s % (N.length:Int)))=.ok (.s z):=
 TK (a0H _ (by omega)) (a0C _ (by omega))
def c9{fr:Bool}{n:Nat}{ms:MS}{xs:a4h}{ρ:Sto}(hf:fr=false)(h:ms (xs.map some++List.replicate (n-xs.length) none)=.ok (.nx ρ)):kg fr n ms xs=.ok .n:=by subst hf;unfold kg;rw[h];rfl
def ym(h:m ρ=.ok x):jd m ρ=.ok (.nx ρ):=by unfold jd;rw[h];rfl
def lM{x:PV}{n:Int}{k:Nat}(h:Yo [x]=.ok (.i (k:Int)))(a:(k:Int)<=n):yD [x,.i n]=.ok .n:=by refine c9 rfl ((ya (x:=false) (zU (zq (zw (xs:=[x]) rfl h) rfl ?_))).trans (show _=Out.ok (Fw.nx [some x,some (.i n)])from rfl));show Out.ok (PV.b (decide ((k:Int)>n)))=_;rw[a0k (by omega)]
def Dl(h:Nm z):qx [.s z]=.ok (.s z):=by
 obtain⟨⟨l1,l2⟩,hs⟩:=h;have hl:Yo [.s z]=.ok (.i z.length):=OY (sz5 (by omega));have loop:∀{cs:a39}{o:a4g},(∀c∈cs,c∈signs.cps.toList)->∃o',Zg Qu jm (cs.map λc=>PV.s ⟨#[c]⟩) [some (.s z),o]=.ok (.nx [some (.s z),o']):=by
  intro cs
  induction cs with
  |nil=>intro o _;exact⟨o,rfl⟩
  |cons c cs ih=>
   intro o hc;obtain⟨o',e⟩:=ih (o:=some (.s ⟨#[c]⟩)) λx hx=>hc x (a0a _ hx);refine⟨o',?_⟩;have eb:jm [some (.s z),some (.s ⟨#[c]⟩)]=.ok (.nx [some (.s z),some (.s ⟨#[c]⟩)]):=by refine(ya (x:=false) (zU (zq (x:=.s ⟨#[c]⟩) (y:=.s signs) rfl rfl ?_))).trans rfl;show Out.ok (PV.b (xor true (!(Builtin.Str.occurrences signs ⟨#[c]⟩ 0 signs.length 1).isEmpty)))=_;rw[StrLaws.found_one,a0f (hc c u8)];rfl
   show(jm [some (.s z),some (.s ⟨#[c]⟩)]).bind _=_;rw[eb];exact e
 obtain⟨o',e⟩:=loop (cs:=z.cps.toList) (o:=none) hs;refine zC (zc ⟨_,(ya (sH (x:=false) (y:=false) ((Ii (x:=(z.length:Int)) (zw (xs:=[.s z]) rfl hl)).trans (by rw[a0k (by omega)])) ((UY (x:=(z.length:Int)) (zw (xs:=[.s z]) rfl hl)).trans (by rw[a0k (by omega)])))).trans (show _=Out.ok (Fw.nx [some (.s z),none])from rfl),zc ⟨_,yZ (signs_at rfl) e,rfl⟩⟩)
def Qx(P:a40):List (Key×PV):=P.map λz=>(sk z,.b true)
def bb(h:z∉P):z5 (Qx P) (sk z)=none:=by
 cases e:z5 (Qx P) (sk z)with
 |none=>rfl
 |some x=>have:=Kq e;obtain⟨y,b,a⟩:=a0S.mp this;cases a;exact absurd b h
def Dm{N:a40}(c:N.Nodup)(l:∀z∈N,Nm z)(m:N.length<=12):qy [.l (N.map .s)]=.ok .n:=by
 have loop:∀{R P:a40}{o:a4g},P++R=N->∃b a,Zg Qw jn (R.map .s) [some (.l (N.map .s)),some (.d (Qx P)),o]=.ok (.nx [some (.l (N.map .s)),some (.d (Qx b)),a]):=by
  intro R
  induction R with
  |nil=>intro P o _;exact⟨P,o,rfl⟩
  |cons z R i=>
   intro P o e;obtain⟨b,a,j⟩:=i (P:=P++[z]) (o:=some (.s z)) (by rw[a0w];exact e);refine⟨b,a,?_⟩;have hz:z∉P:=λh=>by rw[<- e]at c;exact(a1F.mp c).2.2 z h z u8 rfl
   have f:z∈N:=by rw[<- e];exact a0p _ u8
   have hp:(Qx P).length<=12:=by have:=a0O List.length e;rw[a0g]at this;unfold Qx;rw[v4];omega
   have en:z6 [.s z,.d (Qx P)]=.ok (.s z):=by refine zC (zc ⟨_,ym (zw (xs:=[.s z]) rfl (Dl (l z f))),zc ⟨_,(ya (x:=false) (zU (zq (x:=.s z) (y:=.d (Qx P)) rfl rfl ?_))).trans (show _=Out.ok (Fw.nx [some (.s z),some (.d (Qx P))])from rfl),rfl⟩⟩);show Out.ok (PV.b (xor false (z5 (Qx P) (sk z)).isSome))=_;rw[bb hz];rfl
   have g:dput (Qx P) (sk z) (.b true)=Qx (P++[z]):=by unfold dput;rw[vB,bb hz];unfold Qx;rw[a0z];rfl
   have d:jn [some (.l (N.map .s)),some (.d (Qx P)),some (.s z)]=.ok (.nx [some (.l (N.map .s)),some (.d (Qx (P++[z]))),some (.s z)]):=by refine zc ⟨_,ym (zw (xs:=[.s z,.d (Qx P)]) rfl en),?_⟩;show(if(Qx P).length<sizeLine then Out.ok (Fw.nx [some (.l (N.map .s)),some (.d (dput (Qx P) (sk z) (.b true))),some (.s z)])else .wall)=_;rw[if_pos (a1O hp (by decide)),g]
   show(jn [some (.l (N.map .s)),some (.d (Qx P)),some (.s z)]).bind _=_;rw[d];exact j
 obtain⟨b,a,e⟩:=loop (R:=N) (P:=[]) (o:=none) rfl;exact c9 rfl (zc ⟨[some (.l (N.map .s)),some (.d (Qx [])),none],rfl,yZ (zA rfl) e⟩)
theorem P1{z:Str}:∀{N:a40},inP (.str z) (N.map .s)=some (decide (z∈N))
 |[]=>by rw[a0k (by simp)];rfl
 |y::N=>by
  show(match some (V.str y),inP (.str z) (N.map .s)with|some u,some b=>some (eqV u (.str z)||b)|_,_=>none)=_;rw[P1 (N:=N)];show some ((y==z)||decide (z∈N))=_;congr 1;by_cases c:y=z
  .subst c;rw[a11,a0f u8];rfl
  .rw[a0Z.mpr c,Bool.false_or];by_cases h:z∈N
   .rw[a0f h,a0f (a0a _ h)]
   .rw[a0k h,a0k λq=>(a0r.mp q).elim (λe=>c e.symm) h]
def P2{z:Str}{N:a40}{n:Bool}:pIn n (.s z) (.l (N.map .s))=.ok (.b (xor n (decide (z∈N)))):=by show j8 ((inP (.str z) (N.map .s)).map λb=>PV.b (xor n b))=_;rw[P1];rfl
def placeOk{z:Str}{N:a40}(h:z∈N):yn [.s z,.l (N.map .s)]=.ok .n:=
 c9 rfl ((ya (x:=false) (zU (zq (x:=.s z) (y:=.l (N.map .s)) rfl rfl (P2.trans (by rw[a0f h];rfl))))).trans (show _=Out.ok (Fw.nx [some (.s z),some (.l (N.map .s))])from rfl))
def Dp(a:1<=m)(b:m<=1000000000):zZ [.i m,.i 1]=.ok (.i m):=by refine zC (zc ⟨_,(ya (sH (x:=false) (y:=false) (zU (zq (x:=.i m) (y:=.i 1) rfl rfl ?_)) ((UY (x:=m) rfl).trans (by rw[a0k (by omega)])))).trans (show _=Out.ok (Fw.nx [some (.i m),some (.i 1)])from rfl),rfl⟩);show Out.ok (PV.b (decide (m<1)))=_;rw[a0k (by omega)]
def F4(h:WOk N W):jF [.l (N.map .s),.l (W.map wP)]=.ok .n:=by
 have loop:∀{V:List Wy}{a b c:a4g},(∀w∈V,w∈W)->∃g f d,Zg Vj kO (V.map wP) [some (.l (N.map .s)),some (.l (W.map wP)),a,b,c]=.ok (.nx [some (.l (N.map .s)),some (.l (W.map wP)),g,f,d]):=by
  intro V
  induction V with
  |nil=>intro a b c _;exact⟨a,b,c,rfl⟩
  |cons w V o=>
   intro a b c i;obtain⟨q,n,m,j⟩:=h w (i w u8);obtain⟨g,f,d,e⟩:=o (a:=some (.s w.1)) (b:=some (.s w.2.1)) (c:=some (.i w.2.2)) λx p=>i x (a0a _ p);refine⟨g,f,d,?_⟩;have l:kO [some (.l (N.map .s)),some (.l (W.map wP)),some (.s w.1),some (.s w.2.1),some (.i w.2.2)]=.ok (.nx [some (.l (N.map .s)),some (.l (W.map wP)),some (.s w.1),some (.s w.2.1),some (.i w.2.2)]):=
    zc ⟨_,ym (zw (xs:=[.s w.1,.l (N.map .s)]) rfl (placeOk q)),zc ⟨_,ym (zw (xs:=[.s w.2.1,.l (N.map .s)]) rfl (placeOk n)),ym (zw (xs:=[.i w.2.2,.i 1]) rfl (Dp m j))⟩⟩
   show(kO [some (.l (N.map .s)),some (.l (W.map wP)),some (.s w.1),some (.s w.2.1),some (.i w.2.2)]).bind _=_;rw[l];exact e
 obtain⟨g,f,d,e⟩:=loop (V:=W) (a:=none) (b:=none) (c:=none) λw h=>h;exact c9 rfl (yZ (zA rfl) e)
def pP(N:a40)(F:Str->Ht):List (Key×PV):=N.map λz=>(sk z,.d (hD (F z)))
def roP(N:a40)(W:List Wy)(F:Str->Ht):PV:=.o 11 [("places",.l (N.map .s)),("ways",.l (W.map wP)),("lengths",.d (pP N F))]
def uV:∀{acc:a4l},((acc++es).map (·.1)).Nodup->es.foldl (λacc kv=>dput acc kv.1 kv.2) acc=acc++es:=by
 induction es with
 |nil=>intro acc _;rw[a0s];rfl
 |cons e es ih=>
  intro acc nd;have hn:z5 acc e.1=none:=by
   cases h:z5 acc e.1 with
   |none=>rfl
   |some x=>have hm:e.1∈acc.map (·.1):=a0S.mpr ⟨_,Kq h,rfl⟩;rw[a0z,a0j]at nd;exact absurd rfl ((a1F.mp nd).2.2 e.1 hm e.1 u8)
  have ed:dput acc e.1 e.2=acc++[e]:=by unfold dput;rw[vB,hn];rfl
  rw[a1t,ed,ih (by rw[a0w];exact nd),a0w];rfl
def F5(c:N.Nodup):((pP N F).map (·.1)).Nodup:=by unfold pP;rw[a0L];exact List.Pairwise.map _ (λa b h e=>h (a1y e)) c
def MB(h:o∈N):z5 (pP N F) (sk o)=some (.d (hD (F o))):=by
 induction N with
 |nil=>cases h
 |cons z N a=>
  unfold pP;rw[a0j,yd];by_cases c:sk z=sk o
  .rw[if_pos c];rw[a1y c]
  .rw[if_neg c];exact a ((a0r.mp h).resolve_left λe=>c (by rw[e]))
theorem uW{F:Str->Ht}:∀{N:a40},Ey (N.map λz=>.t [.s z,.d (hD (F z))])=some (pP N F)
 |[]=>rfl
 |z::N=>by show(Ey (N.map λz=>.t [.s z,.d (hD (F z))])).map ((sk z,PV.d (hD (F z)))::·)=_;rw[uW (N:=N)];rfl
def Dq(h:m (some (.o 11 fs)::r)=.ok v)(a:fs.length<1000):WN 0 [11] f m (some (.o 11 fs)::r)=.ok (.nx (some (.o 11 (Ew fs f v))::r)):=by unfold WN;rw[h];show(if 11∈[11]/\fs.length<1000 then Out.ok (Fw.nx (some (PV.o 11 (Ew fs f v))::r))else .wall)=_;rw[if_pos ⟨u8,a⟩]
structure ROk(N:a40)(W:List Wy):Prop where
 len:N.length<=12
 nd:N.Nodup
 nm:∀z∈N,Nm z
 wl:W.length<=60
 ok:WOk N W
def sJ(R:ROk N W):∃F:Str->Ht,∀z,c6 z W (F z)/\yC [.s z,.l (W.map wP)]=.ok (.d (hD (F z))):=
 ⟨λz=>Classical.choose (gu (o:=z) (W:=W) (by have:=R.wl;omega) λw a=>(R.ok w a).2.2.1),λz=>a05 (gu (o:=z) (W:=W) (by have:=R.wl;omega) λw a=>(R.ok w a).2.2.1)⟩
def MC(R:ROk N W)(hF:∀z,yC [.s z,.l (W.map wP)]=.ok (.d (hD (F z)))):qH [.l (N.map .s),.l (W.map wP)]=.ok (roP N W F):=by
 have hl:=R.len;have hw:=R.wl;have ec:lcP Jv Jw Jx (N.map .s) [none,some (.l (W.map wP))] []=.ok (.l (N.map λz=>.t [.s z,.d (hD (F z))])):=by refine qD PV.s (λz=>.t [.s z,.d (hD (F z))]) (λρ=>∃o,ρ=[o,some (.l (W.map wP))]) N [none,some (.l (W.map wP))] ⟨none,rfl⟩ (λz hz ρ ⟨o,ho⟩=>?_) (by omega);subst ho;exact⟨_,rfl,⟨_,rfl⟩,Qa (zp rfl (zp (zw (xs:=[.s z,.l (W.map wP)]) rfl (hF z)) rfl)) (a0m rfl)⟩
 have ed:bP [.l (N.map λz=>.t [.s z,.d (hD (F z))])]=.ok (.d (pP N F)):=by show j8 ((Ey (N.map λz=>.t [.s z,.d (hD (F z))])).map λes=>PV.d (bO es))=_;rw[uW];show Out.ok (PV.d (bO (pP N F)))=_;unfold bO;rw[uV (acc:=[]) (by rw[a1k];exact F5 R.nd)];rfl
 have e:Zy [some (.o 11 []),some (.l (N.map .s)),some (.l (W.map wP))]=.ok (.nx [some (roP N W F),some (.l (N.map .s)),some (.l (W.map wP))]):=by refine zc ⟨_,ym (zw (xs:=[.l (N.map .s),.i 12]) rfl (lM Yy (by omega))),zc ⟨_,ym (zw (xs:=[.l (W.map wP),.i 60]) rfl (lM Yy (by omega))),zc ⟨_,ym (zw (xs:=[.l (N.map .s)]) rfl (Dm R.nd R.nm hl)),zc ⟨_,ym (zw (xs:=[.l (N.map .s),.l (W.map wP)]) rfl (F4 R.ok)),zc ⟨_,Dq (v:=.l (N.map .s)) rfl (by decide),zc ⟨_,Dq (v:=.l (W.map wP)) rfl (a0m rfl),(Dq (v:=.d (pP N F)) (zw (zp (Zd (zA rfl) ec) rfl) ed) (a0m rfl)).trans ?_⟩⟩⟩⟩⟩⟩;rw[ir,bK (by decide +kernel),ir,bK (by decide +kernel),bK (by decide +kernel),ir];rfl
 show(match Zy [some (.o 11 []),some (.l (N.map .s)),some (.l (W.map wP))]with | .ok (.nx ρ)=>(match ρ[0]? with|some (some x)=>Out.ok x|_=>.wall) | .ok (.rt _)=>.wall | .ok (.bk _)=>.wall | .ok (.ct _)=>.wall | .exc c fs=>.exc c fs | .wall=>.wall)=_;rw[e];rfl
def Dr(h:m ρ=.ok (roP N W F)):vV [11] "places" m ρ=.ok (.l (N.map .s))/\vV [11] "lengths" m ρ=.ok (.d (pP N F)):=by
 constructor
 .unfold vV;rw[h,okb];show(if 11∈[11]then j8 (List.lookup ("places":Str) [("places",PV.l (N.map .s)),("ways",.l (W.map wP)),("lengths",.d (pP N F))])else .wall)=_;rw[if_pos u8,bJ];rfl
 .unfold vV;rw[h,okb];show(if 11∈[11]then j8 (List.lookup ("lengths":Str) [("places",PV.l (N.map .s)),("ways",.l (W.map wP)),("lengths",.d (pP N F))])else .wall)=_;rw[if_pos u8,yi (by decide +kernel),yi (by decide +kernel),bJ];rfl
def c6.MD(g:c6 o W h)(e:z5 h (sk z)=some y)(hz:z≠o):∃w∈W,w.2.1=z/\∃x,z5 h (sk w.1)=some x/\x+w.2.2=y:=by
 rcases g.1.sup _ _ e with c|⟨w,b,a,x,d,le⟩
 .exact absurd (a1y c) hz
 .have a:=a1y a;obtain⟨j,f,i⟩:=g.2 w b x d;rw[a,e]at f;cases f;exact⟨w,b,a,x,d,by omega⟩
def MF:Option Int->PV
 |none=>.n
 |some x=>.i x
def P4(d:a ρ=.ok (.d (hD h)))(c:b ρ=.ok (.s z)):RZ a b ρ=.ok (MF (z5 h (sk z))):=by unfold RZ;rw[d,okb];show(b ρ).bind (Mb (hD h))=_;rw[c,okb];show Out.ok ((z5 (hD h) (sk z)).getD .n)=_;rw[Di];cases z5 h (sk z)<;>rfl
def zbg(e:a ρ=.ok (.d (pP N F)))(c:b ρ=.ok (.s o))(d:o∈N):mOp pIx a b ρ=.ok (.d (hD (F o))):=by refine zq e c ?_;show j8 (z5 (pP N F) (sk o))=_;rw[MB d];rfl
def Uk(a:o∈N)(b:g∈N):zx [roP N W F,.s o,.s g]=.ok (MF (z5 (F o) (sk g))):=by have q:=Dr (m:=zd 0) (ρ:=[some (roP N W F),some (.s o),some (.s g)]) (N:=N) (W:=W) (F:=F) rfl;exact zC (zc ⟨_,ym (zw (xs:=[.s o,.l (N.map .s)]) (zp rfl (zp q.1 rfl)) (placeOk a)),zc ⟨_,ym (zw (xs:=[.s g,.l (N.map .s)]) (zp rfl (zp q.1 rfl)) (placeOk b)),Yx (P4 (zbg q.2 rfl a) rfl)⟩⟩)
def lN(ha:a ρ=.ok (roP N W F))(hm:ms ρ=.ok xs)(h1:(nm==("places":Str))=false)(h2:(nm==("ways":Str))=false)(h3:(nm==("lengths":Str))=false)(h:f (roP N W F::xs)=.ok x):yE [(11,f)] nm a ms ρ=.ok x:=by unfold yE;rw[ha,okb];show(if(List.lookup nm [("places",PV.l (N.map .s)),("ways",.l (W.map wP)),("lengths",.d (pP N F))]).isSome=true then Out.wall else(ms ρ).bind λxs=>f (roP N W F::xs))=_;rw[yi h1,yi h2,yi h3,Q4,if_neg (by intro z;cases z),hm,okb];exact h
def uX(a:ms ρ=.ok [.s x,.s y])(b:m ρ=.ok (.dt L)):z9 (CF n ms m) ρ=.ok (xor n (z5 L [sk x,sk y]).isSome):=by refine zU ?_;unfold CF;rw[a];show(m ρ).bind (inT n [sk x,sk y])=_;rw[b];rfl
def gw(b:m ρ=.ok (.dt L))(a:ms ρ=.ok [.s x,.s y])(e:z5 L [sk x,sk y]=some v):ny m ms ρ=.ok (.i v):=by unfold ny;rw[b,okb,a,okb];show j8 ((z5 L [sk x,sk y]).map PV.i)=_;rw[e];rfl
abbrev Lst:=List (List Key×Int)
def Kw(h:0<=k):∃x:Int,z4 [.sc ns,.i k]=.ok (.i x):=by
 suffices h:∃x:Int,Y5 [some (.sc ns),some (.i k)]=.ok (.rt (.i x))from h.imp λ_ e=>zC e
 have t:=ya (ρ:=[some (.sc ns),some (.i k)]) (a:=je (mOp pIx (zd 0) (zd 1))) (b:=zR) (zU (m:=mOp pLt (zd 1) (zi Yo (zb (zd 0) zk))) (b:=decide (k<(ns.length:Int))) (zq rfl (zw (xs:=[.sc ns]) rfl rfl) rfl));by_cases c:k<ns.length
 .rw[a0f c]at t;have e:pIx (.sc ns) (.i k)=.ok (.i (ns[k.toNat]'(by omega))):=by show j8 ((atI ns k).map PV.i)=_;rw[Co h,a0n (by omega)];rfl
  exact⟨_,Q3 (t.trans (Yx (zq rfl rfl e)))⟩
 .rw[a0k c]at t;exact⟨0,zc ⟨_,t,rfl⟩⟩
def Qb(h:0<=k)(hp:0<p):∃x:Int,0<=x/\yh [.sc ns,.i k,.i p]=.ok (.i x):=by obtain⟨c,e⟩:=Kw (ns:=ns) h;have b:=a0H c (show(1000000007:Int)≠0 by decide);have d:=a0C c (show(0:Int)<1000000007 by decide);have a:mOp zQ (zi z4 (zb (zd 0) (zb (zd 1) zk))) (mC (.i 1000000007)) [some (.sc ns),some (.i k),some (.i p)]=.ok (.i (c % 1000000007)):=vm (zw (xs:=[.sc ns,.i k]) rfl e) (by decide);exact⟨_,a0H _ (by omega),zC (Yx (zq (zq a rfl (fR (by omega) (by omega))) rfl (wc hp)))⟩
def uY(r:a4k):Str:=⟨(r.map λi=>(signs.cps.toList[i.toNat]?).getD 0).toArray⟩
def Xr:(uY r).length=r.length:=by show((r.map λi=>(signs.cps.toList[i.toNat]?).getD 0).toArray).size=_;rw[a0o,v4]
def JB:uY (i::r)=sgn i++uY r:=by show(⟨((signs.cps.toList[i.toNat]?).getD 0::r.map λi=>(signs.cps.toList[i.toNat]?).getD 0).toArray⟩:Str)=⟨#[(signs.cps.toList[i.toNat]?).getD 0]++(r.map λi=>(signs.cps.toList[i.toNat]?).getD 0).toArray⟩;rw[List.toArray_cons]
theorem uZ:∀{r c:a4k},(∀i∈r,0<=i/\i<36)->(∀i∈c,0<=i/\i<36)->uY r=uY c->r=c
 |[],[],_,_,_=>rfl
 |[],_::_,_,_,h=>by have:=a0O Str.length h;rw[Xr,Xr]at this;cases this
 |_::_,[],_,_,h=>by have:=a0O Str.length h;rw[Xr,Xr]at this;cases this
 |i::r,j::c,l,g,h=>by rw[JB,JB]at h;obtain⟨a,b⟩:=str_inj (a:=sgn i) (a':=sgn j) rfl h;have f:=l i u8;have e:=g j u8;rw[Mz f.1 f.2 e.1 e.2 a,uZ (λx d=>l x (a0a _ d)) (λx d=>g x (a0a _ d)) b]
theorem u6:∀{r:a4k},(∀i∈r,0<=i/\i<36)->Sgs (uY r)
 |[],_=>λc b=>by have:(uY []).cps.toList=[]:=rfl;rw[this]at b;cases b
 |i::r,h=>by rw[JB];have a:=h i u8;exact(Sgs.sgn a.1 a.2).app (u6 λx d=>h x (a0a _ d))
theorem oI:∀(r:a4k)(a:a4x),(r.map sgn).foldl (λb p=>b++(Str.ofString "").cps++p.cps) a=a++(uY r).cps
 |[],a=>by show a=a++#[];rw[a30]
 |i::r,a=>by rw[a0j,a1t,oI r,JB];show a++#[]++(sgn i).cps++(uY r).cps=a++((sgn i).cps++(uY r).cps);rw[a30,a3O]
def F6:Txt.join "" (r.map sgn)=uY r:=by
 cases r with
 |nil=>rfl
 |cons i r=>show(⟨(r.map sgn).foldl (λa p=>a++(Str.ofString "").cps++p.cps) (sgn i).cps⟩:Str)=_;rw[oI,JB];rfl
theorem u7:∀{r:a4k},((r.map sgn).map (λt:Str=>t.length)).sum=r.length
 |[]=>rfl
 |i::r=>by rw[a0j,a0j,a2r,u7,a0b];show 1+_=_;omega
def MH(h:m ρ=.ok (.l ((r.map sgn).map .s)))(b:r.length<=1000):RY iF (mC (.s "")) m ρ=.ok (.s (uY r)):=by
 show(m ρ).bind (iF "")=_;rw[h,okb];show(match AZ ((r.map sgn).map .s)with
  |some (a:a40)=>if(a.map (λt:Str=>t.length)).sum+a.length*("":Str).length<=16777216 then Out.ok (PV.s (Txt.join "" a))else .wall
  |none=>.wall)=_
 rw[iE];show(if _ then _ else _)=_;have z:("":Str).length=0:=rfl;rw[if_pos (by rw[u7,z];omega),F6]
def F7{a:Type}{xs:List a}(h:0<=i):mz xs none (some i)=xs.take i.toNat:=by
 unfold mz;show List.take ((if i<0 then(i+(xs.length:Int)).toNat else min i.toNat xs.length)-0) (xs.drop 0)=_;rw[if_neg (by omega),Nat.sub_zero,List.drop_zero];by_cases c:i.toNat<=xs.length
 .rw[Nat.min_eq_left c]
 .rw[Nat.min_eq_right (by omega),a1R (a0e _),a1R (by omega)]
def Ds{a:Type}{xs:List a}{i:Int}(h:0<=i)(b:i<=xs.length):mz xs (some i) none=xs.drop i.toNat:=by unfold mz;show List.take (xs.length-(if i<0 then(i+(xs.length:Int)).toNat else min i.toNat xs.length)) (xs.drop (if i<0 then(i+(xs.length:Int)).toNat else min i.toNat xs.length))=_;rw[if_neg (by omega),Nat.min_eq_left (by omega),a1R (by rw[a1x];omega)]
def ZJ(sg:a4k)(c:Int)(k:Nat):List Int:=sg.take (1+c % 11).toNat++if k % 2=1 then sg.drop 11 else[]
def MJ(sg:a4k)(c w:Int)(k:Nat):List Int:=(ZJ sg c k).set (w / 4 % ((ZJ sg c k).length:Int)).toNat ((((ZJ sg c k)[(w / 4 % ((ZJ sg c k).length:Int)).toNat]?).getD 0+k) % 36)
def rowOf(sg:a4k)(c w:Int)(n k:Nat):List Int:=
 if w % 4=1/\n<=12 then sg.take (1+k)else if w % 4=2/\n<=12 then sg.take (n-k)else MJ sg c w k
def bc(h:sg.length=12):((ZJ sg c k).length:Int)=1+c % 11+(k % 2:Nat):=by
 have a:=a0H c (show(11:Int)≠0 by decide);have b:=a0C c (show(0:Int)<11 by decide);unfold ZJ;rw[a0g,a00,h];have:k % 2=0\/k % 2=1:=by omega
 rcases this with e|e
 .rw[if_neg (by omega)];show((min _ 12+0:Nat):Int)=_;omega
 .rw[if_pos e,a1x,h];omega
def F8(h:i∈ZJ sg c k):i∈sg:=by
 unfold ZJ at h;rcases a0A.mp h with h|h
 .exact a2G h
 .split at h
  .exact List.mem_of_mem_drop h
  .cases h
def F9(h:j % 2=k % 2):ZJ sg c j=ZJ sg c k:=by unfold ZJ;rw[h]
def u9(h:∀i∈sg,0<=i/\i<36):∀i∈rowOf sg c w n k,0<=i/\i<36:=λi a=>by
 unfold rowOf at a;split at a
 .exact h i (a2G a)
 .split at a
  .exact h i (a2G a)
  .rcases List.mem_or_eq_of_mem_set a with q|q
   .exact h i (F8 q)
   .rw[q];exact⟨a0H _ (by decide),a0C _ (by decide)⟩
def Dt(h:sg.length=12)(d:k<n):1<=(rowOf sg c w n k).length/\(rowOf sg c w n k).length<=12:=by
 have a:=a0H c (show(11:Int)≠0 by decide);have b:=a0C c (show(0:Int)<11 by decide);have:=bc (c:=c) (k:=k) h;unfold rowOf;split
 .rw[a00,h];omega
 .split
  .rw[a00,h];omega
  .unfold MJ;rw[a0V];omega
def MK(h:sg.length=12)(r:n<=16)(u:j<n)(y:k<n)(e:rowOf sg c w n j=rowOf sg c w n k):j=k:=by
 have m:=a0H c (show(11:Int)≠0 by decide);have x:=a0C c (show(0:Int)<11 by decide);have i:=bc (c:=c) (k:=j) h;have o:=bc (c:=c) (k:=k) h;unfold rowOf at e;have a:=a0O List.length e;by_cases d:w % 4=1/\n<=12
 .rw[if_pos d,if_pos d,a00,a00,h]at a;omega
 .rw[if_neg d,if_neg d]at a e;by_cases b:w % 4=2/\n<=12
  .rw[if_pos b,if_pos b,a00,a00,h]at a;omega
  .rw[if_neg b,if_neg b]at a e;unfold MJ at a e;rw[a0V,a0V]at a;have p:j % 2=k % 2:=by omega
   rw[F9 (sg:=sg) (c:=c) p]at e i;have v:=a0H (w / 4) (show((ZJ sg c k).length:Int)≠0 by omega);have z:=a0C (w / 4) (show(0:Int)<((ZJ sg c k).length:Int) by omega);have g:(w / 4 % ((ZJ sg c k).length:Int)).toNat<(ZJ sg c k).length:=by omega
   generalize(w / 4 % ((ZJ sg c k).length:Int)).toNat=s at e g;have f:=a0O (λl:List Int=>l[s]?) e;replace f:((ZJ sg c k).set s ((((ZJ sg c k)[s]?).getD 0+(j:Int)) % 36))[s]?=((ZJ sg c k).set s ((((ZJ sg c k)[s]?).getD 0+(k:Int)) % 36))[s]?:=f;rw[a0E g,a0E g]at f;have q:=a0T f;omega
def sL(sg:a4k)(c w:Int)(n k:Nat):List Str:=(List.range k).map λk=>uY (rowOf sg c w n k)
def mulL(a:0<=b)(d:b<=1)(c:xs.length<=100):Ky (.l xs) (.i b)=.ok (.l (List.replicate b.toNat xs).flatten):=by
 have:b.toNat=0\/b.toNat=1:=by omega
 exact if_pos ⟨by omega,by omega,a0y (m:=100) (by rcases this with e|e<;>rw[e]<;>omega) (by decide)⟩
def oJ(h:ρ[i]?=some (some (.l xs)))(a:m ρ=.ok y)(b:xs.length<100000):X3 i m ρ=.ok (.nx (ρ.set i (some (.l (xs++[y]))))):=by unfold X3;rw[h];show(m ρ).bind _=_;rw[a,okb,if_pos (a0u b (by decide))]
abbrev nSt(ns:a4k)(a:Int)(n:Nat)(c w:Int)(sg:a4k)(k:Nat)(x y z:a4g):Sto:=[some (.sc ns),some (.i a),some (.i (n:Int)),some (.s signs),some (.i c),some (.l (sg.map .i)),some (.i w),some (.l ((sL sg c w n k).map .s)),x,y,z]
def F_(h:sg.length=12)(I:∀i∈sg,0<=i/\i<36)(J:k<n)(S:n<=16):∃G M L,Y7 (nSt ns a n c w sg k (some (.i (k:Int))) y z)=.ok (.nx (nSt ns a n c w sg (k+1) G M L)):=by
 have O:=a0H c (show(11:Int)≠0 by decide);have Q:=a0C c (show(0:Int)<11 by decide);have T:=bc (c:=c) (k:=k) h
 -- the row
 have N:z8 9 (mOp Fp (zi Ys (zb (mSl pSl (zd 5) my (Yq (mOp z0 (mC (.i 1)) (mOp zQ (zd 4) (mC (.i 11)))))) zk)) (mOp Ky (mSl pSl (zd 5) (Yq (mC (.i 11))) my) (mOp zQ (zd 8) (mC (.i 2))))) (nSt ns a n c w sg k (some (.i (k:Int))) y z)=.ok (.nx (nSt ns a n c w sg k (some (.i (k:Int))) (some (.l ((ZJ sg c k).map .i))) z)):=by
  have l:mSl pSl (zd 5) my (Yq (mOp z0 (mC (.i 1)) (mOp zQ (zd 4) (mC (.i 11))))) (nSt ns a n c w sg k (some (.i (k:Int))) y z)=.ok (.l ((sg.take (1+c % 11).toNat).map .i)):=by unfold mSl;rw[show zd 5 (nSt ns a n c w sg k (some (.i (k:Int))) y z)=.ok (.l (sg.map .i))from rfl,okb,show my (nSt ns a n c w sg k (some (.i (k:Int))) y z)=.ok none from rfl,okb,TL (zq rfl (vm rfl (by decide)) rfl),okb];show Out.ok (PV.l (mz (sg.map PV.i) none (some (1+c % 11))))=_;rw[F7 (by omega),a18]
  have H:mSl pSl (zd 5) (Yq (mC (.i 11))) my (nSt ns a n c w sg k (some (.i (k:Int))) y z)=.ok (.l ((sg.drop 11).map .i)):=by show Out.ok (PV.l (mz (sg.map PV.i) (some 11) none))=_;rw[Ds (by decide) (by rw[v4];omega),a2T];rfl
  refine zK (zq (zw (zp l rfl) rfl) (zq H (vm rfl (by decide)) (z:=.l ((if k % 2=1 then sg.drop 11 else[]).map .i)) ?_) ?_)
  .have:k % 2=0\/k % 2=1:=by omega
   rw[mulL (by omega) (by omega) (by rw[v4,a1x];omega)];rcases this with e|e
   .rw[if_neg (by omega),show((k:Int) % 2).toNat=0 by omega];rfl
   .rw[if_pos e,show((k:Int) % 2).toNat=1 by omega];show Out.ok (PV.l ((sg.drop 11).map PV.i++[]))=_;rw[a0s]
  .show(if _ then _ else _)=_;have R:(if k % 2=1 then sg.drop 11 else[]).length<=1:=by
    split
    .rw[a1x];omega
    .exact a0Y _
   rw[if_pos (a0y (m:=100) (by rw[v4,v4,a00];omega) (by decide)),<- a0z];rfl
 have s:=a0H (w / 4) (show((ZJ sg c k).length:Int)≠0 by omega);have u:=a0C (w / 4) (show(0:Int)<((ZJ sg c k).length:Int) by omega);have f:(w / 4 % ((ZJ sg c k).length:Int)).toNat<(ZJ sg c k).length:=by omega
 have K:x_ 9 (zd 10) (mOp zQ (mOp z0 (mOp pIx (zd 9) (zd 10)) (zd 8)) (mC (.i 36))) (nSt ns a n c w sg k (some (.i (k:Int))) (some (.l ((ZJ sg c k).map .i))) (some (.i (w / 4 % ((ZJ sg c k).length:Int)))))=.ok (.nx (nSt ns a n c w sg k (some (.i (k:Int))) (some (.l ((MJ sg c w k).map .i))) (some (.i (w / 4 % ((ZJ sg c k).length:Int)))))):=by
  have l:mOp pIx (zd 9) (zd 10) (nSt ns a n c w sg k (some (.i (k:Int))) (some (.l ((ZJ sg c k).map .i))) (some (.i (w / 4 % ((ZJ sg c k).length:Int)))))=.ok (.i (((ZJ sg c k)[(w / 4 % ((ZJ sg c k).length:Int)).toNat]?).getD 0)):=by refine zq rfl rfl ((oG s (by rw[v4];exact u)).trans ?_);rw[a08,a0n f];rfl
  unfold x_;rw[vm (zq l rfl rfl) (by decide),okb];show(match ixN ((ZJ sg c k).map PV.i).length (w / 4 % ((ZJ sg c k).length:Int))with
   |some j=>Out.ok (Fw.nx _)
   |none=>.wall)=_
  rw[show ixN ((ZJ sg c k).map PV.i).length (w / 4 % ((ZJ sg c k).length:Int))=some (w / 4 % ((ZJ sg c k).length:Int)).toNat by unfold ixN;rw[v4,if_pos s,if_pos u]];show Out.ok (Fw.nx (nSt ns a n c w sg k (some (.i (k:Int))) (some (.l (((ZJ sg c k).map PV.i).set _ (PV.i _)))) _))=_;rw[<- List.map_set];rfl
 have D:sIf (fP (z9 (mOp (ke false) (mOp zQ (zd 6) (mC (.i 4))) (mC (.i 1)))) (z9 (mOp pLe (zd 2) (mC (.i 12))))) (z8 9 (mSl LD (zd 5) my (Yq (mOp z0 (mC (.i 1)) (zd 8))))) zR (nSt ns a n c w sg k (some (.i (k:Int))) (some (.l ((MJ sg c w k).map .i))) (some (.i (w / 4 % ((ZJ sg c k).length:Int)))))=.ok (.nx (nSt ns a n c w sg k (some (.i (k:Int))) (some (.l ((if w % 4=1/\n<=12 then sg.take (1+k)else MJ sg c w k).map .i))) (some (.i (w / 4 % ((ZJ sg c k).length:Int)))))):=by
  refine(ya (x:=decide (w % 4=1)&&decide ((n:Int)<=12)) (Yw (gq (vm rfl (by decide))) (zU (zq rfl rfl rfl)))).trans ?_;by_cases b:w % 4=1/\n<=12
  .rw[if_pos (by rw[a0f b.1,a0f (show(n:Int)<=12 by omega)];rfl),if_pos b];refine(zK (x:=.l ((sg.take (1+k)).map .i)) ?_);show Out.ok (PV.l (mz (sg.map PV.i) none (some (1+(k:Int)))))=_;rw[F7 (by omega),a18,show(1+(k:Int)).toNat=1+k by omega]
  .rw[if_neg (λq=>b (by obtain⟨x,y⟩:=(a1G _ _).mp q;exact⟨a0Q x,by have:=a0Q y;omega⟩)),if_neg b];rfl
 have F:sIf (fP (z9 (mOp (ke false) (mOp zQ (zd 6) (mC (.i 4))) (mC (.i 2)))) (z9 (mOp pLe (zd 2) (mC (.i 12))))) (z8 9 (mSl LD (zd 5) my (Yq (mOp WH (zd 2) (zd 8))))) zR (nSt ns a n c w sg k (some (.i (k:Int))) (some (.l ((if w % 4=1/\n<=12 then sg.take (1+k)else MJ sg c w k).map .i))) (some (.i (w / 4 % ((ZJ sg c k).length:Int)))))=.ok (.nx (nSt ns a n c w sg k (some (.i (k:Int))) (some (.l ((rowOf sg c w n k).map .i))) (some (.i (w / 4 % ((ZJ sg c k).length:Int)))))):=by
  refine(ya (x:=decide (w % 4=2)&&decide ((n:Int)<=12)) (Yw (gq (vm rfl (by decide))) (zU (zq rfl rfl rfl)))).trans ?_;unfold rowOf;by_cases b:w % 4=2/\n<=12
  .rw[if_pos (by rw[a0f b.1,a0f (show(n:Int)<=12 by omega)];rfl),if_neg (show ¬(w % 4=1/\n<=12) by omega),if_neg (show ¬(w % 4=1/\n<=12) by omega),if_pos b];refine(zK (x:=.l ((sg.take (n-k)).map .i)) ?_);show Out.ok (PV.l (mz (sg.map PV.i) none (some ((n:Int)-(k:Int)))))=_;rw[F7 (by omega),a18,show((n:Int)-(k:Int)).toNat=n-k by omega]
  .rw[if_neg (λq=>b (by obtain⟨x,y⟩:=(a1G _ _).mp q;exact⟨a0Q x,by have:=a0Q y;omega⟩)),if_neg b];rfl
 have P:=Dt (c:=c) (w:=w) h J;have A:=u9 (c:=c) (w:=w) (n:=n) (k:=k) I;have B:lcP Z9 Z_ Ya ((rowOf sg c w n k).map .i) [none,some (.s signs)] []=.ok (.l (((rowOf sg c w n k).map sgn).map .s)):=by rw[a0L];refine qD (λi:Int=>PV.i i) (λi:Int=>PV.s (sgn i)) (λd=>∃o,d=[o,some (.s signs)]) _ _ ⟨none,rfl⟩ (λi v d ⟨o,C⟩=>?_) (by omega);subst C;exact⟨_,rfl,⟨_,rfl⟩,zq rfl rfl (P0 (A i v).1 (A i v).2)⟩
 have E:(sL sg c w n k).map PV.s++[PV.s (uY (rowOf sg c w n k))]=(sL sg c w n (k+1)).map .s:=by unfold sL;rw[List.range_succ,a0z,a0z];rfl
 have p:=oJ (i:=7) (ρ:=nSt ns a n c w sg k (some (.i (k:Int))) (some (.l ((rowOf sg c w n k).map .i))) (some (.i (w / 4 % ((ZJ sg c k).length:Int))))) rfl (MH (r:=rowOf sg c w n k) (Zd (mi:=zS (zd 9)) (fr:=[none,some 3]) (g:=Z9) (c:=Z_) (e:=Ya) (zA rfl) B) (by omega)) (by rw[v4,sL,v4,a02];omega);rw[E]at p;exact⟨_,_,_,zc ⟨_,N,zc ⟨_,zK (zq (c4 rfl (by decide) (by decide)) (zw (xs:=[.l ((ZJ sg c k).map .i)]) rfl Yy) (wc (by omega))),zc ⟨_,K,zc ⟨_,D,zc ⟨_,F,p⟩⟩⟩⟩⟩⟩
def oK(G:0<=a)(u:n<=16):∃N:List Str,N.length=n/\N.Nodup/\(∀z∈N,Nm z)/\jx [.sc ns,.i a,.i (n:Int)]=.ok (.l (N.map .s)):=by
 obtain⟨q,ec⟩:=Kw (ns:=ns) G;obtain⟨w,L,I⟩:=Qb (ns:=ns) (k:=a+1) (p:=65537) (by omega) (by decide);have E:=a0H q (show(1000000007:Int)≠0 by decide);have J:=a0C q (show(0:Int)<1000000007 by decide);have A:z8 4 (mOp zQ (zi z4 (zb (zd 0) (zb (zd 1) zk))) (mC (.i 1000000007))) [some (.sc ns),some (.i a),some (.i (n:Int)),some (.s signs),none,none,none,none,none,none,none]=.ok (.nx [some (.sc ns),some (.i a),some (.i (n:Int)),some (.s signs),some (.i (q % 1000000007)),none,none,none,none,none,none]):=zK (vm (zw (xs:=[.sc ns,.i a]) rfl ec) (by decide));generalize q % 1000000007=c at E J A;have d:∀i∈(List.range 12).map (λj:Nat=>(c*16807+7919*(j:Int)*j) % 65521 % 36),0<=i/\i<36:=λi F=>by obtain⟨j,_,rfl⟩:=a0S.mp F;exact⟨a0H _ (by decide),a0C _ (by decide)⟩
 have v:z8 5 (mLC (V4 (zb (mC (.i 12)) zk)) [none,some 4] K2 K3 K4) [some (.sc ns),some (.i a),some (.i (n:Int)),some (.s signs),some (.i c),none,none,none,none,none,none]=.ok (.nx [some (.sc ns),some (.i a),some (.i (n:Int)),some (.s signs),some (.i c),some (.l (((List.range 12).map (λj:Nat=>(c*16807+7919*(j:Int)*j) % 65521 % 36)).map .i)),none,none,none,none,none]):=by refine zK (Zd (bM (n:=12) rfl (by decide)) ?_);rw[uq,a0L];refine qD (λk:Nat=>PV.i (k:Int)) (λj:Nat=>PV.i ((c*16807+7919*(j:Int)*j) % 65521 % 36)) (λm=>∃o,m=[o,some (.i c)]) _ _ ⟨none,rfl⟩ (λj r m ⟨o,B⟩=>?_) (by decide);subst B;have r:=a1p.mp r;exact⟨_,rfl,⟨_,rfl⟩,vm (vm (zq (zq rfl rfl (fR (by omega) (by omega))) (zq (zq rfl rfl (fR (by decide) (by decide))) rfl (fR (by omega) (by omega))) rfl) (by decide)) (by decide)⟩
 have f:((List.range 12).map (λj:Nat=>(c*16807+7919*(j:Int)*j) % 65521 % 36)).length=12:=by rw[v4,a02]
 generalize(List.range 12).map (λj:Nat=>(c*16807+7919*(j:Int)*j) % 65521 % 36)=sg at v d f;obtain⟨C,⟨x,y,z,l⟩,D⟩:=YL (g:=Xd) (b:=Y7) (λk m=>∃x y z,m=nSt ns a n c w sg k x y z) n (nSt ns a n c w sg 0 none none none) ⟨_,_,_,rfl⟩ (λk h m ⟨x,y,z,l⟩=>by
  subst l;obtain⟨K,O,M,e⟩:=F_ (ns:=ns) (a:=a) (c:=c) (w:=w) (y:=y) (z:=z) f d h u;exact⟨_,rfl,_,⟨_,_,_,rfl⟩,.inl e⟩)
 subst l;refine⟨sL sg c w n n,by unfold sL;rw[v4,a02],nodup_range λj k r h e=>MK f u r h (uZ (u9 d) (u9 d) e),λs H=>?_,zC (zc ⟨_,rfl,zc ⟨_,A,zc ⟨_,v,zc ⟨_,zK (zw (xs:=[.sc ns,.i (a+1),.i 65537]) rfl I),zc ⟨_,rfl,zc ⟨_,yZ (bM (n:=n) rfl (by omega)) D,rfl⟩⟩⟩⟩⟩⟩)⟩;obtain⟨k,h,rfl⟩:=a0S.mp H;have h:=a1p.mp h;have:=Dt (c:=c) (w:=w) f h;exact⟨by rw[Xr];exact this,u6 (u9 d)⟩
def WS(N:a40)(W:List Wy):Prop:=∀w∈W,w.1∈N/\w.2.1∈N/\1<=w.2.2/\w.2.2<=200000000
def WS.ok(h:WS N W):WOk N W:=λw e=>by obtain⟨a,b,c,d⟩:=h w e;exact⟨a,b,c,by omega⟩
def WS.app(h:WS N W)(d:a∈N)(e:g∈N)(f:1<=m)(c:m<=200000000):WS N (W++[(a,g,m)]):=λw b=>by
 rcases a0A.mp b with b|b
 .exact h w b
 .rw[a0l.mp b];exact⟨d,e,f,c⟩
abbrev wSt(ns:a4k)(a:Int)(N:a40)(f:Int)(W:List Wy)(x y:a4g):Sto:=[some (.sc ns),some (.i a),some (.l (N.map .s)),some (.i (N.length:Int)),some (.i f),some (.l (W.map wP)),x,y]
def Du(h:m (wSt ns a N f W x y)=.ok (.t [.s o,.s g,.i n]))(b:W.length<1000):X3 5 m (wSt ns a N f W x y)=.ok (.nx (wSt ns a N f (W++[(o,g,n)]) x y)):=by refine(oJ rfl h (by rw[v4];omega)).trans ?_;show Out.ok (Fw.nx [some (.sc ns),some (.i a),some (.l (N.map .s)),some (.i (N.length:Int)),some (.i f),some (.l (W.map wP++[wP (o,g,n)])),x,y])=_;rw[show W.map wP++[wP (o,g,n)]=(W++[(o,g,n)]).map wP by rw[a0z];rfl]
def ixD{xs:a40}{i:Int}(a:0<=i)(b:i<xs.length):pIx (.l (xs.map .s)) (.i i)=.ok (.s (xs.getD i.toNat "")):=by rw[oG a (by rw[v4];exact b),a08,a01,a0n (by omega)];rfl
def inD{xs:a40}{k:Nat}(h:k<xs.length):xs.getD k ""∈xs:=by rw[a01,a0n h];exact a04 _
def Ring(N:a40)(W:List Wy)(n:Nat):Prop:=∀k,k<n->∃m,(N.getD k "",N.getD ((k+1) % N.length) "",m)∈W
def Ga(Q:0<=a)(C:0<N.length)(h1:N.length<=12):∃W:List Wy,W.length<=N.length+8/\WS N W/\Ring N W N.length/\v5 [.sc ns,.i a,.l (N.map .s)]=.ok (.l (W.map wP)):=by
 obtain⟨u,Z,X⟩:=Qb (ns:=ns) (k:=a) (p:=65521) Q (by decide);obtain⟨f,hf,P⟩:=uR (xs:=[60,60,3,200000000]) (i:=u % 4) (a0H _ (by decide)) (a0C _ (by decide));have hf:1<=f/\f<=200000000:=by simp only[List.mem_cons,List.not_mem_nil,or_false]at hf;omega
 have H:=λx:Int=>a0H x (show f≠0 by omega);have I:=λx:Int=>a0C x (show(0:Int)<f by omega);obtain⟨D,⟨G,J,L,l1,M,S,c⟩,Y⟩:=YL (g:=UL) (b:=UM) (λk h=>∃W x y,W.length=k/\WS N W/\Ring N W k/\h=wSt ns a N f W x y) N.length (wSt ns a N f [] none none) ⟨[],none,none,rfl,λw T=>(nomatch T),λk A=>absurd A (a2F _),rfl⟩ (λk A h ⟨W,x,y,F,l,d,c⟩=>by
  subst c;obtain⟨s,_,E⟩:=Qb (ns:=ns) (k:=a+k) (p:=65497) (by omega) (by decide);have:=H s;have:=I s;have r:(k+1) % N.length<N.length:=Nat.mod_lt _ C;have v:=ixD (xs:=N) (i:=(k:Int)) (by omega) (by omega);have U:((k:Int)+1) % (N.length:Int)=(((k+1) % N.length:Nat):Int):=by rw[Int.natCast_emod];rfl
  have B:=ixD (xs:=N) (i:=(((k+1) % N.length:Nat):Int)) (by omega) (by omega);rw[a2n]at v B;refine⟨_,rfl,_,⟨W++[(N.getD k "",N.getD ((k+1) % N.length) "",1+s % f)],some (.i (k:Int)),y,by rw[a0g,F];rfl,l.app (inD A) (inD r) (by omega) (by omega),λj K=>?_,rfl⟩,.inl (Du (Qa (zp (zq rfl rfl v) (zp (zq rfl (zq (zq rfl rfl rfl) rfl ((wc (by omega)).trans (a0O (λz=>Out.ok (PV.i z)) U))) B) (zp (zq rfl (zq (zw (xs:=[.sc ns,.i (a+k),.i 65497]) rfl E) rfl (wc (by omega))) rfl) rfl))) (a0m rfl)) (by omega))⟩;rcases Nat.lt_or_ge j k with q|q
  .obtain⟨m,r⟩:=d j q;exact⟨m,a0J _ r⟩
  .obtain rfl:j=k:=by omega
   exact⟨_,a0p _ (a0l.mpr rfl)⟩)
 subst c;obtain⟨D,⟨W,x,y,F,l,d,c⟩,e⟩:=YL (g:=UN) (b:=UO) (λk h=>∃W x y,W.length<=G.length+k/\WS N W/\Ring N W N.length/\h=wSt ns a N f W x y) 8 (wSt ns a N f G J L) ⟨G,J,L,a0e _,M,S,rfl⟩ (λk A h ⟨W,x,y,F,l,d,c⟩=>by
  subst c;obtain⟨s,E⟩:=Kw (ns:=ns) (k:=a+k) (by omega);obtain⟨o,O,v⟩:=c8 (N:=N) (s:=s) C;obtain⟨g,R,B⟩:=c8 (N:=N) (s:=s / (N.length:Int)) C;have:=H (s / 25);have:=I (s / 25);refine⟨_,rfl,_,⟨W++[(o,g,1+s / 25 % f)],some (.i (k:Int)),some (.i s),by rw[a0g];show W.length+1<=_;omega,l.app O R (by omega) (by omega),λj K=>(d j K).imp λm r=>a0J _ r,rfl⟩,.inl (zc ⟨wSt ns a N f W (some (.i (k:Int))) (some (.i s)),zK (zw (xs:=[.sc ns,.i (a+k)]) rfl E),Du (Qa (zp (zq rfl (zq rfl rfl (wc (by omega))) v) (zp (zq rfl (zq (zq rfl rfl (Ho (by omega) (by omega))) rfl (wc (by omega))) B) (zp (zq rfl (zq (c4 rfl (by decide) (by decide)) rfl (wc (by omega))) rfl) rfl))) (a0m rfl)) (by omega)⟩)⟩)
 subst c;exact⟨W,by omega,l,d,zC (zc ⟨_,zK (zw (xs:=[.l (N.map .s)]) rfl Yy),zc ⟨_,zK (zq (lL (xs:=[.i 60,.i 60,.i 3,.i 200000000]) rfl (a0m rfl)) (vm (zw (xs:=[.sc ns,.i a,.i 65521]) rfl X) (by decide)) P),zc ⟨_,rfl,zc ⟨_,yZ (bM (n:=N.length) rfl (by omega)) Y,zc ⟨_,yZ (bM (n:=8) rfl (by omega)) e,rfl⟩⟩⟩⟩⟩)⟩
def Dv(h:m ρ=.ok (.dt L))(a:ms ρ=.ok [.s x,.s y])(b:md ρ=.ok (.i n)):Ai m ms md ρ=.ok (.i ((z5 L [sk x,sk y]).getD n)):=by unfold Ai;rw[h,okb];show(ms ρ).bind _=_;rw[a,okb];show(md ρ).bind (Tu L [sk x,sk y])=_;rw[b,okb];rfl
def sO(h:ρ[i]?=some (some (.dt L)))(b:ms ρ=.ok [.s x,.s y])(c:mv ρ=.ok (.i n))(a:L.length<100000):nA i ms mv ρ=.ok (.nx (ρ.set i (some (.dt (dput L [sk x,sk y] n))))):=by unfold nA;rw[c,okb,h,b];show(if _ then _ else _)=_;exact if_pos (a0u a (by decide))
def u_{a b:Type}[DecidableEq a]{L:List (a×b)}{k:a}{v:b}:(dput L k v).length<=L.length+1:=by
 unfold dput;split
 .rw[v4];omega
 .rw[a0g];exact a0e _
def P5:([sk a,sk b]=[sk c,sk d])↔(a=c/\b=d):=by
 constructor
 .intro h;injection h with h1 h2
  injection h2 with h2 _
  exact⟨a1y h1,a1y h2⟩
 .rintro ⟨rfl,rfl⟩;rfl
inductive WkM(N:a40)(W:List Wy)(M:a40):Str->Str->Int->Prop
 |nil {a}:a∈N->WkM N W M a a 0
 |edge {w:Wy}:w∈W->WkM N W M w.1 w.2.1 w.2.2
 |via {a m b u v}:m∈M->WkM N W M a m u->WkM N W M m b v->WkM N W M a b (u+v)
section
variable {N M:a40}{W:List Wy}{L L' L0:Lst}{a b:Str}{u v:Int}
def WkM.nn(c:WS N W)(h:WkM N W M a b v):0<=v:=by
 induction h with
 |nil _=>exact a03 _
 |edge d=>have:=(c _ d).2.2.1;omega
 |via _ _ _ i j=>omega
def WkM.ends(c:WS N W)(h:WkM N W M a b v):a∈N/\b∈N:=by
 induction h with
 |nil h=>exact⟨h,h⟩
 |edge d=>exact⟨(c _ d).1,(c _ d).2.1⟩
 |via _ _ _ i j=>exact⟨i.1,j.2⟩
def WkM.split(E:∀z∈M',z∈M\/z=x)(c:WS N W)(h:WkM N W M' a b v):(∃u,u<=v/\WkM N W M a b u)\/∃s t,s+t<=v/\WkM N W M a x s/\WkM N W M x b t:=by
 induction h with
 |nil h=>exact .inl ⟨_,a03 _,.nil h⟩
 |edge B=>exact .inl ⟨_,a03 _,.edge B⟩
 |via o _ _ i j=>
  rcases E _ o with o|rfl
  .rcases i with⟨A,p,n⟩|⟨w,r,p,g,l⟩<;>rcases j with⟨D,q,f⟩|⟨C,y,q,e,d⟩
   .exact .inl ⟨_,by omega,.via o n f⟩
   .exact .inr ⟨_,_,by omega,.via o n e,d⟩
   .exact .inr ⟨_,_,by omega,g,.via o l f⟩
   .have:=l.nn c;have:=e.nn c;exact .inr ⟨_,_,by omega,g,d⟩
  .rcases i with⟨A,p,n⟩|⟨w,r,p,g,l⟩<;>rcases j with⟨D,q,f⟩|⟨C,y,q,e,d⟩
   .exact .inr ⟨_,_,by omega,n,f⟩
   .have:=e.nn c;exact .inr ⟨_,_,by omega,n,d⟩
   .have:=l.nn c;exact .inr ⟨_,_,by omega,g,f⟩
   .have:=l.nn c;have:=e.nn c;exact .inr ⟨_,_,by omega,g,d⟩
def at2(L:Lst)(a b:Str):Option Int:=z5 L [sk a,sk b]
def Snd(N:a40)(W:List Wy)(L:Lst):Prop:=∀a b v,at2 L a b=some v->WkM N W N a b v
def yU(L:Lst)(a b:Str)(v:Int):Prop:=∃u,u<=v/\at2 L a b=some u
def Dwn(L L':Lst):Prop:=∀a b v,at2 L a b=some v->yU L' a b v
def Cmp(N:a40)(W:List Wy)(M:a40)(L:Lst):Prop:=∀a b v,WkM N W M a b v->yU L a b v
def Dwn.refl:Dwn L L:=λ_ _ v h=>⟨v,a03 _,h⟩
def yU.dwn(h:yU L a b v)(d:Dwn L L'):yU L' a b v:=by obtain⟨u,l,e⟩:=h;obtain⟨w,f,c⟩:=d _ _ _ e;exact⟨w,by omega,c⟩
def Dwn.trans(d:Dwn L L')(d':Dwn L' L''):Dwn L L'':=λa b v h=>(d a b v h).dwn d'
def Gb(L:Lst)(a b:Str)(v:Int):Lst:=dput L [sk a,sk b] (min v ((z5 L [sk a,sk b]).getD v))
def c_:at2 (dput L [sk a,sk b] v) c d=if a=c/\b=d then some v else at2 L c d:=by
 unfold at2;rw[Zi];by_cases h:a=c/\b=d
 .rw[if_pos h,if_pos (P5.mpr h)]
 .rw[if_neg h,if_neg λe=>h (P5.mp e)]
def lO:Dwn L (Gb L a b v):=λc d w h=>by
 unfold Gb yU;rw[c_];by_cases q:a=c/\b=d
 .obtain⟨rfl,rfl⟩:=q;rw[if_pos ⟨rfl,rfl⟩];unfold at2 at h;rw[h];exact⟨_,Int.min_le_right _ _,rfl⟩
 .rw[if_neg q];exact⟨w,a03 _,h⟩
def Dw:yU (Gb L a b v) a b v:=by unfold Gb yU;rw[c_,if_pos ⟨rfl,rfl⟩];exact⟨_,Int.min_le_left _ _,rfl⟩
def xa(h:Snd N W L)(f:WkM N W N a b v):Snd N W (Gb L a b v):=λc d w e=>by
 unfold Gb at e;rw[c_]at e;split at e
 .rename_i q;obtain⟨rfl,rfl⟩:=q;cases e;cases g:z5 L [sk a,sk b]with
  |none=>rw[Option.getD_none,Int.min_self];exact f
  |some x=>
   rw[Option.getD_some];rcases a3W v x with l|l
   .rw[Int.min_eq_left l];exact f
   .rw[Int.min_eq_right l];exact h _ _ _ g
 .exact h _ _ _ e
def xb:(Gb L a b v).length<=L.length+1:=u_
abbrev lSt(N:a40)(W:List Wy)(L:Lst)(p q r s t z:a4g):Sto:=[some (.l (N.map .s)),some (.l (W.map wP)),some (.dt L),p,q,r,s,t,z]
variable {p q r s t z:a4g}
def TN(B:N.length<=12):∃L p,L.length<=N.length/\Snd N W L/\(∀x∈N,yU L x x 0)/\Zg wz wA (N.map .s) (lSt N W [] none q r s t z)=.ok (.nx (lSt N W L p q r s t z)):=by
 obtain⟨y,⟨L,p,l,j,n,rfl⟩,e⟩:=X4 (g:=wz) (b:=wA) PV.s (λk o=>∃L p,L.length<=k/\Snd N W L/\(∀x∈N.take k,yU L x x 0)/\o=lSt N W L p q r s t z) N (lSt N W [] none q r s t z) ⟨[],none,a0e _,λ_ _ _ e=>(nomatch(show(none:a4D)=some _ from e)),λx f=>(nomatch f),rfl⟩ (λk A o ⟨L,p,l,j,n,i⟩=>by
  subst i;refine⟨_,rfl,_,⟨dput L [sk N[k],sk N[k]] 0,some (.s N[k]),a0y u_ (by omega),λc d w e=>?_,λx f=>?_,rfl⟩,.inl (sO rfl rfl rfl (by omega))⟩
  .rw[c_]at e;split at e
   .rename_i h;obtain⟨rfl,rfl⟩:=h;cases e;exact .nil (a04 _)
   .exact j _ _ _ e
  .unfold yU;rw[c_];by_cases h:N[k]=x/\N[k]=x
   .rw[if_pos h];exact⟨0,a03 _,rfl⟩
   .rw[if_neg h];rw[a0W A]at f;rcases a0A.mp f with f|f
    .exact n x f
    .have:=a0l.mp f;exact absurd ⟨this.symm,this.symm⟩ h)
 exact⟨L,p,l,j,λx f=>n x (by rw[a1o];exact f),e⟩
def TQ(B:L0.length<=12)(A:W.length<=60)(o:Snd N W L0):∃L q r s,L.length<=L0.length+W.length/\Snd N W L/\Dwn L0 L/\(∀w∈W,yU L w.1 w.2.1 w.2.2)/\Zg wB wC (W.map wP) (lSt N W L0 p none none none t z)=.ok (.nx (lSt N W L p q r s t z)):=by
 obtain⟨n,⟨L,q,r,s,l,h,d,i,rfl⟩,e⟩:=X4 (g:=wB) (b:=wC) wP (λk j=>∃L q r s,L.length<=L0.length+k/\Snd N W L/\Dwn L0 L/\(∀w∈W.take k,yU L w.1 w.2.1 w.2.2)/\j=lSt N W L p q r s t z) W (lSt N W L0 p none none none t z) ⟨L0,none,none,none,a0e _,o,Dwn.refl,λx c=>(nomatch c),rfl⟩ (λk y j ⟨L,q,r,s,l,h,d,i,f⟩=>by
  subst f;refine⟨_,rfl,_,⟨Gb L W[k].1 W[k].2.1 W[k].2.2,some (.s W[k].1),some (.s W[k].2.1),some (.i W[k].2.2),a0y xb (by omega),xa h (.edge (a04 _)),d.trans lO,λx c=>?_,rfl⟩,.inl (sO rfl rfl (zw (zp rfl (zp (Dv rfl rfl rfl) rfl)) rfl) (by omega))⟩;rw[a0W y]at c;rcases a0A.mp c with c|c
  .exact(i x c).dwn lO
  .rw[a0l.mp c];exact Dw)
 exact⟨L,q,r,s,l,h,d,λx c=>i x (by rw[a1o];exact c),e⟩
end
section
variable {N M:a40}{W:List Wy}{L L' L0:Lst}{a b m:Str}{u v:Int}{p q r s t z:a4g}
def ML(h:Snd N W L)(A:m∈N)(g:L.length<100000):∃L' l,L'.length<=L.length+1/\Snd N W L'/\Dwn L L'/\(∀x y,yU L a m x->yU L m b y->yU L' a b (x+y))/\jU (lSt N W L p (some (.s a)) (some (.s b)) s (some (.s m)) z)=.ok (.nx (lSt N W L' p (some (.s a)) (some (.s b)) s (some (.s m)) l)):=by
 have e:=ya (ρ:=lSt N W L p (some (.s a)) (some (.s b)) s (some (.s m)) z) (a:=zI (z8 8 (mOp z0 (ny (zd 2) (zb (zd 4) (zb (zd 7) zk))) (ny (zd 2) (zb (zd 7) (zb (zd 5) zk))))) (nA 2 (zb (zd 4) (zb (zd 5) zk)) (zi bB (zb (zd 8) (zb (Ai (zd 2) (zb (zd 4) (zb (zd 5) zk)) (zd 8)) zk))))) (b:=zR) (Yw (uX (n:=false) (ms:=zb (zd 4) (zb (zd 7) zk)) (m:=zd 2) (x:=a) (y:=m) (L:=L) rfl rfl) (uX (n:=false) (ms:=zb (zd 7) (zb (zd 5) zk)) (m:=zd 2) (x:=m) (y:=b) (L:=L) rfl rfl));cases c:z5 L [sk a,sk m]with
 |none=>rw[c]at e;exact⟨L,z,a1m _,h,Dwn.refl,λx y ⟨_,_,q⟩ _=>(nomatch(c.symm.trans q)),e⟩
 |some x=>
  cases d:z5 L [sk m,sk b]with
  |none=>rw[c,d]at e;exact⟨L,z,a1m _,h,Dwn.refl,λx y _ ⟨_,_,q⟩=>(nomatch(d.symm.trans q)),e⟩
  |some y=>rw[c,d]at e;refine⟨Gb L a b (x+y),some (.i (x+y)),xb,xa h (.via A (h _ _ _ c) (h _ _ _ d)),lO,λC G ⟨i,D,j⟩ ⟨o,F,f⟩=>?_,e.trans (zc ⟨lSt N W L p (some (.s a)) (some (.s b)) s (some (.s m)) (some (.i (x+y))),zK (zq (gw rfl rfl c) (gw rfl rfl d) rfl),sO rfl rfl (zw (zp rfl (zp (Dv rfl rfl rfl) rfl)) rfl) g⟩)⟩;obtain⟨w,E,B⟩:=Dw (L:=L) (a:=a) (b:=b) (v:=x+y);cases(c.symm.trans j:some x=some i);cases(d.symm.trans f:some y=some o);exact⟨w,by omega,B⟩
def TR(C:Snd N W L0)(K:m∈N)(Q:N.length<=12)(O:L0.length<=10000):∃L d c,L.length<=L0.length+N.length/\Snd N W L/\Dwn L0 L/\(∀b∈N,∀x y,yU L0 a m x->yU L0 m b y->yU L a b (x+y))/\Zg wD jU (N.map .s) (lSt N W L0 p (some (.s a)) r s (some (.s m)) z)=.ok (.nx (lSt N W L p (some (.s a)) d s (some (.s m)) c)):=by
 obtain⟨D,⟨L,d,c,l,o,i,n,rfl⟩,e⟩:=X4 (g:=wD) (b:=jU) PV.s (λk A=>∃L d c,L.length<=L0.length+k/\Snd N W L/\Dwn L0 L/\(∀b∈N.take k,∀x y,yU L0 a m x->yU L0 m b y->yU L a b (x+y))/\A=lSt N W L p (some (.s a)) d s (some (.s m)) c) N (lSt N W L0 p (some (.s a)) r s (some (.s m)) z) ⟨L0,r,z,a0e _,C,Dwn.refl,λx f=>(nomatch f),rfl⟩ (λk H A ⟨L,d,c,l,o,i,n,w⟩=>by
  subst w;obtain⟨J,E,P,G,B,F,I⟩:=ML (a:=a) (b:=N[k]) (p:=p) (s:=s) (z:=c) o K (by omega);refine⟨_,rfl,_,⟨J,some (.s N[k]),E,by omega,G,i.trans B,λb h x y f j=>?_,rfl⟩,.inl I⟩;rw[a0W H]at h;rcases a0A.mp h with h|h
  .exact(n b h x y f j).dwn B
  .rw[a0l.mp h]at j ⊢;exact F x y (f.dwn i) (j.dwn i))
 exact⟨L,d,c,l,o,i,λx f=>n x (by rw[a1o];exact f),e⟩
def TU(D:Snd N W L0)(Q:m∈N)(P:N.length<=12)(R:L0.length<=5000):∃L h c f,L.length<=L0.length+N.length*12/\Snd N W L/\Dwn L0 L/\(∀a∈N,∀b∈N,∀x y,yU L0 a m x->yU L0 m b y->yU L a b (x+y))/\Zg wF wG (N.map .s) (lSt N W L0 p q r s (some (.s m)) z)=.ok (.nx (lSt N W L p h c s (some (.s m)) f)):=by
 obtain⟨E,⟨L,h,c,f,l,n,i,j,rfl⟩,e⟩:=X4 (g:=wF) (b:=wG) PV.s (λk w=>∃L h c f,L.length<=L0.length+k*12/\Snd N W L/\Dwn L0 L/\(∀a∈N.take k,∀b∈N,∀x y,yU L0 a m x->yU L0 m b y->yU L a b (x+y))/\w=lSt N W L p h c s (some (.s m)) f) N (lSt N W L0 p q r s (some (.s m)) z) ⟨L0,q,r,z,a0e _,D,Dwn.refl,λx d=>(nomatch d),rfl⟩ (λk J w ⟨L,h,c,f,l,n,i,j,o⟩=>by
  subst o;obtain⟨O,G,F,S,I,A,H,K⟩:=TR (a:=N[k]) (p:=p) (r:=c) (s:=s) (z:=f) n Q P (by omega);refine⟨_,rfl,_,⟨O,some (.s N[k]),G,F,by omega,I,i.trans A,λa ha b C x y d B=>?_,rfl⟩,.inl (yZ (zA rfl) K)⟩;rw[a0W J]at ha;rcases a0A.mp ha with ha|ha
  .exact(j a ha b C x y d B).dwn A
  .rw[a0l.mp ha]at d ⊢;exact H b C x y (d.dwn i) (B.dwn i))
 exact⟨L,h,c,f,l,n,i,λx d=>j x (by rw[a1o];exact d),e⟩
def TV(F:Snd N W L0)(C:WS N W)(Y:N.length<=12)(hl:L0.length<=100)(I:Cmp N W [] L0):∃L f d c i,L.length<=5000/\Snd N W L/\Cmp N W N L/\Zg wH wI (N.map .s) (lSt N W L0 p q r s t z)=.ok (.nx (lSt N W L p f d s c i)):=by
 obtain⟨G,⟨L,f,d,c,i,l,y,j,rfl⟩,e⟩:=X4 (g:=wH) (b:=wI) PV.s (λk D=>∃L f d c i,L.length<=100+k*144/\Snd N W L/\Cmp N W (N.take k) L/\D=lSt N W L p f d s c i) N (lSt N W L0 p q r s t z) ⟨L0,q,r,t,z,by omega,F,I,rfl⟩ (λk T D ⟨L,f,d,c,i,l,y,j,A⟩=>by
  subst A;obtain⟨X,E,K,J,l2,S,H,O,U⟩:=TU (m:=N[k]) (p:=p) (q:=f) (r:=d) (s:=s) (z:=i) y (a04 _) Y (by omega);refine⟨_,rfl,_,⟨X,E,K,some (.s N[k]),J,by omega,S,λa b v h=>?_,rfl⟩,.inl (yZ (zA rfl) U)⟩;obtain⟨P,R⟩:=h.ends C;rw[a0W T]at h;rcases h.split (M:=N.take k) (x:=N[k]) (λz hz=>(a0A.mp hz).imp id a0l.mp) C with⟨u,lu,w⟩|⟨s',c,le,Z,Q⟩
  .obtain⟨B,o,n⟩:=(j _ _ _ w).dwn H;exact⟨B,by omega,n⟩
  .obtain⟨B,o,n⟩:=O a P b R s' c (j _ _ _ Z) (j _ _ _ Q);exact⟨B,by omega,n⟩)
 rw[a1o]at j;exact⟨L,f,d,c,i,by omega,y,j,e⟩
def LOk(N:a40)(L:Lst)(F:Str->Ht):Prop:=(∀a∈N,∀b∈N,z5 L [sk a,sk b]=z5 (F a) (sk b))
def oM(w:WS N W)(g:c6 o W F)(h:WkM N W N a b v):∀x,z5 F (sk a)=some x->∃y,y<=x+v/\z5 F (sk b)=some y:=by
 induction h with
 |nil _=>intro x e;exact⟨x,by omega,e⟩
 |edge f=>intro x e;obtain⟨y,c,l⟩:=g.2 _ f x e;exact⟨y,l,c⟩
 |via _ _ _ i j=>intro x e;obtain⟨y,l,c⟩:=i x e;obtain⟨n,A,d⟩:=j y c;exact⟨n,by omega,d⟩
def de(h:WS N W)(g:c6 o W F)(i:o∈N):∀(n:Nat){z:Str}{y:Int},y.toNat<=n->z5 F (sk z)=some y->WkM N W N o z y:=by
 intro n
 induction n with
 |zero=>
  intro z y j e;by_cases hz:z=o
  .subst hz;cases(g.1.own.symm.trans e);exact .nil i
  .obtain⟨w,d,_,x,f,c⟩:=g.MD e hz;have:=(h w d).2.2.1;have:=g.1.pos _ _ f;omega
 |succ n l=>
  intro z y j e;by_cases hz:z=o
  .subst hz;cases(g.1.own.symm.trans e);exact .nil i
  .obtain⟨w,d,rfl,x,f,c⟩:=g.MD e hz;have A:=h w d;have:=g.1.pos _ _ f;rw[<- c];exact .via A.1 (l (by omega) f) (.edge d)
def sP(c:WS N W)(w:N.length<=12)(H:W.length<=60)(d:∀z,c6 z W (F z)):∃L,LOk N L F/\(∀a b v,at2 L a b=some v->a∈N/\b∈N)/\qP [.l (N.map .s),.l (W.map wP)]=.ok (.dt L):=by
 obtain⟨C,j,S,A,O,R⟩:=TN (N:=N) (W:=W) (q:=none) (r:=none) (s:=none) (t:=none) (z:=none) w;obtain⟨Q,x,D,g,a2,I,B,J,K⟩:=TQ (N:=N) (W:=W) (L0:=C) (p:=j) (t:=none) (z:=none) (by omega) H A;have E:Cmp N W [] Q:=λa b v h=>by
  cases h with
  |nil h=>exact(O _ h).dwn B
  |edge G=>exact J _ G
  |via h _ _=>cases h
 obtain⟨L,Y,r3,U,T,_,n,o,P⟩:=TV (p:=j) (q:=x) (r:=D) (s:=g) (t:=none) (z:=none) I c w (by omega) E;refine⟨L,λa i b Z=>?_,λa b v e=>(n a b v e).ends c,zC (zc ⟨_,rfl,zc ⟨_,yZ (zA rfl) R,zc ⟨_,yZ (zA rfl) K,zc ⟨_,yZ (zA rfl) P,rfl⟩⟩⟩⟩)⟩;cases e:z5 L [sk a,sk b]with
 |none=>
  cases f:z5 (F a) (sk b)with
  |none=>rfl
  |some y=>obtain⟨u,_,q⟩:=o _ _ _ (de c (d a) i _ (a0e _) f);cases(e.symm.trans q)
 |some v=>obtain⟨y,l,f⟩:=oM c (d a) (n _ _ _ e) 0 (d a).1.own;obtain⟨u,X,q⟩:=o _ _ _ (de c (d a) i _ (a0e _) f);cases(e.symm.trans q);rw[f,show y=v by omega]
def below(h:Ht)(y:Int):Nat:=(h.filter λp=>decide (p.2<y)).length
theorem xf{x y:Int}(l:x<=y):∀{h:Ht},below h x<=below h y
 |[]=>a0e _
 |p::h=>by
  have i:=xf l (h:=h);unfold below at i ⊢;rw[a0X,a0X];by_cases c:p.2<x
  .rw[if_pos (a0f c),if_pos (a0f (show p.2<y by omega))];exact a12 i
  .rw[if_neg (by rw[a0k c];decide)];split
   .exact a1D i
   .exact i
theorem xg{x y:Int}(l:x<y):∀{h:Ht}{k:Key},(k,x)∈h->below h x+1<=below h y
 |[],_,e=>by cases e
 |p::h,k,e=>by
  unfold below;rw[a0X,a0X];rcases a0r.mp e with e|e
  .subst e;rw[if_neg (by rw[a0k (show ¬x<x by omega)];decide),if_pos (a0f l)];exact a12 (xf (Int.le_of_lt l))
  .have i:=xg l e;unfold below at i;by_cases c:p.2<x
   .rw[if_pos (a0f c),if_pos (a0f (show p.2<y by omega))];exact a12 i
   .rw[if_neg (by rw[a0k c];decide)];split
    .exact a1D i
    .exact i
theorem oN{y:Int}:∀{h:Ht}{k:Key},(k,y)∈h->below h y+1<=h.length
 |[],_,e=>by cases e
 |p::h,k,e=>by
  unfold below;rw[a0X];rcases a0r.mp e with e|e
  .subst e;rw[if_neg (by rw[a0k (show ¬y<y by omega)];decide),a0b];exact a12 (a2v _ _)
  .have i:=oN e;unfold below at i;split
   .exact a12 i
   .exact a1D i
def oO(d:WS N W)(g:c6 o W F):∀(n:Nat){z:Str}{y:Int},y.toNat<=n->z5 F (sk z)=some y->y<=200000000*(below F y:Int):=by
 intro n
 induction n with
 |zero=>intro z y h e;have:=g.1.pos _ _ e;omega
 |succ n A=>
  intro z y h e;by_cases hz:z=o
  .subst hz;cases(g.1.own.symm.trans e);omega
  .obtain⟨w,f,rfl,x,c,l⟩:=g.MD e hz;have B:=d w f;have:=g.1.pos _ _ c;have i:=A (y:=x) (by omega) c;have j:=xg (x:=x) (y:=y) (by omega) (Kq c);omega
def Ay{F:Ht}{o:Str}(f:WS N W)(g:c6 o W F)(i:o∈N){z:Str}{y:Int}(e:z5 F (sk z)=some y):0<=y/\y+200000000<=200000000*(N.length:Int):=by
 have a:=oO f g _ (a0e _) e;have b:=oN (Kq e);have c:F.length<=N.length:=by
  have:=Xq (a:=F.map (·.1)) (b:=N.map sk) g.1.nd (λk d=>by
   rcases a0r.mp (g.1.sub k d)with rfl|d
   .exact a0N i
   .obtain⟨w,h,rfl⟩:=a0S.mp d;exact a0N (f w h).2.1)
  rw[v4,v4]at this;exact this
 have:=g.1.pos _ _ e;omega
end
abbrev Tp:=Str×Str×Str×Int×Int×Int
def tP(t:Tp):PV:=.t [.s t.1,.s t.2.1,.s t.2.2.1,.i t.2.2.2.1,.i t.2.2.2.2.1,.i t.2.2.2.2.2]
structure TOk(N:a40)(F:Str->Ht)(t:Tp):Prop where
 org:t.2.1∈N
 goal:t.2.2.1∈N
 len:∃y,z5 (F t.2.1) (sk t.2.2.1)=some y/\y<=t.2.2.2.2.1-t.2.2.2.1
 st:0<=t.2.2.2.1
 fw:t.2.2.2.1<t.2.2.2.2.1
 fin:t.2.2.2.2.1<=1000000000
 zbj:0<=t.2.2.2.2.2/\t.2.2.2.2.2<=1000000000
def aP:Option Tp->PV
 |none=>.n
 |some t=>tP t
abbrev tSt(ns:a4k)(a:Int)(nm:Str)(P:a40)(L:Lst)(ah:Option Tp)(r:Sto):Sto:=[some (.sc ns),some (.i a),some (.s nm),some (.l (P.map .s)),some (.dt L),some (aP ah)]++r
def MM(Y:0<=a)(Q:0<P.length)(O:LOk P L F)(hF:∀o∈P,∀z y,z5 (F o) (sk z)=some y->0<=y/\y<=800000000)(U:∀o∈P,z5 (F o) (sk o)=some 0)(Z:∀t,ah=some t->TOk P F t):∃t,t.1=nm/\TOk P F t/\kr [.sc ns,.i a,.s nm,.l (P.map .s),.dt L,aP ah]=.ok (tP t):=by
 obtain⟨j,e1⟩:=Kw (ns:=ns) (k:=a) Y;obtain⟨f,e2⟩:=Kw (ns:=ns) (k:=a+1) (by omega);obtain⟨h,e3⟩:=Kw (ns:=ns) (k:=a+2) (by omega);obtain⟨o,p,X⟩:=c8 (N:=P) (s:=j) Q;obtain⟨u,J,D⟩:=c8 (N:=P) (s:=j / 5) Q;obtain⟨g,y,R,S,K⟩:∃g y,g∈P/\z5 L [sk o,sk g]=some y/\sIf (z9 (CF true (zb (zd 9) (zb (zd 10) zk)) (zd 4))) (z8 10 (zd 9)) zR (tSt ns a nm P L ah [some (.i j),some (.i f),some (.i h),some (.s o),some (.s u),none,none,none])=.ok (.nx (tSt ns a nm P L ah [some (.i j),some (.i f),some (.i h),some (.s o),some (.s g),none,none,none])):=by
  have t:=ya (ρ:=tSt ns a nm P L ah [some (.i j),some (.i f),some (.i h),some (.s o),some (.s u),none,none,none]) (a:=z8 10 (zd 9)) (b:=zR) (uX (n:=true) (ms:=zb (zd 9) (zb (zd 10) zk)) (m:=zd 4) (x:=o) (y:=u) (L:=L) rfl rfl);cases e:z5 L [sk o,sk u]with
  |none=>rw[e]at t;exact⟨o,0,p,(O o p o p).trans (U o p),t⟩
  |some y=>rw[e]at t;exact⟨u,y,J,e,t⟩
 have w:=(O o p g R).symm.trans S;have yb:=hF o p g y w;obtain⟨c,M,H⟩:=uR (xs:=[0,h % 60,f % 7,h % 100000000]) (i:=j / 25 % 4) (a0H _ (by decide)) (a0C _ (by decide));have mb:0<=c/\c<100000000:=by simp only[List.mem_cons,List.not_mem_nil,or_false]at M;omega
 have kb:1<=max 1 (y+c)/\y<=max 1 (y+c)/\max 1 (y+c)<=900000000:=by omega
 obtain⟨q,E,I⟩:=uR (xs:=[f % 1440,f % 200,f % 1000000000]) (i:=j / 100 % 3) (a0H _ (by decide)) (a0C _ (by decide));have C:0<=q:=by simp only[List.mem_cons,List.not_mem_nil,or_false]at E;omega
 obtain⟨l,W,G⟩:∃l:Int,0<=l/\sIf (fP (z9 (mOp (ke false) (mOp zQ (mOp qM (zd 6) (mC (.i 300))) (mC (.i 2))) (mC (.i 1)))) (fP (z9 (mOp (AR true) (zd 5) (mC .n))) (z9 (CF false (zb (mOp pIx (zd 5) (mC (.i 2))) (zb (zd 9) zk)) (zd 4))))) (z8 13 (mOp WH (mOp z0 (mOp z0 (mOp pIx (zd 5) (mC (.i 4))) (ny (zd 4) (zb (mOp pIx (zd 5) (mC (.i 2))) (zb (zd 9) zk)))) (mOp zQ (zd 7) (mC (.i 3)))) (mC (.i 1)))) zR (tSt ns a nm P L ah [some (.i j),some (.i f),some (.i h),some (.s o),some (.s g),some (.i c),some (.i (max 1 (y+c))),some (.i q)])=.ok (.nx (tSt ns a nm P L ah [some (.i j),some (.i f),some (.i h),some (.s o),some (.s g),some (.i c),some (.i (max 1 (y+c))),some (.i l)])):=by
  have A:=gq (ρ:=tSt ns a nm P L ah [some (.i j),some (.i f),some (.i h),some (.s o),some (.s g),some (.i c),some (.i (max 1 (y+c))),some (.i q)]) (a:=mOp zQ (mOp qM (zd 6) (mC (.i 300))) (mC (.i 2))) (n:=1) (Ms rfl (by decide) (by decide) (by decide));generalize decide (j / 300 % 2=1)=d at A;cases d with
  |false=>exact⟨q,C,ya (sI A)⟩
  |true=>
   cases ah with
   |none=>exact⟨q,C,ya (Yw A (sI rfl))⟩
   |some t=>
    have T:=Z t rfl;have B:=uX (n:=false) (ms:=zb (mOp pIx (zd 5) (mC (.i 2))) (zb (zd 9) zk)) (m:=zd 4) (x:=t.2.2.1) (y:=o) (L:=L) (ρ:=tSt ns a nm P L (some t) [some (.i j),some (.i f),some (.i h),some (.s o),some (.s g),some (.i c),some (.i (max 1 (y+c))),some (.i q)]) rfl rfl;cases e:z5 L [sk t.2.2.1,sk o]with
    |none=>rw[e]at B;exact⟨q,C,ya (Yw A (Yw (x:=true) rfl B))⟩
    |some v=>rw[e]at B;have vb:=hF _ T.goal o v ((O _ T.goal o p).symm.trans e);have:=T.fw;have:=T.st;exact⟨t.2.2.2.2.1+v+f % 3-1,by omega,(ya (Yw A (Yw (x:=true) rfl B))).trans (zK (zq (zq (zq (x:=.i t.2.2.2.2.1) rfl (gw rfl rfl e) rfl) (vm rfl (by decide)) rfl) rfl rfl))⟩
 have r:0<=min l (1000000000-(max 1 (y+c)))/\min l (1000000000-(max 1 (y+c)))+(max 1 (y+c))<=1000000000:=by omega
 refine⟨(nm,o,g,(min l (1000000000-(max 1 (y+c)))),(min l (1000000000-(max 1 (y+c))))+(max 1 (y+c)),h / 7 % 1000000001),rfl,⟨p,R,⟨y,w,by show y<=(min l (1000000000-(max 1 (y+c))))+(max 1 (y+c))-(min l (1000000000-(max 1 (y+c))));omega⟩,r.1,by show(min l (1000000000-(max 1 (y+c))))<(min l (1000000000-(max 1 (y+c))))+(max 1 (y+c));omega,r.2,⟨a0H _ (by decide),by have:=a0C (h / 7) (show(0:Int)<1000000001 by decide);show h / 7 % 1000000001<=1000000000;omega⟩⟩,zC (zc ⟨_,zK (zw (xs:=[.sc ns,.i a]) rfl e1),zc ⟨_,zK (zw (xs:=[.sc ns,.i (a+1)]) rfl e2),zc ⟨_,zK (zw (xs:=[.sc ns,.i (a+2)]) rfl e3),zc ⟨_,zK (zq rfl (zq rfl (zw (xs:=[.l (P.map .s)]) rfl Yy) (wc (by omega))) X),zc ⟨_,zK (zq rfl (zq (c4 rfl (by decide) (by decide)) (zw (xs:=[.l (P.map .s)]) rfl Yy) (wc (by omega))) D),zc ⟨_,K,zc ⟨_,zK (zq (lL (zp rfl (zp (vm rfl (by decide)) (zp (vm rfl (by decide)) (zp (zq (y:=.i 100000000) rfl rfl (wc (by decide))) rfl)))) (a0m rfl)) (Ms rfl (by decide) (by decide) (by decide)) H),zc ⟨_,zK (zw (zp rfl (zp (zq (gw rfl rfl S) rfl rfl) rfl)) rfl),zc ⟨_,zK (zq (lL (zp (vm rfl (by decide)) (zp (vm rfl (by decide)) (zp (zq (y:=.i 1000000000) rfl rfl (wc (by decide))) rfl))) (a0m rfl)) (Ms rfl (by decide) (by decide) (by decide)) I),zc ⟨_,G,zc ⟨_,zK (zw (zp rfl (zp (zq (x:=.i 1000000000) rfl rfl rfl) rfl)) rfl),Yx (Qa (zp rfl (zp rfl (zp rfl (zp rfl (zp (zq rfl rfl rfl) (zp (zq (c4 rfl (by decide) (by decide)) (y:=.i 1000000001) rfl (wc (by decide))) rfl)))))) (a0m rfl))⟩⟩⟩⟩⟩⟩⟩⟩⟩⟩⟩)⟩
def Ge(N:0<=a)(K:Q.length<=100)(B:0<P.length)(J:LOk P L F)(hF:∀o∈P,∀z y,z5 (F o) (sk z)=some y->0<=y/\y<=800000000)(r:∀o∈P,z5 (F o) (sk o)=some 0):∃T:List Tp,T.map (·.1)=Q/\(∀t∈T,TOk P F t)/\ky [.sc ns,.i a,.l (Q.map .s),.l (P.map .s),.dt L]=.ok (.l (T.map tP)):=by
 obtain⟨C,⟨T,x,y,i,l,f⟩,e⟩:=YL (g:=Xe) (b:=Xf) (λk m=>∃(T:List Tp)(x y:a4g),T.map (·.1)=Q.take k/\(∀t∈T,TOk P F t)/\m=[some (.sc ns),some (.i a),some (.l (Q.map .s)),some (.l (P.map .s)),some (.dt L),some (.l (T.map tP)),x,y]) Q.length [some (.sc ns),some (.i a),some (.l (Q.map .s)),some (.l (P.map .s)),some (.dt L),some (.l []),none,none] ⟨[],none,none,rfl,λx E=>(nomatch E),rfl⟩ (λk H m ⟨T,x,y,i,l,f⟩=>by
  subst f;have O:T.length=k:=by have:=a0O List.length i;rw[v4,a00]at this;omega
  obtain⟨d,G,q⟩:∃d:Option Tp,(∀t,d=some t->TOk P F t)/\sIf (z9 (mOp pGt (zd 6) (mC (.i 0)))) (z8 7 (mOp pIx (zd 5) (mOp zQ (zi yh (zb (zd 0) (zb (mOp z0 (mOp z0 (zd 1) (mOp Ky (mC (.i 3)) (zd 6))) (mC (.i 1))) (zb (mC (.i 65479)) zk)))) (zd 6)))) zR [some (.sc ns),some (.i a),some (.l (Q.map .s)),some (.l (P.map .s)),some (.dt L),some (.l (T.map tP)),some (.i (k:Int)),some .n]=.ok (.nx [some (.sc ns),some (.i a),some (.l (Q.map .s)),some (.l (P.map .s)),some (.dt L),some (.l (T.map tP)),some (.i (k:Int)),some (aP d)]):=by
   have t:=ya (ρ:=[some (.sc ns),some (.i a),some (.l (Q.map .s)),some (.l (P.map .s)),some (.dt L),some (.l (T.map tP)),some (.i (k:Int)),some .n]) (a:=z8 7 (mOp pIx (zd 5) (mOp zQ (zi yh (zb (zd 0) (zb (mOp z0 (mOp z0 (zd 1) (mOp Ky (mC (.i 3)) (zd 6))) (mC (.i 1))) (zb (mC (.i 65479)) zk)))) (zd 6)))) (b:=zR) (UY (a:=zd 6) (x:=(k:Int)) (n:=0) rfl);by_cases c:(k:Int)>0
   .rw[a0f c]at t;obtain⟨s,_,D⟩:=Qb (ns:=ns) (k:=a+3*(k:Int)+1) (p:=65479) (by omega) (by decide);have w:=a0H s (show(k:Int)≠0 by omega);have M:=a0C s c;refine⟨some (T[(s % (k:Int)).toNat]'(by omega)),λt j=>by cases j;exact l _ (a04 _),t.trans (zK (zq rfl (zq (zw (xs:=[.sc ns,.i (a+3*(k:Int)+1),.i 65479]) (zp rfl (zp (zq (zq rfl (zq rfl rfl (fR (by decide) (by decide))) rfl) rfl rfl) rfl)) D) rfl (wc c)) ?_))⟩;rw[oG w (by rw[v4];omega),a08];rfl
   .rw[a0k c]at t;exact⟨none,λt j=>(nomatch j),t⟩
  obtain⟨t,A,v,u⟩:=MM (ns:=ns) (a:=a+3*(k:Int)) (nm:=Q[k]) (ah:=d) (by omega) B J hF r G;have I:X3 5 (zi kr (zb (zd 0) (zb (mOp z0 (zd 1) (mOp Ky (mC (.i 3)) (zd 6))) (zb (mOp pIx (zd 2) (zd 6)) (zb (zd 3) (zb (zd 4) (zb (zd 7) zk))))))) [some (.sc ns),some (.i a),some (.l (Q.map .s)),some (.l (P.map .s)),some (.dt L),some (.l (T.map tP)),some (.i (k:Int)),some (aP d)]=.ok (.nx [some (.sc ns),some (.i a),some (.l (Q.map .s)),some (.l (P.map .s)),some (.dt L),some (.l ((T++[t]).map tP)),some (.i (k:Int)),some (aP d)]):=by
   have ix:pIx (.l (Q.map .s)) (.i (k:Int))=.ok (.s Q[k]):=by rw[oG (by omega) (by rw[v4];omega),a08];rfl
   refine(oJ (xs:=T.map tP) rfl (zw (zp rfl (zp (zq rfl (zq rfl rfl (fR (by decide) (by decide))) rfl) (zp (zq rfl rfl ix) rfl))) u) (by rw[v4];omega)).trans ?_;rw[show T.map tP++[tP t]=(T++[t]).map tP by rw[a0z];rfl];rfl
  refine⟨_,rfl,_,⟨T++[t],some (.i (k:Int)),some (aP d),?_,λR j=>?_,rfl⟩,.inl (zc ⟨_,rfl,zc ⟨_,q,I⟩⟩)⟩
  .rw[a0z,i,a0W H];show _++[t.1]=_;rw[A]
  .rcases a0A.mp j with h|h
   .exact l _ h
   .rw[a0l.mp h];exact v)
 subst f;rw[a1o]at i;exact⟨T,i,l,zC (zc ⟨_,rfl,zc ⟨_,yZ (Ct (zp (zw (xs:=[.l (Q.map .s)]) rfl Yy) rfl) (by omega) (by omega)) (by rw[a2n];exact e),rfl⟩⟩)⟩
def XZ(T:List Tp):List (Key×PV):=T.map λt=>(sk t.1,tP t)
def oP(h:z∉T.map (·.1)):z5 (XZ T) (sk z)=none:=by
 cases e:z5 (XZ T) (sk z)with
 |none=>rfl
 |some x=>obtain⟨t,a,b⟩:=a0S.mp (Kq e);cases b;exact absurd (a0N a) h
def Dx(a:(T.map (·.1)).Nodup)(h:t∈T):z5 (XZ T) (sk t.1)=some (tP t):=by
 induction T with
 |nil=>cases h
 |cons u T d=>
  rw[a0j]at a;obtain⟨b,c⟩:=a1f.mp a;show z5 ((sk u.1,tP u)::XZ T) (sk t.1)=_;rw[yd];rcases a0r.mp h with rfl|h
  .rw[if_pos rfl]
  .rw[if_neg λe=>b (by rw[a1y e];exact a0N h)];exact d c h
def Az(hz:Nm z)(hB:z5 B (sk z)=none):z6 [.s z,.d B]=.ok (.s z):=by refine zC (zc ⟨_,ym (zw (xs:=[.s z]) rfl (Dl hz)),zc ⟨_,(ya (x:=false) (zU (zq (x:=.s z) (y:=.d B) rfl rfl ?_))).trans (show _=Out.ok (Fw.nx [some (.s z),some (.d B)])from rfl),rfl⟩⟩);show Out.ok (PV.b (xor false (z5 B (sk z)).isSome))=_;rw[hB];rfl
def Ul(a:0<=m)(b:m<=1000000000):zZ [.i m,.i 0]=.ok (.i m):=by refine zC (zc ⟨_,(ya (sH (x:=false) (y:=false) (zU (zq (x:=.i m) (y:=.i 0) rfl rfl ?_)) ((UY (x:=m) rfl).trans (by rw[a0k (by omega)])))).trans (show _=Out.ok (Fw.nx [some (.i m),some (.i 0)])from rfl),rfl⟩);show Out.ok (PV.b (decide (m<0)))=_;rw[a0k (by omega)]
section
variable {N:a40}{W:List Wy}{F:Str->Ht}{t:Tp}{T:List Tp}
def Gf(h:TOk N F t)(hn:Nm t.1)(hB:z5 B (sk t.1)=none):qG [roP N W F,tP t,.d B]=.ok .n:=by
 obtain⟨ho,hg,⟨y,ey,ly⟩,s0,fw,f1,q0,q1⟩:=h;refine c9 rfl (zc ⟨_,ym (zw (xs:=[.s t.1,.d B]) rfl (Az hn hB)),zc ⟨_,zK (lN (N:=N) (W:=W) (F:=F) rfl (xs:=[.s t.2.1,.s t.2.2.1]) rfl (by decide +kernel) (by decide +kernel) (by decide +kernel) ((Uk ho hg).trans (by rw[ey];rfl))),zc ⟨_,ym (zw (xs:=[.i t.2.2.2.1,.i 0]) rfl (Ul s0 (by omega))),zc ⟨_,ym (zw (xs:=[.i t.2.2.2.2.1,.i 0]) rfl (Ul (by omega) f1)),zc ⟨_,ym (zw (xs:=[.i t.2.2.2.2.2,.i 0]) rfl (Ul q0 q1)),zc ⟨[some (roP N W F),some (tP t),some (.d B),some (.i y)],(ya (x:=false) (zU (zq (x:=.i t.2.2.2.2.1) (y:=.i t.2.2.2.1) rfl rfl ?_))).trans rfl,zc ⟨[some (roP N W F),some (tP t),some (.d B),some (.i y)],(ya (x:=false) rfl).trans rfl,(ya (x:=false) (zU (zq (x:=.i (t.2.2.2.2.1-t.2.2.2.1)) (y:=.i y) rfl rfl ?_))).trans rfl⟩⟩⟩⟩⟩⟩⟩)
 .show Out.ok (PV.b (decide (t.2.2.2.2.1<=t.2.2.2.1)))=_;rw[a0k (by omega)]
 .show Out.ok (PV.b (decide (t.2.2.2.2.1-t.2.2.2.1<y)))=_;rw[a0k (by omega)]
def Im(t:Tp):fX:=(t.2.2.2.1,t.2.2.2.2.1,t.1)
theorem xh:∀{T:List Tp},iK zJ (T.map tP)=some (T.map Im)
 |[]=>rfl
 |t::T=>by
  have e:zJ [tP t]=.ok (.t [.i t.2.2.2.1,.i t.2.2.2.2.1,.s t.1]):=zC (Yx (Qa rfl (a0m rfl)));show(match zJ [tP t]with
   |.ok (.t [.i a,.i b,.s c])=>(iK zJ (T.map tP)).map ((a,b,c)::·)
   |_=>none)=_
  rw[e];show(iK zJ (T.map tP)).map _=_;rw[xh];rfl
def df(T:List Tp):List Tp:=(Mf (T.map Im)).map λi=>T.getD i ("","","",0,0,0)
def Gg(c:(T.map (·.1)).Nodup)(g:T.length<64):FK zJ (T.map tP)=.ok (.l ((df T).map tP)):=by
 unfold FK;rw[if_pos (by rw[v4];exact g),xh];have d:(T.map Im).Nodup:=by
  have:((T.map Im).map λk=>k.2.2)=T.map (·.1):=by rw[a0L];rfl
  rw[<- this]at c;exact List.Pairwise.of_map (S:=(·≠·)) (λk:fX=>k.2.2) (λa b h e=>h (by rw[e])) c
 show(if(T.map Im).Nodup then _ else _)=_;rw[if_pos d];unfold df;rw[a0L];congr 2;refine a1K λi f=>?_;have:=a1p.mp ((a_ (T.map Im)).1.mem_iff.mp f);rw[v4]at this;show(T.map tP).getD i .n=tP (T.getD i _);rw[a01,a01,a0D,a0n this];rfl
end
def ga0{a:Type}{A:List a}{x y:a}:(A++[x,y])[A.length]?=some x:=by simp
def ga1{a:Type}{A:List a}{x y:a}:(A++[x,y])[A.length+1]?=some y:=by simp
def sa0{a:Type}{A:List a}{x y z:a}:(A++[x,y]).set A.length z=A++[z,y]:=by simp
def sa1{a:Type}{A:List a}{x y z:a}:(A++[x,y]).set (A.length+1) z=A++[x,z]:=by simp
theorem Io{G:AH}{n:Nat}:∀{a:a4l},AX (Kr G (n+1)) (vK a)=some a
 |[]=>rfl
 | (k,x)::a=>by show((Kr G (n+1) (.v x)).bind λy=>(AX (Kr G (n+1)) (vK a)).map ((k,y)::·))=_;rw[Io];rfl
def zbh(a:fU bs ρ=none)(c:bR G bs ρ=some r)(d:m r=.ok x)(b:imm x=true):hP bs m ρ G=.ok (.v x) G:=by unfold hP;rw[a,c];dsimp only;rw[d];dsimp only;rw[if_pos b]
def xi(h:m ρ G=.ok x G'):Af m ρ G=.nx ρ G':=by unfold Af;rw[h];rfl
def lR(a:mv ρ G=.ok y G1)(d:mo ρ G1=.ok (.g k) G2)(e:G2[k]?=some (.o c fs))(g:c∈cs)(b:fs.length<1000):iL cs f mo mv ρ G=.nx ρ (G2.set k (.o c (bW f y fs))):=by
 unfold iL;rw[a];show((mo ρ G1).fw _)=_;rw[d];show(match G2[k]? with
  |some (.o c fs)=>if c∈cs/\fs.length<1000 then HFw.nx ρ (G2.set k (.o c (bW f y fs)))else .wall
  |_=>.wall)=_
 rw[e];dsimp only;rw[if_pos ⟨g,b⟩]
def MN(b:mv ρ G=.ok y G)(d:mo ρ G=.ok (.g k) G)(hz:mk ρ G=.ok (.v z) G)(e:G[k]?=some (.d a))(f:pk z=some q)(c:a.length<100000):Pd mo mk mv ρ G=.nx ρ (G.set k (.d (dput a q y))):=by
 unfold Pd;rw[b];show((mo ρ G).fw _)=_;rw[d];show((mk ρ G).fw _)=_;rw[hz];show(match G[k]?,pk z with
  |some (.d a),some q=>if a.length<sizeLine then HFw.nx ρ (G.set k (.d (dput a q y)))else .wall
  |_,_=>.wall)=_
 rw[e,f];dsimp only;rw[if_pos (a0u c (by decide))]
def MP(h:m ρ G=.ok (.g k) G)(b:G[k]?=some (.o c fs))(a:c∈cs)(hf:fs.lookup f=some z):Pa cs f m ρ G=.ok z G:=by
 unfold Pa;rw[h];show(match G[k]? with
  |some (.o c fs)=>if c∈cs then match fs.lookup f with
   |some z=>HX.ok z G
   |none=>.wall else .wall
  |_=>.wall)=_
 rw[b];dsimp only;rw[if_pos a,hf]
def MQ{a:Type}{x:a}{fs:List (Str×a)}:((f,x)::fs).lookup f=some x:=by simp
def Gh{a:Type}{x:a}{fs:List (Str×a)}(h:(f==g)=false):((g,x)::fs).lookup f=fs.lookup f:=by simp[List.lookup,h]
section
variable {N:a40}{W:List Wy}{F:Str->Ht}{A:AH}{T P:List Tp}{ro:PV}
def tFs(ro:PV)(j:Nat):List (Str×HV):=[("roads",.v ro),("by_name",.g j)]
def tG(A:AH)(ro:PV)(T:List Tp):AH:=A++[.o 10 (tFs ro (A.length+1)),.d (vK (XZ T))]
def xj(h:G[j]?=some (.d (vK (XZ T)))):Kr G (n+2) (.g j)=some (.d (XZ T)):=by unfold Kr;rw[h];show(AX (Kr G (n+1)) (vK (XZ T))).map PV.d=_;rw[Io];rfl
def P6:Kr (tG A ro T) 8 (.g A.length)=some (.o 10 [("roads",ro),("by_name",.d (XZ T))]):=by unfold Kr tG;rw[ga0];show(AX (Kr _ 7) (tFs ro (A.length+1))).map (PV.o 10)=_;show(Option.map (PV.o 10) ((Kr _ 7 (.v ro)).bind λy=>(((Kr _ 7 (.g (A.length+1))).bind λy=>((some []).map ((("by_name":Str),y)::·))).map ((("roads":Str),y)::·))))=_;rw[xj (T:=T) ga1];rfl
def Gi(h:t.1∉P.map (·.1)):dput (vK (XZ P)) (sk t.1) (.v (tP t))=vK (XZ (P++[t])):=by unfold vK;rw[uS];congr 1;unfold dput;rw[vB,oP h];unfold XZ;rw[a0z];rfl
def Gj:∀{R P:List Tp}{o:Option HV},(∀t∈R,TOk N F t/\Nm t.1)->((P++R).map (·.1)).Nodup->(P++R).length<=40->∃d,AY jW y8 ((R.map tP).map .v) [some (.g A.length),some (.v (roP N W F)),some (.v T0),o] (tG A (roP N W F) P)=.nx [some (.g A.length),some (.v (roP N W F)),some (.v T0),d] (tG A (roP N W F) (P++R)):=by
 intro R
 induction R with
 |nil=>intro P o _ _ _;rw[a0s];exact⟨o,rfl⟩
 |cons t R m=>
  intro P o j f i;have e:P++[t]++R=P++t::R:=by rw[a0w];rfl
  obtain⟨d,g⟩:=m (P:=P++[t]) (o:=some (.v (tP t))) (λu r=>j u (a0a _ r)) (by rw[e];exact f) (by rw[e];exact i);rw[e]at g;refine⟨d,?_⟩;have hz:t.1∉P.map (·.1):=λh=>by rw[a0z,a0j]at f;exact(a1F.mp f).2.2 _ h _ u8 rfl
  have hp:P.length<=40:=by rw[a0g]at i;omega
  obtain⟨n,l⟩:=j t u8;have s:vV [10] "by_name" (zd 0) [some (.o 10 [("roads",roP N W F),("by_name",.d (XZ P))]),some (roP N W F),none,some (tP t)]=.ok (.d (XZ P)):=by show(if 10∈[10]then j8 (List.lookup ("by_name":Str) [("roads",roP N W F),("by_name",PV.d (XZ P))])else .wall)=_;rw[if_pos u8,yi (by decide +kernel),bJ];rfl
  have x:hP [true,true,false,true] (zi qG (zb (zd 1) (zb (zd 3) (zb (vV [10] "by_name" (zd 0)) zk)))) [some (.g A.length),some (.v (roP N W F)),some (.v T0),some (.v (tP t))] (tG A (roP N W F) P)=.ok (.v .n) (tG A (roP N W F) P):=
   zbh rfl (TH P6 (TH rfl (zbf (TH rfl zbe)))) (zw (zp rfl (zp rfl (zp s rfl))) (Gf (W:=W) n l (oP hz))) rfl
  have w:Pd (Pa [10] "by_name" (uz 0)) (hP [false,false,false,true] (mOp pIx (zd 3) (mC (.i 0)))) (uz 3) [some (.g A.length),some (.v (roP N W F)),some (.v T0),some (.v (tP t))] (tG A (roP N W F) P)=.nx [some (.g A.length),some (.v (roP N W F)),some (.v T0),some (.v (tP t))] (tG A (roP N W F) (P++[t])):=by refine(MN (y:=.v (tP t)) (k:=A.length+1) (z:=.s t.1) (q:=sk t.1) rfl (MP rfl ga0 u8 (by unfold tFs;rw[Gh (by decide +kernel),MQ])) (TF rfl rfl) ga1 rfl (by unfold vK XZ;rw[v4,v4];omega)).trans ?_;unfold tG;rw[sa1,Gi hz]
  have p:y8 [some (.g A.length),some (.v (roP N W F)),some (.v T0),some (.v (tP t))] (tG A (roP N W F) P)=.nx [some (.g A.length),some (.v (roP N W F)),some (.v T0),some (.v (tP t))] (tG A (roP N W F) (P++[t])):=c5 (xi x) w;show(match y8 [some (.g A.length),some (.v (roP N W F)),some (.v T0),some (.v (tP t))] (tG A (roP N W F) P)with
   |.nx a b=>AY jW y8 ((R.map tP).map .v) a b
   |.ct a b=>AY jW y8 ((R.map tP).map .v) a b
   |.bk a b=>.nx a b
   |.rt v b=>.rt v b
   |.exc c fs b=>.exc c fs b
   |.wall=>.wall)=_
  rw[p];exact g
def dQ(T:List Tp):PV:=.l ((df T).map λt=>.s t.1)
def Sa(A:AH)(ro:PV)(T:List Tp):AH:=A++[.o 10 [("roads",.v ro),("by_name",.g (A.length+1)),("order",.v (dQ T))],.d (vK (XZ T))]
def QS(ro:PV)(T:List Tp):PV:=.o 10 [("roads",ro),("by_name",.d (XZ T)),("order",dQ T)]
def dg:(df T).length=T.length:=by unfold df;rw[v4,(a_ (T.map Im)).1.length_eq,a02,v4]
def Gk(m:∀t∈T,TOk N F t/\Nm t.1)(g:(T.map (·.1)).Nodup)(n:T.length<=40):qR [.g A.length,.v (roP N W F),.v (.l (T.map tP))] (A++[.o 10 []])=.ok (.v .n) (Sa A (roP N W F) T):=by
 obtain⟨b,f⟩:=Gj (N:=N) (W:=W) (F:=F) (A:=A) (T0:=.l (T.map tP)) (R:=T) (P:=[]) (o:=none) m g n;rw[a1k]at f;have j:(A++[Cell.o 10 []])[A.length]?=some (.o 10 []):=by simp
 have s:Af (hP [false,false,true] (zi yD (zb (zd 2) (zb (mC (.i 40)) zk)))) [some (.g A.length),some (.v (roP N W F)),some (.v (.l (T.map tP))),none] (A++[.o 10 []])=.nx [some (.g A.length),some (.v (roP N W F)),some (.v (.l (T.map tP))),none] (A++[.o 10 []]):=xi (TF rfl (zw (xs:=[.l (T.map tP),.i 40]) rfl (lM Yy (by omega))));have p:iL [10] "roads" (uz 0) (uz 1) [some (.g A.length),some (.v (roP N W F)),some (.v (.l (T.map tP))),none] (A++[.o 10 []])=.nx [some (.g A.length),some (.v (roP N W F)),some (.v (.l (T.map tP))),none] (A++[.o 10 [("roads",.v (roP N W F))]]):=by refine(lR rfl rfl j u8 (by decide)).trans ?_;rw[show(A++[Cell.o 10 []]).set A.length (.o 10 (bW "roads" (.v (roP N W F)) []))=A++[.o 10 [("roads",.v (roP N W F))]] by simp[bW]]
 have h:(A++[Cell.o 10 [("roads",.v (roP N W F))]]++[.d []])[A.length]?=some (.o 10 [("roads",.v (roP N W F))]):=by simp
 have q:iL [10] "by_name" (uz 0) (hF [] Cm) [some (.g A.length),some (.v (roP N W F)),some (.v (.l (T.map tP))),none] (A++[.o 10 [("roads",.v (roP N W F))]])=.nx [some (.g A.length),some (.v (roP N W F)),some (.v (.l (T.map tP))),none] (tG A (roP N W F) []):=by
  refine(lR (y:=.g (A++[Cell.o 10 [("roads",.v (roP N W F))]]).length) (G1:=A++[Cell.o 10 [("roads",.v (roP N W F))]]++[.d []]) rfl rfl h u8 (by show 1<1000;decide)).trans ?_;have e:bW "by_name" (.g (A++[Cell.o 10 [("roads",.v (roP N W F))]]).length) [("roads",.v (roP N W F))]=tFs (roP N W F) (A.length+1):=by rw[a0g];show(if(("roads":Str)="by_name")then _ else _)=_;rw[if_neg (by decide +kernel)];rfl
  rw[e,show A++[Cell.o 10 [("roads",.v (roP N W F))]]++[.d []]=A++[.o 10 [("roads",.v (roP N W F))],.d []] by rw[a0w];rfl,sa0];rfl
 have l:lcP wL wM wN ((df T).map tP) [none] []=.ok (dQ T):=
  qD tP (λt=>PV.s t.1) (λd=>∃o,d=[o]) _ _ ⟨none,rfl⟩ (λt _ d ⟨o,i⟩=>by subst i;exact⟨_,rfl,⟨_,rfl⟩,zq rfl rfl rfl⟩) (by rw[dg];omega)
 have r:iL [10] "order" (uz 0) (hP [false,false,true] (mLC (zS (uC zJ (zb (zd 2) zk))) [none] wL wM wN)) [some (.g A.length),some (.v (roP N W F)),some (.v (.l (T.map tP))),b] (tG A (roP N W F) T)=.nx [some (.g A.length),some (.v (roP N W F)),some (.v (.l (T.map tP))),b] (Sa A (roP N W F) T):=by
  refine(lR (y:=.v (dQ T)) (TF rfl (Zd (zA (show uC zJ (zb (zd 2) zk) [none,none,some (.l (T.map tP)),none]=_ from Gg g (by omega))) l)) rfl ga0 u8 (by show 2<1000;decide)).trans ?_;have e:bW "order" (.v (dQ T)) (tFs (roP N W F) (A.length+1))=([("roads",.v (roP N W F)),("by_name",.g (A.length+1)),("order",.v (dQ T))]:List (Str×HV)):=by show(if(("roads":Str)="order")then _ else _::(if(("by_name":Str)="order")then _ else _))=_;rw[if_neg (by decide +kernel),if_neg (by decide +kernel)];rfl
  unfold Sa;rw[e,sa0]
 have ev:vN [some (.g A.length),some (.v (roP N W F)),some (.v (.l (T.map tP))),none] (A++[.o 10 []])=.nx [some (.g A.length),some (.v (roP N W F)),some (.v (.l (T.map tP))),b] (Sa A (roP N W F) T):=
  c5 s (c5 p (c5 q (c5 f r)))
 show(match vN [some (.g A.length),some (.v (roP N W F)),some (.v (.l (T.map tP))),none] (A++[.o 10 []])with
  |.nx _ a=>HX.ok (HV.v .n) a
  |.rt x a=>.ok x a
  |.exc c fs a=>.exc c fs a
  |_=>.wall)=_
 rw[ev]
def MR(h:G[k]?=some (.o 10 [("roads",.v ro),("by_name",.g j),("order",.v (dQ T))]))(a:G[j]?=some (.d (vK (XZ T)))):Kr G (n+3) (.g k)=some (QS ro T):=by unfold Kr;rw[h];show(Option.map (PV.o 10) ((Kr _ (n+2) (.v ro)).bind λy=>(((Kr _ (n+2) (.g j)).bind λy=>((((Kr _ (n+2) (.v (dQ T))).bind λy=>((some []).map ((("order":Str),y)::·)))).map ((("by_name":Str),y)::·))).map ((("roads":Str),y)::·))))=_;rw[xj (T:=T) a];rfl
end
section
variable {N:a40}{W:List Wy}{F:Str->Ht}{T:List Tp}{t u:Tp}{ro:PV}{z:Str}
def Dy(h:m ρ=.ok (QS ro T)):vV [10] "by_name" m ρ=.ok (.d (XZ T)):=by unfold vV;rw[h,okb];show(if 10∈[10]then j8 (List.lookup ("by_name":Str) [("roads",ro),("by_name",PV.d (XZ T)),("order",dQ T)])else .wall)=_;rw[if_pos u8,yi (by decide +kernel),bJ];rfl
def Qc(h:m ρ=.ok (QS ro T)):vV [10] "roads" m ρ=.ok ro:=by unfold vV;rw[h,okb];show(if 10∈[10]then j8 (List.lookup ("roads":Str) [("roads",ro),("by_name",PV.d (XZ T)),("order",dQ T)])else .wall)=_;rw[if_pos u8,bJ];rfl
def dh(c:(T.map (·.1)).Nodup)(a:t∈T):zr [QS ro T,.s t.1]=.ok (tP t):=by
 have b:=Dy (m:=zd 0) (ρ:=[some (QS ro T),some (.s t.1)]) (ro:=ro) (T:=T) rfl;have e:=Dx c a;refine zC (zc ⟨_,(ya (x:=false) (zU (zq (x:=.s t.1) rfl b ?_))).trans (show _=Out.ok (Fw.nx [some (QS ro T),some (.s t.1)])from rfl),Yx (zq b (y:=.s t.1) rfl ?_)⟩)
 .show Out.ok (PV.b (xor true (z5 (XZ T) (sk t.1)).isSome))=_;rw[e];rfl
 .show j8 (z5 (XZ T) (sk t.1))=_;rw[e];rfl
def lS(ha:a ρ=.ok (QS ro T))(hm:ms ρ=.ok xs):yE [(10,f)] "trip" a ms ρ=f (QS ro T::xs):=by unfold yE;rw[ha,okb];show(if(List.lookup ("trip":Str) [("roads",ro),("by_name",PV.d (XZ T)),("order",dQ T)]).isSome=true then Out.wall else(ms ρ).bind λxs=>f (QS ro T::xs))=_;rw[yi (by decide +kernel),yi (by decide +kernel),yi (by decide +kernel),Q4,if_neg (by intro z;cases z),hm,okb]
def TX(F:Str->Ht)(t u:Tp):PV:=MF ((z5 (F t.2.2.1) (sk u.2.1)).map λy=>u.2.2.2.1-t.2.2.2.2.1-y)
def P7(nd:(T.map (·.1)).Nodup)(hT:∀t∈T,TOk N F t)(ht:t∈T)(hu:u∈T):Ao [QS (roP N W F) T,.s t.1,.s u.1]=.ok (TX F t u):=by
 have e3:z8 3 (yE [(10,zr)] "trip" (zd 0) (zb (zd 1) zk)) [some (QS (roP N W F) T),some (.s t.1),some (.s u.1),none,none,none]=.ok (.nx [some (QS (roP N W F) T),some (.s t.1),some (.s u.1),some (tP t),none,none]):=zK ((lS (xs:=[.s t.1]) rfl rfl).trans (dh nd ht));have e4:z8 4 (yE [(10,zr)] "trip" (zd 0) (zb (zd 2) zk)) [some (QS (roP N W F) T),some (.s t.1),some (.s u.1),some (tP t),none,none]=.ok (.nx [some (QS (roP N W F) T),some (.s t.1),some (.s u.1),some (tP t),some (tP u),none]):=zK ((lS (xs:=[.s u.1]) rfl rfl).trans (dh nd hu));have e5:z8 5 (yE [(11,zx)] "length" (vV [10] "roads" (zd 0)) (zb (mOp pIx (zd 3) (mC (.i 2))) (zb (mOp pIx (zd 4) (mC (.i 1))) zk))) [some (QS (roP N W F) T),some (.s t.1),some (.s u.1),some (tP t),some (tP u),none]=.ok (.nx [some (QS (roP N W F) T),some (.s t.1),some (.s u.1),some (tP t),some (tP u),some (MF (z5 (F t.2.2.1) (sk u.2.1)))]):=
  zK (lN (N:=N) (W:=W) (F:=F) (Qc rfl) (xs:=[.s t.2.2.1,.s u.2.1]) rfl (by decide +kernel) (by decide +kernel) (by decide +kernel) (Uk (hT t ht).goal (hT u hu).org))
 unfold TX;cases e:z5 (F t.2.2.1) (sk u.2.1)with
 |none=>rw[e]at e5;exact zC (zc ⟨_,e3,zc ⟨_,e4,zc ⟨_,e5,Q3 ((ya (x:=true) rfl).trans rfl)⟩⟩⟩)
 |some y=>rw[e]at e5;exact zC (zc ⟨_,e3,zc ⟨_,e4,zc ⟨_,e5,zc ⟨_,(ya (x:=false) rfl).trans rfl,Yx (zq (zq (x:=.i u.2.2.2.1) (y:=.i t.2.2.2.2.1) rfl rfl rfl) (y:=.i y) rfl rfl)⟩⟩⟩⟩)
end
section
variable {N:a40}{W:List Wy}{F:Str->Ht}{T:List Tp}{t u:Tp}{ro:PV}
def js:(df T).Perm T:=by have h:=(a_ (T.map Im)).1.map λi=>T.getD i ("","","",0,0,0);refine h.trans (.of_eq ?_);rw[v4];refine List.ext_getElem (by rw[v4,a02]) λi b a=>?_;rw[a08,a2h];simp[a]
def lnk(F:Str->Ht)(t u:Tp):Bool:=match z5 (F t.2.2.1) (sk u.2.1)with
 |some y=>decide (t.2.2.2.2.1+y<=u.2.2.2.1)
 |none=>false
def oQ(a:(T.map (·.1)).Nodup)(b:∀t∈T,TOk N F t)(d:t∈T)(c:u∈T):Zx [QS (roP N W F) T,.s t.1,.s u.1]=.ok (.b (lnk F t u)):=by
 have g:=P7 (W:=W) a b d c;unfold TX at g;unfold lnk;cases e:z5 (F t.2.2.1) (sk u.2.1)with
 |none=>rw[e]at g;exact zC (zc ⟨_,zK (zw (xs:=[QS (roP N W F) T,.s t.1,.s u.1]) rfl g),Yx rfl⟩)
 |some y=>rw[e]at g;refine zC (zc ⟨_,zK (zw (xs:=[QS (roP N W F) T,.s t.1,.s u.1]) rfl g),Yx ((Dh (x:=true) (y:=decide (u.2.2.2.1-t.2.2.2.2.1-y ≥ 0)) rfl rfl).trans ?_)⟩);rw[a3F];congr 3;exact propext ⟨λh=>by omega,λh=>by omega⟩
def sQ(F:Str->Ht)(T:List Tp)(t:Tp):List Str:=((df T).filter (lnk F t)).map (·.1)
def Dz(b:(T.map (·.1)).Nodup)(f:∀t∈T,TOk N F t)(g:T.length<=40)(d:t∈T):y9 [QS (roP N W F) T,.s t.1,dQ T]=.ok (.l ((sQ F T t).map .s)):=by
 refine zC (Yx (Zd (zA (xs:=(df T).map λt=>.s t.1) rfl) ((Q5 (λu:Tp=>PV.s u.1) (lnk F t) (λu=>.s u.1) (λa=>∃o,a=[o,some (QS (roP N W F) T),some (.s t.1)]) _ _ [] ⟨none,rfl⟩ (λu c a ⟨o,e⟩=>?_) (by rw[dg];show 0+_<=_;omega)).trans ?_)))
 .subst e;exact⟨_,rfl,⟨_,rfl⟩,zU (zw (xs:=[QS (roP N W F) T,.s t.1,.s u.1]) rfl (oQ b f d (js.mem_iff.mp c))),λ_=>rfl⟩
 .unfold sQ;rw[a0L];rfl
def yV(F:Str->Ht)(T:List Tp):List (Key×PV):=(df T).map λt=>(sk t.1,.l ((sQ F T t).map .s))
def AA:(yV F T).map (·.1)=(df T).map λt=>sk t.1:=by unfold yV;rw[a0L];rfl
theorem oR{g:Tp->PV}:∀{U:List Tp},Ey (U.map λt=>.t [.s t.1,g t])=some (U.map λt=>(sk t.1,g t))
 |[]=>rfl
 |t::U=>by show(Ey (U.map λt=>.t [.s t.1,g t])).map ((sk t.1,g t)::·)=_;rw[oR (U:=U)];rfl
def DA(a:(T.map (·.1)).Nodup):((df T).map (·.1)).Nodup:=((js (T:=T)).map (·.1)).nodup_iff.mpr a
def MU(c:(T.map (·.1)).Nodup):((yV F T).map (·.1)).Nodup:=by rw[AA];have:=List.Pairwise.map (S:=(·≠·)) sk (λa b h e=>h (a1y e)) (DA c);rw[a0L]at this;exact this
def Gm(h:m ρ=.ok (QS ro T)):vV [10] "order" m ρ=.ok (dQ T):=by unfold vV;rw[h,okb];show(if 10∈[10]then j8 (List.lookup ("order":Str) [("roads",ro),("by_name",PV.d (XZ T)),("order",dQ T)])else .wall)=_;rw[if_pos u8,yi (by decide +kernel),yi (by decide +kernel),bJ];rfl
def oS:zB [QS ro T]=.ok (dQ T):=zC (Yx (zw (zp (Gm rfl) rfl) rfl))
def xk(nd:(T.map (·.1)).Nodup)(hT:∀t∈T,TOk N F t)(hl:T.length<=40):Wi [QS (roP N W F) T]=.ok (.d (yV F T)):=by
 have e1:yE [(10,zB),(11,zD)] "names" (zd 0) zk [some (QS (roP N W F) T),none]=.ok (dQ T):=by show(if(List.lookup ("names":Str) [("roads",roP N W F),("by_name",PV.d (XZ T)),("order",dQ T)]).isSome=true then Out.wall else zB [QS (roP N W F) T])=_;rw[yi (by decide +kernel),yi (by decide +kernel),yi (by decide +kernel),Q4,if_neg (by intro z;cases z)];exact oS
 have e2:=qD (g:=gf) (e:=gg) (λt:Tp=>PV.s t.1) (λt=>.t [.s t.1,.l ((sQ F T t).map .s)]) (λρ=>∃o,ρ=[o,some (QS (roP N W F) T),some (dQ T)]) (df T) [none,some (QS (roP N W F) T),some (dQ T)] ⟨none,rfl⟩ (λt ht ρ ⟨o,ho⟩=>by
  subst ho;exact⟨_,rfl,⟨_,rfl⟩,Qa (zp rfl (zp (zw (xs:=[QS (roP N W F) T,.s t.1,dQ T]) rfl (Dz nd hT hl (js.mem_iff.mp ht))) rfl)) (a0m rfl)⟩) (by rw[dg];omega)
 have ed:bP [.l ((df T).map λt=>.t [.s t.1,.l ((sQ F T t).map .s)])]=.ok (.d (yV F T)):=by show j8 ((Ey ((df T).map λt=>.t [.s t.1,.l ((sQ F T t).map .s)])).map λes=>PV.d (bO es))=_;rw[oR];show Out.ok (PV.d (bO (yV F T)))=_;unfold bO;rw[uV (acc:=[]) (by rw[a1k];exact MU nd)];rfl
 exact zC (zc ⟨_,zK e1,Yx (zw (zp (Zd (zA rfl) e2) rfl) ed)⟩)
def xl{U:List Tp}{g:Tp->PV}(a:(U.map (·.1)).Nodup)(h:t∈U):z5 (U.map λt=>(sk t.1,g t)) (sk t.1)=some (g t):=by
 induction U with
 |nil=>cases h
 |cons u U d=>
  rw[a0j]at a ⊢;obtain⟨b,c⟩:=a1f.mp a;rw[yd];rcases a0r.mp h with rfl|h
  .rw[if_pos rfl]
  .rw[if_neg λe=>b (by rw[a1y e];exact a0N h)];exact d c h
def sR(c:(T.map (·.1)).Nodup)(h:t∈T)(e:a ρ=.ok (.d (yV F T)))(d:b ρ=.ok (.s t.1)):mOp pIx a b ρ=.ok (.l ((sQ F T t).map .s)):=by refine zq e d ?_;show j8 (z5 (yV F T) (sk t.1))=_;unfold yV;rw[xl (DA c) (js.mem_iff.mpr h)];rfl
def Ip{U:List Tp}(a:(U.map (·.1)).Nodup)(c:t∈U)(i:u∈U)(e:t.1=u.1):t=u:=by
 induction U with
 |nil=>cases c
 |cons x U l=>
  rw[a0j]at a;obtain⟨b,j⟩:=a1f.mp a;rcases a0r.mp c with f|h<;>rcases a0r.mp i with g|d
  .rw[f,g]
  .exact absurd (by rw[<- f,e];exact a0N d) b
  .exact absurd (by rw[<- g,<- e];exact a0N h) b
  .exact l j h d
def MV(b:(T.map (·.1)).Nodup)(a:u∈T):u.1∈sQ F T t↔lnk F t u=true:=by
 unfold sQ;constructor
 .intro h;obtain⟨v,c,e⟩:=a0S.mp h;obtain⟨f,d⟩:=a1j.mp c;exact Ip b (js.mem_iff.mp f) a e▸d
 .intro h;exact a0S.mpr ⟨u,a1j.mpr ⟨js.mem_iff.mpr a,h⟩,rfl⟩
end
def yQ(hg:g x ρ=some ρ1)(hb:b ρ1=.ok (.nx ρ2)):Zg g b (x::xs) ρ=Zg g b xs ρ2:=by show((j8 (g x ρ)).bind λρ1=>(b ρ1).bind _)=_;rw[hg];show(b ρ1).bind _=_;rw[hb];rfl
def MW(hg:g x ρ=some ρ1)(hb:b ρ1=.ok (.rt v)):Zg g b (x::xs) ρ=.ok (.rt v):=by show((j8 (g x ρ)).bind λρ1=>(b ρ1).bind _)=_;rw[hg];show(b ρ1).bind _=_;rw[hb];rfl
section
variable {N:a40}{W:List Wy}{F:Str->Ht}{T us:List Tp}{t u:Tp}{ro:PV}{z o p:Str}{row:a40}
abbrev rwP(row:a40):PV:=.l (row.map .s)
abbrev nmL(us:List Tp):PV:=.l ((us.map (·.1)).map .s)
abbrev tbV(N:a40)(W:List Wy)(F:Str->Ht)(T:List Tp):PV:=QS (roP N W F) T
def DB:zD [roP N W F]=.ok (.l (N.map .s)):=zC (Yx (zw (zp (Dr rfl).1 rfl) rfl))
def P8(h:zd 0 ρ=.ok (tbV N W F T)):yE [(10,zB),(11,zD)] "names" (vV [10] "roads" (zd 0)) zk ρ=.ok (.l (N.map .s)):=by unfold yE;rw[Qc h,okb];show(if(List.lookup ("names":Str) [("places",PV.l (N.map .s)),("ways",.l (W.map wP)),("lengths",.d (pP N F))]).isSome=true then Out.wall else zD [roP N W F])=_;rw[yi (by decide +kernel),yi (by decide +kernel),yi (by decide +kernel),Q4,if_neg (by intro z;cases z)];exact DB
def DC(c:(T.map (·.1)).Nodup)(b:t∈T)(e:a ρ=.ok (QS ro T))(d:ms ρ=.ok [.s t.1]):yE [(10,zr)] "trip" a ms ρ=.ok (tP t):=(lS e d).trans (dh c b)
def xm(d:a ρ=.ok (roP N W F))(c:o∈N)(hp:p∈N)(b:ms ρ=.ok [.s o,.s p]):yE [(11,zx)] "length" a ms ρ=.ok (MF (z5 (F o) (sk p))):=lN d b (by decide +kernel) (by decide +kernel) (by decide +kernel) (Uk c hp)
theorem xn(b:(T.map (·.1)).Nodup){X:a4g}{B:a4h}:∀{us:List Tp}{x:a4g},(∀t∈us,t∈T)->∃a,Zg wJ wK ((us.map (·.1)).map .s++B) [some (QS ro T),X,x]=Zg wJ wK B [some (QS ro T),X,a]
 |[],x,_=>⟨x,rfl⟩
 |t::us,x,h=>by obtain⟨a,e⟩:=xn b (us:=us) (x:=some (.s t.1)) λy c=>h y (a0a _ c);exact⟨a,(yQ rfl (ym (DC b (h t u8) rfl rfl))).trans e⟩
def DD(a:(T.map (·.1)).Nodup)(h:∀t∈us,t∈T):qQ [QS ro T,nmL us]=.ok .n:=by obtain⟨x,e⟩:=xn (ro:=ro) (X:=some (nmL us)) (B:=[]) (x:=none) a h;rw[a0s]at e;exact c9 rfl (yZ (zA rfl) e)
def P9:R_ (zb (zd 1) (zb (mSl pSl (zd 1) (Yq (mC (.i 1))) my) zk)) [x,some (nmL us),X,Y]=.ok ((us.zip us.tail).map λq=>PV.t [.s q.1.1,.s q.2.1]):=by
 show Out.ok (Pn ((us.map (·.1)).map PV.s) (mz ((us.map (·.1)).map PV.s) (some 1) none))=_;have:mz ((us.map (·.1)).map PV.s) (some 1) none=us.tail.map λt=>PV.s t.1:=by
  cases us with
  |nil=>rfl
  |cons t R=>rw[Ds (by decide) (by rw[v4,v4,a0b];omega)];show(R.map (·.1)).map PV.s=_;rw[a0L];rfl
 rw[this,a0L];unfold Pn List.zip;rw[List.zipWith_map,List.map_zipWith];rfl
def DE(b:o∈N)(hp:p∈N)(h:(z5 (F o) (sk p)).isSome=true):qj [roP N W F,.s o,.s p]=.ok .n:=by have l:=xm (W:=W) (F:=F) (a:=zd 0) (ρ:=[some (roP N W F),some (.s o),some (.s p)]) (ms:=zb (zd 1) (zb (zd 2) zk)) rfl b hp rfl;obtain⟨y,e⟩:=a0U.mp h;rw[e]at l;exact c9 rfl ((ya (x:=false) (zU (zq l rfl rfl))).trans rfl)
def Lk(F:Str->Ht):List Tp->Prop
 |t::u::R=>lnk F t u=true/\Lk F (u::R)
 |_=>True
theorem xo(d:(T.map (·.1)).Nodup)(i:∀t∈T,TOk N F t){X:a4g}:∀{us:List Tp}{x y:a4g},(∀t∈us,t∈T)->Lk F us->∃a c,Zg jo jq ((us.zip us.tail).map λq=>PV.t [.s q.1.1,.s q.2.1]) [some (tbV N W F T),X,x,y]=.ok (.nx [some (tbV N W F T),X,a,c])
 |[],x,y,_,_=>⟨x,y,rfl⟩
 |[t],x,y,_,_=>⟨x,y,rfl⟩
 |t::u::R,x,y,h,f=>by have j:z9 (zi Zx (zb (zd 0) (zb (zd 2) (zb (zd 3) zk)))) [some (tbV N W F T),X,some (.s t.1),some (.s u.1)]=.ok (lnk F t u):=zU (zw (xs:=[tbV N W F T,.s t.1,.s u.1]) rfl (oQ d i (h t u8) (h u (a0a _ u8))));rw[f.1]at j;obtain⟨a,c,e⟩:=xo d i (X:=X) (us:=u::R) (x:=some (.s t.1)) (y:=some (.s u.1)) (λy l=>h y (a0a _ l)) f.2;have fs:Zg jo jq (((t::u::R).zip (t::u::R).tail).map λq=>PV.t [.s q.1.1,.s q.2.1]) [some (tbV N W F T),X,x,y]=_:=yQ (g:=jo) (b:=jq) (x:=PV.t [.s t.1,.s u.1]) rfl ((ya (x:=false) (UZ j)).trans rfl);exact⟨a,c,fs.trans e⟩
def gz(a:(T.map (·.1)).Nodup)(b:∀t∈T,TOk N F t)(h:∀t∈us,t∈T)(e:Lk F us):yT [tbV N W F T,nmL us]=.ok .n:=by obtain⟨x,y,q⟩:=xo (X:=some (nmL us)) (x:=none) (y:=none) a b h e;exact c9 rfl (zc ⟨_,ym (zw rfl (DD a h)),yZ P9 q⟩)
end
abbrev Rw:=Str×Int×Int
abbrev rP(r:Rw):PV:=.t [.s r.1,.i r.2.1,.i r.2.2]
abbrev rsP(l:List Rw):PV:=.l (l.map rP)
abbrev Vp(a b:Int):Rw:=("way",a,b)
abbrev rWt(a b:Int):Rw:=("wait",a,b)
abbrev rTr(a b:Int):Rw:=("trip",a,b)
def bl(r:Rw):Bool:=decide (r.2.1<r.2.2)
def dd(F:Str->Ht)(a b:Str):Int:=(z5 (F a) (sk b)).getD 0
def prs(F:Str->Ht):Str->Int->List Tp->List Rw
 |_,_,[]=>[]
 |p,m,t::R=>[(Vp m (m+dd F p t.2.1)),(rWt (m+dd F p t.2.1) t.2.2.2.1),(rTr t.2.2.2.1 t.2.2.2.2.1)]++prs F t.2.2.1 t.2.2.2.2.1 R
def eP:Str->List Tp->Str
 |p,[]=>p
 |_,t::R=>eP t.2.2.1 R
def eM:Int->List Tp->Int
 |m,[]=>m
 |_,t::R=>eM t.2.2.2.2.1 R
def Cn(F:Str->Ht):Str->List Tp->Prop
 |_,[]=>True
 |p,t::R=>(∃y,z5 (F p) (sk t.2.1)=some y/\0<=y)/\Cn F t.2.2.1 R
section
variable {N:a40}{W:List Wy}{F:Str->Ht}{T us:List Tp}{t u:Tp}{L:Lst}{home p:Str}{m:Int}{acc:List Rw}
theorem di:∀{us:List Tp}{p:Str}{m:Int},(prs F p m us).length=3*us.length
 |[],p,m=>rfl
 |t::R,p,m=>by show([_,_,_]++prs F t.2.2.1 t.2.2.2.2.1 R).length=_;rw[a0g,di];simp only[List.length_cons,List.length_nil];omega
def AB(h:ρ[i]?=some (some (rsP acc)))(a:mm ρ=.ok (rP r))(b:acc.length<10000):X3 i mm ρ=.ok (.nx (ρ.set i (some (rsP (acc++[r]))))):=by rw[oJ h a (by rw[v4];omega)];rw[show acc.map rP++[rP r]=(acc++[r]).map rP by rw[a0z];rfl]
def DF(a:∀t∈us,TOk N F t)(hp:p∈N):eP p us∈N:=by
 induction us generalizing p with
 |nil=>exact hp
 |cons t R b=>exact b (λx c=>a x (a0a _ c)) (a t u8).goal
abbrev pSt(tab:PV)(home:Str)(X:PV)(m:Int)(p:Str)(acc:List Rw)(a b c:a4g):Sto:=[some tab,some (.s home),some X,some (.i m),some (.s p),some (rsP acc),a,b,c]
theorem gA(s:(T.map (·.1)).Nodup)(l:∀t∈T,TOk N F t){X:PV}:∀{us:List Tp}{p:Str}{m:Int}{acc:List Rw}{a b c:a4g},(∀t∈us,t∈T)->p∈N->Cn F p us->acc.length+3*us.length<=5000->∃i f d,Zg UT UU ((us.map (·.1)).map .s) (pSt (tbV N W F T) home X m p acc a b c)=.ok (.nx (pSt (tbV N W F T) home X (eM m us) (eP p us) (acc++prs F p m us) i f d))
 |[],p,m,acc,a,b,c,_,_,_,_=>⟨a,b,c,by unfold prs;rw[a0s];rfl⟩
 |t::R,p,m,acc,a,b,c,h,hp,w,B=>by
  obtain⟨⟨y,j,_⟩,g⟩:=w;have q:=h t u8;have k:=l t q;rw[a0b]at B;have v:dd F p t.2.1=y:=by unfold dd;rw[j];rfl
  obtain⟨i,f,d,e⟩:=gA s l (X:=X) (us:=R) (p:=t.2.2.1) (m:=t.2.2.2.2.1) (acc:=acc++[(Vp m (m+y))]++[(rWt (m+y) t.2.2.2.1)]++[(rTr t.2.2.2.1 t.2.2.2.2.1)]) (a:=some (.s t.1)) (b:=some (tP t)) (c:=some (.i (m+y))) (λx A=>h x (a0a _ A)) k.goal g (by simp only[List.length_append,List.length_cons,List.length_nil];omega);have n:=xm (W:=W) (F:=F) (a:=vV [10] "roads" (zd 0)) (ρ:=pSt (tbV N W F T) home X m p acc (some (.s t.1)) (some (tP t)) c) (ms:=zb (zd 4) (zb (mOp pIx (zd 7) (mC (.i 1))) zk)) (Qc rfl) hp k.org rfl;rw[j]at n;refine⟨i,f,d,(yQ rfl (zc ⟨_,zK (DC s q rfl rfl),zc ⟨_,zK (zq (x:=.i m) (y:=.i y) rfl n rfl),zc ⟨_,AB (r:=(Vp m (m+y))) rfl (Qa (zp rfl (zp rfl (zp rfl rfl))) (a0m rfl)) (by omega),zc ⟨_,AB (r:=(rWt (m+y) t.2.2.2.1)) rfl (Qa (zp rfl (zp rfl (zp rfl rfl))) (a0m rfl)) (by simp only[List.length_append,List.length_cons,List.length_nil];omega),zc ⟨_,AB (r:=(rTr t.2.2.2.1 t.2.2.2.2.1)) rfl (Qa (zp rfl (zp rfl (zp rfl rfl))) (a0m rfl)) (by simp only[List.length_append,List.length_cons,List.length_nil];omega),zc ⟨_,rfl,rfl⟩⟩⟩⟩⟩⟩)).trans (e.trans ?_)⟩;rw[show prs F p m (t::R)=[Vp m (m+dd F p t.2.1),rWt (m+dd F p t.2.1) t.2.2.2.1,rTr t.2.2.2.1 t.2.2.2.2.1]++prs F t.2.2.1 t.2.2.2.2.1 R from rfl,v,a0w,a0w,a0w];rfl
def Gn(D:(T.map (·.1)).Nodup)(s:∀t∈T,TOk N F t)(h:∀t∈us,t∈T)(i:home∈N)(n:us=u::t')(v:Cn F home us)(O:us.length<=1000)(M:z5 (F (eP home us)) (sk home)=some y):kA [tbV N W F T,.s home,nmL us]=.ok (rsP (prs F home (u.2.2.2.1-dd F home u.2.1) us++[(Vp (eM (u.2.2.2.1-dd F home u.2.1) us) (eM (u.2.2.2.1-dd F home u.2.1) us+y))])):=by
 have l:u∈us:=by rw[n];exact u8
 have C:=h u l;have k:=s u C;obtain⟨d,g,_⟩:∃y,z5 (F home) (sk u.2.1)=some y/\0<=y:=by rw[n]at v;exact v.1
 have H:dd F home u.2.1=d:=by unfold dd;rw[g];rfl
 have w:∀{f:Sto},zd 2 f=.ok (nmL us)->mOp pIx (zd 2) (mC (.i 0)) f=.ok (.s u.1):=λ{f} q=>by refine zq q rfl ?_;rw[n];show j8 (atI (PV.s u.1::_) 0)=_;rw[LV];rfl
 have A:yE [(10,zr)] "trip" (zd 0) (zb (mOp pIx (zd 2) (mC (.i 0))) zk) [some (tbV N W F T),some (.s home),some (nmL us),none,none,none,none,none,none]=.ok (tP u):=DC D C rfl (zp (w rfl) rfl);have B:=xm (W:=W) (F:=F) (a:=vV [10] "roads" (zd 0)) (ρ:=[some (tbV N W F T),some (.s home),some (nmL us),none,none,none,none,none,none]) (ms:=zb (zd 1) (zb (mOp pIx (yE [(10,zr)] "trip" (zd 0) (zb (mOp pIx (zd 2) (mC (.i 0))) zk)) (mC (.i 1))) zk)) (Qc rfl) i k.org (zp rfl (zp (zq A rfl rfl) rfl));rw[g]at B;obtain⟨K,I,G,e⟩:=gA (home:=home) (W:=W) (X:=nmL us) (us:=us) (p:=home) (m:=u.2.2.2.1-d) (acc:=[]) (a:=none) (b:=none) (c:=none) D s h i v (by show 0+_<=_;omega);rw[a1k]at e;have j:eP home us∈N:=DF (λx J=>s x (h x J)) i;have E:=xm (W:=W) (F:=F) (a:=vV [10] "roads" (zd 0)) (ρ:=pSt (tbV N W F T) home (nmL us) (eM (u.2.2.2.1-d) us) (eP home us) (prs F home (u.2.2.2.1-d) us) K I G) (ms:=zb (zd 4) (zb (zd 1) zk)) (Qc rfl) j i rfl;rw[M]at E;rw[H];exact zC (zc ⟨_,zK (zq (x:=.i u.2.2.2.1) (y:=.i d) (zq A rfl rfl) B rfl),zc ⟨_,rfl,zc ⟨pSt (tbV N W F T) home (nmL us) (u.2.2.2.1-d) home [] none none none,rfl,zc ⟨_,yZ (zA rfl) e,zc ⟨_,AB (r:=(Vp (eM (u.2.2.2.1-d) us) (eM (u.2.2.2.1-d) us+y))) rfl (Qa (zp rfl (zp rfl (zp (zq rfl E rfl) rfl))) (a0m rfl)) (by rw[di];omega),rfl⟩⟩⟩⟩⟩)
abbrev sSt(X:PV)(home:Str)(L:Lst)(acc:List Rw)(p:Str)(m:PV)(a b:a4g):Sto:=[some X,some (.s home),some (.dt L),some (rsP acc),some (.s p),some m,a,b]
def MX(h:c ρ=.ok x)(a:ρ[i]?=some (some (rsP acc)))(b:mm ρ=.ok (rP r))(d:acc.length<10000):sIf c (X3 i mm) zR ρ=.ok (.nx (ρ.set i (some (rsP (acc++if x=true then[r]else[]))))):=by
 refine(ya h).trans ?_;cases x with
 |true=>rw[if_pos rfl,if_pos rfl];exact AB a b d
 |false=>rw[if_neg a0q,if_neg a0q,a0s];show Out.ok (Fw.nx ρ)=_;congr 2;obtain⟨f,e⟩:=a0v.mp a;rw[<- e,List.set_getElem_self]
def AD(C:LOk N L F)(hp:p∈N)(k:TOk N F t)(d:z5 (F p) (sk t.2.1)=some y){a b:a4g}(l:(m0=.n/\m=t.2.2.2.1-y)\/m0=.i m)(D:acc.length<9000):Y6 (sSt X home L acc p m0 (some (tP t)) b)=.ok (.nx (sSt X home L (acc++(prs F p m [t]).filter bl) t.2.2.1 (.i t.2.2.2.2.1) (some (tP t)) (some (.i y)))):=by
 have e:z5 L [sk p,sk t.2.1]=some y:=(C p hp _ k.org).trans d;have v:dd F p t.2.1=y:=by unfold dd;rw[d];rfl
 have A:z8 7 (ny (zd 2) (zb (zd 4) (zb (mOp pIx (zd 6) (mC (.i 1))) zk))) (sSt X home L acc p m0 (some (tP t)) b)=.ok (.nx (sSt X home L acc p m0 (some (tP t)) (some (.i y)))):=zK (gw rfl rfl e);have s:sIf (z9 (mOp (AR false) (zd 5) (mC .n))) (z8 5 (mOp WH (mOp pIx (zd 6) (mC (.i 3))) (zd 7))) zR (sSt X home L acc p m0 (some (tP t)) (some (.i y)))=.ok (.nx (sSt X home L acc p (.i m) (some (tP t)) (some (.i y)))):=by
  rcases l with⟨c,q⟩|c
  .subst c q;exact(ya (x:=true) rfl).trans (zK (zq (x:=.i t.2.2.2.1) (y:=.i y) rfl rfl rfl))
  .subst c;exact(ya (x:=false) rfl).trans rfl
 have w:=MX (acc:=acc) (i:=3) (r:=(Vp m (m+y))) (mm:=Ux (zb (mC (.s "way")) (zb (zd 5) (zb (mOp z0 (zd 5) (zd 7)) zk)))) (UY (ρ:=sSt X home L acc p (.i m) (some (tP t)) (some (.i y))) (a:=zd 7) (x:=y) (n:=0) rfl) rfl (Qa (zp rfl (zp rfl (zp rfl rfl))) (a0m rfl)) (by omega);have B:=MX (acc:=acc++if decide (y>0)=true then[(Vp m (m+y))]else[]) (i:=3) (r:=(rWt (m+y) t.2.2.2.1)) (mm:=Ux (zb (mC (.s "wait")) (zb (mOp z0 (zd 5) (zd 7)) (zb (mOp pIx (zd 6) (mC (.i 3))) zk)))) (x:=decide (m+y<t.2.2.2.1)) (zU (m:=mOp pLt (mOp z0 (zd 5) (zd 7)) (mOp pIx (zd 6) (mC (.i 3)))) (ρ:=sSt X home L (acc++if decide (y>0)=true then[(Vp m (m+y))]else[]) p (.i m) (some (tP t)) (some (.i y))) (zq (x:=.i (m+y)) (y:=.i t.2.2.2.1) rfl rfl rfl)) rfl (Qa (zp rfl (zp rfl (zp rfl rfl))) (a0m rfl)) (by rw[a0g];split<;>simp<;>omega);have j:=AB (acc:=(acc++if decide (y>0)=true then[(Vp m (m+y))]else[])++if decide (m+y<t.2.2.2.1)=true then[(rWt (m+y) t.2.2.2.1)]else[]) (i:=3) (r:=(rTr t.2.2.2.1 t.2.2.2.2.1)) (mm:=Ux (zb (mC (.s "trip")) (zb (mOp pIx (zd 6) (mC (.i 3))) (zb (mOp pIx (zd 6) (mC (.i 4))) zk)))) (ρ:=sSt X home L ((acc++if decide (y>0)=true then[(Vp m (m+y))]else[])++if decide (m+y<t.2.2.2.1)=true then[(rWt (m+y) t.2.2.2.1)]else[]) p (.i m) (some (tP t)) (some (.i y))) rfl (Qa (zp rfl (zp rfl (zp rfl rfl))) (a0m rfl)) (by rw[a0g,a0g];split<;>split<;>simp<;>omega);refine(zc ⟨_,A,zc ⟨_,s,zc ⟨_,w,zc ⟨_,B,zc ⟨_,j,zc ⟨_,rfl,rfl⟩⟩⟩⟩⟩⟩).trans ?_;have hf:(prs F p m [t]).filter bl=(if decide (y>0)=true then[(Vp m (m+y))]else[])++((if decide (m+y<t.2.2.2.1)=true then[(rWt (m+y) t.2.2.2.1)]else[])++[(rTr t.2.2.2.1 t.2.2.2.2.1)]):=by show List.filter bl [(Vp m (m+dd F p t.2.1)),(rWt (m+dd F p t.2.1) t.2.2.2.1),(rTr t.2.2.2.1 t.2.2.2.2.1)]=_;rw[v,a0X,a0X,a0X,List.filter_nil];have g:bl (Vp m (m+y))=decide (y>0):=decide_eq_decide.mpr (by show m<m+y↔_;omega);have h:bl (rWt (m+y) t.2.2.2.1)=decide (m+y<t.2.2.2.1):=rfl;have f:bl (rTr t.2.2.2.1 t.2.2.2.2.1)=true:=a0f k.fw;rw[g,h,f];cases decide (y>0)<;>cases decide (m+y<t.2.2.2.1)<;>rfl
 rw[hf,<- a0w,<- a0w];rfl
end
section
variable {N:a40}{W:List Wy}{F:Str->Ht}{T us:List Tp}{t u:Tp}{L:Lst}{z home p:Str}{m:Int}{acc:List Rw}
def bf:prs F p m (t::R)=prs F p m [t]++prs F t.2.2.1 t.2.2.2.2.1 R:=rfl
def sS{l:List Rw}:(l.filter bl).length<=l.length:=a2v _ _
theorem gB(hL:LOk N L F){X:PV}:∀{us:List Tp}{p:Str}{m:Int}{m0:PV}{acc:List Rw}{a b:a4g},(∀t∈us,TOk N F t)->p∈N->Cn F p us->(m0=.i m\/∃t R,us=t::R/\m0=.n/\m=t.2.2.2.1-dd F p t.2.1)->acc.length+3*us.length<=5000->∃a' b',Zg Xc Y6 (us.map tP) (sSt X home L acc p m0 a b)=.ok (.nx (sSt X home L (acc++(prs F p m us).filter bl) (eP p us) (.i (eM m us)) a' b'))
 |[],p,m,m0,acc,a,b,_,_,_,hm,_=>by
  rcases hm with rfl|⟨t,R,q,_⟩
  .exact⟨a,b,by rw[show(prs F p m []).filter bl=[]from rfl,a0s];rfl⟩
  .cases q
 |t::R,p,m,m0,acc,a,b,h,hp,hc,hm,hl=>by
  obtain⟨⟨y,hy,_⟩,hc2⟩:=hc;have k:=h t u8;rw[a0b]at hl;have ed:dd F p t.2.1=y:=by unfold dd;rw[hy];rfl
  have l3:((prs F p m [t]).filter bl).length<=3:=sS;have st:=AD (home:=home) (acc:=acc) (X:=X) (m0:=m0) (m:=m) (b:=b) (a:=none) hL hp k hy (by
   rcases hm with h1|⟨t',R',q,h1,h2⟩
   .exact .inr h1
   .cases q;exact .inl ⟨h1,by rw[h2,ed]⟩) (by omega)
  obtain⟨a',b',e⟩:=gB hL (X:=X) (us:=R) (p:=t.2.2.1) (m:=t.2.2.2.2.1) (m0:=.i t.2.2.2.2.1) (acc:=acc++(prs F p m [t]).filter bl) (a:=some (tP t)) (b:=some (.i y)) (λx hx=>h x (a0a _ hx)) k.goal hc2 (.inl rfl) (by rw[a0g];omega);refine⟨a',b',(yQ rfl st).trans (e.trans ?_)⟩;rw[bf (R:=R),a1P,a0w];rfl
def DG(hL:LOk N L F)(hT:∀t∈us,TOk N F t)(hh:home∈N)(hu:us=u::R)(hc:Cn F home us)(hl:us.length<=1000)(ey:z5 (F (eP home us)) (sk home)=some y)(hm:m=u.2.2.2.1-dd F home u.2.1):jw [.l (us.map tP),.s home,.dt L]=.ok (rsP ((prs F home m us++[Vp (eM m us) (eM m us+y)]).filter bl)):=by
 obtain⟨a',b',e⟩:=gB (home:=home) hL (X:=.l (us.map tP)) (us:=us) (p:=home) (m:=m) (m0:=.n) (acc:=[]) (a:=none) (b:=none) hT hh hc (.inr ⟨u,R,hu,rfl,hm⟩) (by show 0+_<=_;omega);rw[a1k]at e;have hp:eP home us∈N:=DF hT hh;have eL:z5 L [sk (eP home us),sk home]=some y:=(hL _ hp _ hh).trans ey;have l3:((prs F home m us).filter bl).length<=3*us.length:=by have:=sS (l:=prs F home m us);rw[di]at this;exact this
 have ne:ke true (.l (us.map tP)) (.l [])=.ok (.b true):=by rw[hu];rfl
 have ix:∀{ρ:Sto},zd 2 ρ=.ok (.dt L)->zd 4 ρ=.ok (.s (eP home us))->zd 1 ρ=.ok (.s home)->ny (zd 2) (zb (zd 4) (zb (zd 1) zk)) ρ=.ok (.i y):=λh2 h4 h1=>gw h2 (zp h4 (zp h1 rfl)) eL;have s5:=MX (acc:=(prs F home m us).filter bl) (i:=3) (r:=Vp (eM m us) (eM m us+y)) (mm:=Ux (zb (mC (.s "way")) (zb (zd 5) (zb (mOp z0 (zd 5) (ny (zd 2) (zb (zd 4) (zb (zd 1) zk)))) zk)))) (x:=true&&decide (y>0)) (Yw (ρ:=sSt (.l (us.map tP)) home L ((prs F home m us).filter bl) (eP home us) (.i (eM m us)) a' b') (a:=z9 (mOp (ke true) (zd 0) (V1 zk))) (zU (zq rfl rfl ne)) (UY (a:=ny (zd 2) (zb (zd 4) (zb (zd 1) zk))) (x:=y) (n:=0) (ix rfl rfl rfl))) rfl (Qa (zp rfl (zp rfl (zp (zq rfl (ix rfl rfl rfl) rfl) rfl))) (a0m rfl)) (by omega);have b1:bl (Vp (eM m us) (eM m us+y))=decide (y>0):=decide_eq_decide.mpr (by show eM m us<eM m us+y↔_;omega);rw[a1P,a0X,List.filter_nil,b1];exact zC (zc ⟨_,rfl,zc ⟨_,rfl,zc ⟨sSt (.l (us.map tP)) home L [] home .n none none,rfl,zc ⟨_,yZ (zA rfl) e,zc ⟨_,s5,rfl⟩⟩⟩⟩⟩)
def P_(h:home∈N)(e:yT [tbV N W F T,row]=.ok .n):qI [tbV N W F T,.s home,row]=.ok .n:=
 c9 rfl (zc ⟨_,ym (zw (xs:=[.s home,.l (N.map .s)]) (zp rfl (zp (P8 rfl) rfl)) (placeOk h)),ym (zw rfl e)⟩)
def Gp(h:a ρ=.ok (nmL (u::R))):mOp pIx a (mC (.i 0)) ρ=.ok (.s u.1):=by refine zq h rfl ?_;show j8 (atI (PV.s u.1::_) 0)=_;rw[LV];rfl
def sT(h:a ρ=.ok (nmL (A++[v]))):mOp pIx a (mUn pO (mC (.i 1))) ρ=.ok (.s v.1):=by refine zq h rfl ?_;show j8 (atI ((List.map (·.1) (A++[v])).map PV.s) (-1))=_;rw[uo,a0z,a0z];show j8 (((A.map (·.1)).map PV.s++[PV.s v.1]).getLast?)=_;rw[a13];rfl
def U0:Yo [nmL us]=.ok (.i (us.length:Int)):=by show Out.ok (PV.i (((us.map (·.1)).map PV.s).length:Int))=_;rw[v4,v4]
def MY(l:(T.map (·.1)).Nodup)(i:∀t∈T,TOk N F t)(h:∀t∈us,t∈T)(g:home∈N)(f:∀a∈N,∀b∈N,(z5 (F a) (sk b)).isSome=true)(j:us=u::R)(q:us=A++[v])(e:qI [tbV N W F T,.s home,nmL us]=.ok .n):qk [tbV N W F T,.s home,nmL us]=.ok .n:=by have d:u∈T:=h u (by rw[j];exact u8);have c:v∈T:=h v (by rw[q];exact a0p _ (List.mem_singleton_self _));have r:=ya (ρ:=[some (tbV N W F T),some (.s home),some (nmL us)]) (a:=zI (jd (zi qj (zb (vV [10] "roads" (zd 0)) (zb (zd 1) (zb (mOp pIx (yE [(10,zr)] "trip" (zd 0) (zb (mOp pIx (zd 2) (mC (.i 0))) zk)) (mC (.i 1))) zk))))) (jd (zi qj (zb (vV [10] "roads" (zd 0)) (zb (mOp pIx (yE [(10,zr)] "trip" (zd 0) (zb (mOp pIx (zd 2) (mUn pO (mC (.i 1)))) zk)) (mC (.i 2))) (zb (zd 1) zk)))))) (b:=zR) (UY (n:=0) (zw (ms:=zb (zd 2) zk) (xs:=[nmL us]) rfl U0));rw[a0f (by rw[j,a0b];omega),if_pos rfl]at r;have s:zb (vV [10] "roads" (zd 0)) (zb (zd 1) (zb (mOp pIx (yE [(10,zr)] "trip" (zd 0) (zb (mOp pIx (zd 2) (mC (.i 0))) zk)) (mC (.i 1))) zk)) [some (tbV N W F T),some (.s home),some (nmL us)]=.ok [roP N W F,.s home,.s u.2.1]:=zp (Qc rfl) (zp rfl (zp (zq (DC l d rfl (zp (Gp (R:=R) (by rw[j];rfl)) rfl)) rfl rfl) rfl));have w:zb (vV [10] "roads" (zd 0)) (zb (mOp pIx (yE [(10,zr)] "trip" (zd 0) (zb (mOp pIx (zd 2) (mUn pO (mC (.i 1)))) zk)) (mC (.i 2))) (zb (zd 1) zk)) [some (tbV N W F T),some (.s home),some (nmL us)]=.ok [roP N W F,.s v.2.2.1,.s home]:=zp (Qc rfl) (zp (zq (DC l c rfl (zp (sT (A:=A) (by rw[q];rfl)) rfl)) rfl rfl) (zp rfl rfl));exact c9 rfl (zc ⟨_,ym (zw (ρ:=[some (tbV N W F T),some (.s home),some (nmL us)]) (ms:=zb (zd 0) (zb (zd 1) (zb (zd 2) zk))) (xs:=[tbV N W F T,.s home,nmL us]) rfl e),r.trans (zc ⟨_,ym (zw s (DE g (i u d).org (f _ g _ (i u d).org))),ym (zw w (DE (i v c).goal g (f _ (i v c).goal _ g)))⟩)⟩)
def TY(i:us=u::R)(q:l.length<=100000)(e:qk [tbV N W F T,.s home,nmL us]=.ok .n)(ep:kA [tbV N W F T,.s home,nmL us]=.ok (rsP l)):Yb [tbV N W F T,.s home,nmL us]=.ok (rsP (l.filter bl)):=by
 have f:=ya (ρ:=[some (tbV N W F T),some (.s home),some (nmL us)]) (a:=je (V1 zk)) (b:=zR) (gq (n:=0) (zw (ms:=zb (zd 2) zk) (xs:=[nmL us]) rfl U0));rw[a0k (by rw[i,a0b];omega)]at f;have h:=Q5 (g:=gh) (c:=gi) (e:=gj) rP bl rP (λd=>∃z,d=[z]) l [none] [] ⟨_,rfl⟩ (λr s d ⟨z,j⟩=>by
  subst j;exact⟨_,rfl,⟨_,rfl⟩,zU (zq (x:=.i r.2.1) (y:=.i r.2.2) rfl rfl rfl),λ_=>rfl⟩) (by show 0+_<=_;omega)
 exact zC (zc ⟨_,ym (zw rfl e),zc ⟨_,f,Yx (Zd (zA (zw (xs:=[tbV N W F T,.s home,nmL us]) rfl ep)) h)⟩⟩)
end
section
variable {N:a40}{W:List Wy}{F:Str->Ht}{T us:List Tp}{t u:Tp}{L:Lst}{home a b c p:Str}{m:Int}
structure Env(N:a40)(F:Str->Ht)(T:List Tp)(L:Lst)(home:Str):Prop where
 nd:(T.map (·.1)).Nodup
 ok:∀t∈T,TOk N F t
 tot:∀a∈N,∀b∈N,z5 (F a) (sk b)=some (dd F a b)
 nn:∀a∈N,∀b∈N,0<=dd F a b
 tri:∀a∈N,∀b∈N,∀c∈N,dd F a c<=dd F a b+dd F b c
 l:LOk N L F
 hh:home∈N
 ml:T.length<=7
def Gq(R:Ring N W N.length)(e:∀z,c6 z W (F z))(q:a∈N)(n:b∈N):(z5 (F a) (sk b)).isSome=true:=by
 obtain⟨i,g,ei⟩:=a3J q;obtain⟨j,f,r⟩:=a3J n;have d:∀{k:Nat}(h:k<N.length),N.getD k ""=N[k]:=λ{k} h=>by rw[a01,a0n h];rfl
 have l:∀k,(z5 (F a) (sk (N.getD ((i+k) % N.length) ""))).isSome=true:=by
  intro k
  induction k with
  |zero=>rw[Nat.add_zero,Nat.mod_eq_of_lt g,d g,ei,(e a).1.own];rfl
  |succ k s=>obtain⟨x,v⟩:=a0U.mp s;obtain⟨m,o⟩:=R ((i+k) % N.length) (Nat.mod_lt _ (by omega));obtain⟨y,w,_⟩:=(e a).2 _ o x v;rw[show(i+(k+1)) % N.length=((i+k) % N.length+1) % N.length by rw[Nat.mod_add_mod];rfl];exact a0U.mpr ⟨y,w⟩
 have:=l (j+(N.length-i));rw[show i+(j+(N.length-i))=j+N.length by omega,Nat.add_mod_right,Nat.mod_eq_of_lt f,d f,r]at this;exact this
def Ra(h:WS N W)(R:Ring N W N.length)(g:∀z,c6 z W (F z))(n:(T.map (·.1)).Nodup)(ok:∀t∈T,TOk N F t)(l:LOk N L F)(q:home∈N)(o:T.length<=7):Env N F T L home:=by
 have d:∀a∈N,∀b∈N,z5 (F a) (sk b)=some (dd F a b):=λa f b e=>by obtain⟨y,s⟩:=a0U.mp (Gq R g f e);unfold dd;rw[s];rfl
 refine⟨n,ok,d,λa f b e=>(g a).1.pos _ _ (d a f b e),λa f b e c j=>?_,l,q,o⟩;obtain⟨y,r,i⟩:=oM h (g a) (de h (g b) e _ (a0e _) (d b e c j)) _ (d a f b e);rw[d a f c j]at i;cases i;exact r
def DH(E:Env N F T L home)(e:t∈T)(d:u∈T):lnk F t u=true↔t.2.2.2.2.1+dd F t.2.2.1 u.2.1<=u.2.2.2.1:=by unfold lnk;rw[E.tot _ (E.ok t e).goal _ (E.ok u d).org];exact a1A
def Rb(E:Env N F T L home)(d:t∈T):dd F t.2.1 t.2.2.1<=t.2.2.2.2.1-t.2.2.2.1:=by obtain⟨y,e,l⟩:=(E.ok t d).len;unfold dd;rw[e];exact l
theorem DI(E:Env N F T L home):∀{us:List Tp}{p:Str},(∀t∈us,t∈T)->p∈N->Cn F p us
 |[],_,_,_=>trivial
 |t::R,p,h,hp=>⟨⟨_,E.tot _ hp _ (E.ok t (h t u8)).org,E.nn _ hp _ (E.ok t (h t u8)).org⟩,DI E (λx d=>h x (a0a _ d)) (E.ok t (h t u8)).goal⟩
def bg(F:Str->Ht)(home:Str):List Tp->Int
 |[]=>0
 |t::_=>t.2.2.2.1-dd F home t.2.1
def shp(F:Str->Ht)(home:Str)(us:List Tp):List Rw:=(prs F home (bg F home us) us++[Vp (eM (bg F home us) us) (eM (bg F home us) us+dd F (eP home us) home)]).filter bl
def DJ:(shp F home us).length<=3*us.length+1:=by refine a0y sS ?_;rw[a0g,di];exact a0e _
def Gr(E:Env N F T L home)(h:∀t∈us,t∈T)(d:us≠[])(n:Lk F us)(f:us.length<=1000):Yb [tbV N W F T,.s home,nmL us]=.ok (rsP (shp F home us)):=by
 have j:=P_ (W:=W) E.hh (gz (W:=W) E.nd E.ok h n);cases us with
 |nil=>exact absurd rfl d
 |cons u R=>have l:eP home (u::R)∈N:=DF (λx o=>E.ok x (h x o)) E.hh;have g:=Gn (W:=W) E.nd E.ok h E.hh rfl (DI E h E.hh) f (E.tot _ l _ E.hh);exact TY rfl (by rw[a0g,di];show _+1<=_;omega) (MY (W:=W) E.nd E.ok h E.hh (λa i b e=>by rw[E.tot a i b e];rfl) rfl (a2O (a1h u R)).symm j) g
def MZ(E:Env N F T L home)(d:t∈T):jw [.l [tP t],.s home,.dt L]=.ok (rsP (shp F home [t])):=
 DG (us:=[t]) E.l (λx e=>by rw[a0l.mp e];exact E.ok t d) E.hh rfl (DI E (λx e=>by rw[a0l.mp e];exact d) E.hh) (show 1<=1000 by decide) (E.tot _ (E.ok t d).goal _ E.hh) rfl
end
section
variable {N:a40}{F:Str->Ht}{T us R:List Tp}{t u:Tp}{L:Lst}{home p q:Str}{m n d e M k:Int}
def CH(F:Str->Ht):Str->Int->List Tp->Prop
 |_,_,[]=>True
 |p,m,t::R=>m+dd F p t.2.1<=t.2.2.2.1/\CH F t.2.2.1 t.2.2.2.2.1 R
def wk(F:Str->Ht)(home:Str):Str->List Tp->Int
 |p,[]=>dd F p home
 |p,t::R=>dd F p t.2.1+(t.2.2.2.2.1-t.2.2.2.1)+wk F home t.2.2.1 R
def en(F:Str->Ht)(home:Str):Str->Int->List Tp->Int
 |p,m,[]=>m+dd F p home
 |_,_,t::R=>en F home t.2.2.1 t.2.2.2.2.1 R
def dn(k w d:Int):Int:=if k<=w then 0 else d
def pq(F:Str->Ht)(M k:Int):Str->Int->Int->List Tp->Prop
 |_,_,_,[]=>True
 |p,m,d,t::R=>dn k (t.2.2.2.1-(m+dd F p t.2.1)) d+(t.2.2.2.2.1-t.2.2.2.1)<=M/\pq F M k t.2.2.1 t.2.2.2.2.1 (dn k (t.2.2.2.1-(m+dd F p t.2.1)) d+(t.2.2.2.2.1-t.2.2.2.1)) R
def TZ(h:d<=e)(a:0<=e)(b:x<=w):dn k w d<=dn k x e:=by unfold dn;split<;>split<;>omega
def DK(a:0<=e):0<=dn k w e:=by unfold dn;split<;>omega
def Env.du(E:Env N F T L home)(h:∀x∈t::R,x∈T):t∈T/\t.2.1∈N/\t.2.2.1∈N/\0<t.2.2.2.2.1-t.2.2.2.1/\dd F t.2.1 t.2.2.1<=t.2.2.2.2.1-t.2.2.2.1/\∀x∈R,x∈T:=by have a:=h t u8;have k:=E.ok t a;have:=k.fw;exact⟨a,k.org,k.goal,by omega,Rb E a,λx b=>h x (a0a _ b)⟩
theorem sU(E:Env N F T L home):∀{us:List Tp}{p:Str}{m d e:Int},(∀t∈us,t∈T)->d<=e->0<=e->pq F M k p m e us->pq F M k p m d us
 |[],_,_,_,_,_,_,_,_=>trivial
 |t::R,p,m,d,e,h,f,c,hp=>by obtain⟨_,_,_,i,_,g⟩:=E.du h;have a:=TZ (k:=k) f c (a03 (t.2.2.2.1-(m+dd F p t.2.1)));have b:=DK (k:=k) (w:=t.2.2.2.1-(m+dd F p t.2.1)) c;exact⟨a2g (by omega) hp.1,sU E g (by omega) (by omega) hp.2⟩
def DL(E:Env N F T L home)(h:∀x∈t::u::R,x∈T)(hp:p∈N):u.2.2.2.1-(m+dd F p u.2.1) ≥ (t.2.2.2.1-(m+dd F p t.2.1))+(u.2.2.2.1-(t.2.2.2.2.1+dd F t.2.2.1 u.2.1)):=by obtain⟨_,c,g,_,l,i⟩:=E.du h;obtain⟨_,f,j,_,o,_⟩:=E.du i;have a:=E.tri _ hp _ c _ f;have b:=E.tri _ c _ g _ f;omega
def CH.drop(E:Env N F T L home)(h:∀x∈t::R,x∈T)(hp:p∈N)(c:CH F p m (t::R)):CH F p m R:=by
 cases R with
 |nil=>trivial
 |cons u R=>have w:=DL (m:=m) E h hp;have a:=c.1;have b:=c.2.1;exact⟨by omega,c.2.2⟩
def CH.rm(E:Env N F T L home):∀{us:List Tp}{p:Str}{m:Int}(i:Nat),(∀t∈us,t∈T)->p∈N->CH F p m us->CH F p m (us.eraseIdx i)
 |[],_,_,_,_,_,_=>trivial
 |t::R,p,m,0,h,hp,a=>a.drop E h hp
 |t::R,p,m,i+1,h,hp,a=>⟨a.1,CH.rm E i (E.du h).2.2.2.2.2 (E.du h).2.2.1 a.2⟩
def M3(E:Env N F T L home)(h:∀x∈t::R,x∈T)(hp:p∈N)(f:CH F p m (t::R))(l:0<=d)(c:pq F M k p m d (t::R)):pq F M k p m d R:=by
 cases R with
 |nil=>trivial
 |cons u R=>
  have w:=DL (m:=m) E h hp;obtain⟨_,D,s,v,C,j⟩:=E.du h;obtain⟨_,z,B,r,y,o⟩:=E.du j;have a:=f.1;have b:=f.2.1;have g:=DK (k:=k) (w:=t.2.2.2.1-(m+dd F p t.2.1)) l;have i:dn k (u.2.2.2.1-(m+dd F p u.2.1)) d<=dn k (u.2.2.2.1-(t.2.2.2.2.1+dd F t.2.2.1 u.2.1)) (dn k (t.2.2.2.1-(m+dd F p t.2.1)) d+(t.2.2.2.2.1-t.2.2.2.1)):=by unfold dn at g ⊢;split<;>split<;>split at g<;>(try split)<;>omega
  have A:=DK (k:=k) (w:=u.2.2.2.1-(t.2.2.2.2.1+dd F t.2.2.1 u.2.1)) (e:=dn k (t.2.2.2.1-(m+dd F p t.2.1)) d+(t.2.2.2.2.1-t.2.2.2.1)) (by omega);exact⟨a2g (by omega) c.2.1,sU E o (by omega) (by omega) c.2.2⟩
theorem Rc(E:Env N F T L home):∀{us:List Tp}{p:Str}{m d:Int}(i:Nat),(∀t∈us,t∈T)->p∈N->CH F p m us->0<=d->pq F M k p m d us->pq F M k p m d (us.eraseIdx i)
 |[],_,_,_,_,_,_,_,_,_=>trivial
 |t::R,p,m,d,0,h,hp,c,b,a=>M3 E h hp c b a
 |t::R,p,m,d,i+1,h,hp,c,b,a=>by obtain⟨_,_,g,f,_,j⟩:=E.du h;have l:=DK (k:=k) (w:=t.2.2.2.1-(m+dd F p t.2.1)) b;exact⟨a.1,Rc E i j g c.2 (by omega) a.2⟩
def Rf(E:Env N F T L home)(h:∀x∈u::R,x∈T)(i:0<=d)(c:pq F M k p m d (u::R)):pq F M k q n 0 (u::R):=by
 obtain⟨_,_,_,f,_,g⟩:=E.du h;have a:dn k (u.2.2.2.1-(n+dd F q u.2.1)) 0=0:=by unfold dn;split<;>rfl
 have b:=DK (k:=k) (w:=u.2.2.2.1-(m+dd F p u.2.1)) i;show _/\_;rw[a];exact⟨a2g (by omega) c.1,sU E g (by omega) (by omega) c.2⟩
theorem Rg(E:Env N F T L home):∀{us:List Tp}{p:Str}(i:Nat),(∀t∈us,t∈T)->p∈N->wk F home p (us.eraseIdx i)<=wk F home p us
 |[],_,_,_,_=>a03 _
 |[t],p,0,h,hp=>by obtain⟨_,o,g,_,l,_⟩:=E.du h;have a:=E.tri _ hp _ o _ E.hh;have b:=E.tri _ o _ g _ E.hh;show dd F p home<=dd F p t.2.1+(t.2.2.2.2.1-t.2.2.2.1)+dd F t.2.2.1 home;omega
 |t::u::R,p,0,h,hp=>by obtain⟨_,c,j,_,l,r⟩:=E.du h;obtain⟨_,f,_,_,_,_⟩:=E.du r;have a:=E.tri _ hp _ c _ f;have b:=E.tri _ c _ j _ f;show dd F p u.2.1+(u.2.2.2.2.1-u.2.2.2.1)+wk F home u.2.2.1 R<=dd F p t.2.1+(t.2.2.2.2.1-t.2.2.2.1)+(dd F t.2.2.1 u.2.1+(u.2.2.2.2.1-u.2.2.2.1)+wk F home u.2.2.1 R);omega
 |t::R,p,i+1,h,hp=>by have:=Rg E i (E.du h).2.2.2.2.2 (E.du h).2.2.1;show dd F p t.2.1+(t.2.2.2.2.1-t.2.2.2.1)+wk F home t.2.2.1 (R.eraseIdx i)<=dd F p t.2.1+(t.2.2.2.2.1-t.2.2.2.1)+wk F home t.2.2.1 R;omega
theorem Rh(E:Env N F T L home):∀{us:List Tp}{p:Str}{m:Int}(i:Nat),(∀t∈us,t∈T)->p∈N->CH F p m us->en F home p m (us.eraseIdx i)<=en F home p m us
 |[],_,_,_,_,_,_=>a03 _
 |[t],p,m,0,h,hp,f=>by obtain⟨_,o,g,_,j,_⟩:=E.du h;have a:=E.tri _ hp _ o _ E.hh;have b:=E.tri _ o _ g _ E.hh;have c:=f.1;show m+dd F p home<=t.2.2.2.2.1+dd F t.2.2.1 home;omega
 |t::u::R,p,m,0,_,_,_=>a03 _
 |t::R,p,m,i+1,h,hp,f=>Rh E i (E.du h).2.2.2.2.2 (E.du h).2.2.1 f.2
theorem oU(E:Env N F T L home):∀{R:List Tp}{t:Tp},(∀x∈t::R,x∈T)->(Lk F (t::R)↔CH F t.2.2.1 t.2.2.2.2.1 R)
 |[],_,_=>a32
 |u::R,t,h=>and_congr (DH E (E.du h).1 (h u (a0a _ u8))) (oU E (E.du h).2.2.2.2.2)
def T1(E:Env N F T L home)(h:∀x∈us,x∈T)(a:Lk F us):CH F home (bg F home us) us:=by
 cases us with
 |nil=>trivial
 |cons t R=>exact⟨by show t.2.2.2.1-dd F home t.2.1+dd F home t.2.1<=t.2.2.2.1;omega,(oU E h).mp a⟩
def T2(E:Env N F T L home)(h:∀x∈us,x∈T)(c:Lk F us)(a:us.eraseIdx i≠[]):bg F home us<=bg F home (us.eraseIdx i):=by
 cases us with
 |nil=>exact absurd rfl a
 |cons t R=>
  cases i with
  |succ i=>exact a03 _
  |zero=>
   cases R with
   |nil=>exact absurd rfl a
   |cons u R=>have w:=DL (m:=bg F home (t::u::R)) E h E.hh;have b:=((oU E h).mp c).1;show t.2.2.2.1-dd F home t.2.1<=u.2.2.2.1-dd F home u.2.1;have:bg F home (t::u::R)=t.2.2.2.1-dd F home t.2.1:=rfl;omega
def T4(E:Env N F T L home)(h:∀x∈us,x∈T)(b:Lk F us)(i:Nat):Lk F (us.eraseIdx i):=by
 cases us with
 |nil=>trivial
 |cons t R=>
  cases i with
  |succ i=>exact(oU E λx a=>(a0r.mp a).elim (λe=>e▸h t u8) λa=>h x (a0a _ (a3d a))).mpr (((oU E h).mp b).rm E i (E.du h).2.2.2.2.2 (E.du h).2.2.1)
  |zero=>
   cases R with
   |nil=>trivial
   |cons u R=>exact b.2
inductive Rl
 |r|span (m:Int)|work (m:Int)|pause (m k:Int)|shift (a b:Int)
def Rl.fit(F:Str->Ht)(home:Str)(us:List Tp):Rl->Prop
 |.r=>True
 |.span m=>en F home home (bg F home us) us-bg F home us<=m
 |.work m=>wk F home home us<=m
 |.pause m k=>pq F m k home (bg F home us) 0 us
 |.shift a b=>a<=bg F home us/\en F home home (bg F home us) us<=b
def Ri(E:Env N F T L home)(h:∀x∈us,x∈T)(g:Lk F us){i:Nat}(f:us.eraseIdx i≠[]){r:Rl}(hf:r.fit F home us):r.fit F home (us.eraseIdx i):=by
 have c:=T1 E h g;have b:=T2 E h g f;have w:=Rg E i h E.hh;have e:en F home home (bg F home (us.eraseIdx i)) (us.eraseIdx i)<=en F home home (bg F home us) us:=by
  have a:=Rh E i h E.hh c;cases q:us.eraseIdx i with
  |nil=>exact absurd q f
  |cons u R=>rw[q]at a;exact a
 cases r with
 |r=>trivial
 |span m=>have hf:_<=m:=hf;show _<=m;omega
 |work m=>exact a2g w hf
 |shift x y=>have s:=hf.1;have o:=hf.2;exact⟨by omega,by omega⟩
 |pause m k=>
  have j:=Rc E i h E.hh c (a03 0) hf;show pq F m k home (bg F home (us.eraseIdx i)) 0 (us.eraseIdx i);cases q:us.eraseIdx i with
  |nil=>exact absurd q f
  |cons u R=>rw[q]at j;exact Rf E (λx l=>h x (a3d (by rw[q];exact l))) (a03 0) j
end
section
variable {N:a40}{F:Str->Ht}{T us R:List Tp}{t u:Tp}{L:Lst}{home p:Str}{m d e M k a b:Int}{l:List Rw}
theorem Rj:∀{us:List Tp}{p:Str}{m:Int},en F home p m us=eM m us+dd F (eP p us) home
 |[],_,_=>rfl
 |_::R,_,_=>Rj (us:=R)
def sm:List Rw->Int
 |[]=>0
 |r::l=>(if r.1="wait" then 0 else r.2.2-r.2.1)+sm l
theorem Rk:∀{l:List Rw},(∀r∈l,r.1≠"wait"->r.2.1<=r.2.2)->sm (l.filter bl)=sm l
 |[],_=>rfl
 |r::l,h=>by
  have f:=Rk λx j=>h x (a0a _ j);have i:=h r u8;rw[a0X];unfold bl;by_cases c:r.2.1<r.2.2
  .rw[a0f c,if_pos rfl];unfold sm;exact a0O _ f
  .rw[a0k c,if_neg a0q];show sm (l.filter bl)=(if r.1="wait" then 0 else r.2.2-r.2.1)+sm l;rw[f];split
   .omega
   .rename_i g;have:=i g;omega
theorem Iq{x:Int}:∀{us:List Tp}{p:Str}{m:Int},sm (prs F p m us++[Vp (eM m us) (eM m us+dd F (eP p us) home)])=wk F home p us
 |[],p,m=>by show(if("way":Str)="wait" then 0 else(m+dd F p home)-m)+0=dd F p home;rw[if_neg (by decide)];omega
 |t::R,p,m=>by have c:=Iq (x:=x) (us:=R) (p:=t.2.2.1) (m:=t.2.2.2.2.1);show(if("way":Str)="wait" then 0 else(m+dd F p t.2.1)-m)+((if("wait":Str)="wait" then 0 else t.2.2.2.1-(m+dd F p t.2.1))+((if("trip":Str)="wait" then 0 else t.2.2.2.2.1-t.2.2.2.1)+sm (prs F t.2.2.1 t.2.2.2.2.1 R++[Vp (eM t.2.2.2.2.1 R) (eM t.2.2.2.2.1 R+dd F (eP t.2.2.1 R) home)])))=dd F p t.2.1+(t.2.2.2.2.1-t.2.2.2.1)+wk F home t.2.2.1 R;rw[c,if_neg (by decide),if_pos rfl,if_neg (by decide)];omega
theorem Ir(E:Env N F T L home):∀{us:List Tp}{p:Str}{m:Int},(∀t∈us,t∈T)->p∈N->∀r∈prs F p m us,r.1≠"wait"->r.2.1<=r.2.2
 |[],_,_,_,_,r,c,_=>nomatch c
 |t::R,p,m,h,hp,r,c,i=>by
  obtain⟨_,o,g,f,_,j⟩:=E.du h;have:=E.nn _ hp _ o;rcases a0A.mp c with c|c
  .simp only[List.mem_cons,List.not_mem_nil,or_false]at c;rcases c with rfl|rfl|rfl
   .show m<=m+_;omega
   .exact absurd rfl i
   .show t.2.2.2.1<=t.2.2.2.2.1;omega
  .exact Ir E j g r c i
def Iu(E:Env N F T L home)(h:∀t∈us,t∈T):sm (shp F home us)=wk F home home us:=by
 unfold shp;rw[Rk,Iq (x:=0)];intro r c f;rcases a0A.mp c with c|c
 .exact Ir E h E.hh r c f
 .rw[a0l.mp c];have:=E.nn _ (DF (λx g=>E.ok x (h x g)) E.hh:eP home us∈N) _ E.hh;show eM _ us<=eM _ us+_;omega
def Nx(h:r.2.1<r.2.2):(r::l).filter bl=r::l.filter bl:=a3i (p:=bl) (a0f h)
def Sd(h:¬r.2.1<r.2.2):(r::l).filter bl=l.filter bl:=a3j (p:=bl) (λz=>h (a0Q z))
def oV(E:Env N F T L home)(h:∀x∈t::R,x∈T):∃r l,shp F home (t::R)=r::l/\r.2.1=bg F home (t::R):=by
 obtain⟨_,o,g,f,_,j⟩:=E.du h;have:=E.nn _ E.hh _ o;have c:bg F home (t::R)=t.2.2.2.1-dd F home t.2.1:=rfl;unfold shp;rw[bf,a0w];show ∃r l,List.filter bl (Vp (bg F home (t::R)) (bg F home (t::R)+dd F home t.2.1)::rWt (bg F home (t::R)+dd F home t.2.1) t.2.2.2.1::rTr t.2.2.2.1 t.2.2.2.2.1::_)=_/\_;by_cases i:0<dd F home t.2.1
 .rw[Nx (by show bg F home (t::R)<bg F home (t::R)+_;omega)];exact⟨_,_,rfl,rfl⟩
 .rw[Sd (by show ¬bg F home (t::R)<bg F home (t::R)+_;omega),Sd (by show ¬bg F home (t::R)+_<t.2.2.2.1;omega),Nx (by show t.2.2.2.1<t.2.2.2.2.1;omega)];exact⟨_,_,rfl,by show t.2.2.2.1=_;omega⟩
theorem xp(E:Env N F T L home):∀{us:List Tp}{p:Str}{m:Int},(∀t∈us,t∈T)->us≠[]->∃X r,prs F p m us=X++[r]/\r.2.1<r.2.2/\r.2.2=eM m us
 |[],_,_,_,h=>absurd rfl h
 |[t],p,m,h,_=>⟨[_,_],rTr t.2.2.2.1 t.2.2.2.2.1,rfl,(E.ok t (h t u8)).fw,rfl⟩
 |t::u::R,p,m,h,_=>by obtain⟨X,r,e,g,c⟩:=xp E (us:=u::R) (p:=t.2.2.1) (m:=t.2.2.2.2.1) (λx f=>h x (a0a _ f)) (a1h _ _);exact⟨[_,_,_]++X,r,by rw[bf,e,a0w];rfl,g,c⟩
def Gs(E:Env N F T L home)(h:∀x∈us,x∈T)(c:us≠[]):∃l r,shp F home us=l++[r]/\r.2.2=en F home home (bg F home us) us:=by
 obtain⟨X,r,e,i,f⟩:=xp E (p:=home) (m:=bg F home us) h c;have j:=E.nn _ (DF (λx g=>E.ok x (h x g)) E.hh:eP home us∈N) _ E.hh;unfold shp;rw[Rj,a1P];by_cases o:0<dd F (eP home us) home
 .rw[Nx (by show eM (bg F home us) us<eM (bg F home us) us+_;omega)];exact⟨_,_,rfl,rfl⟩
 .rw[Sd (by show ¬eM (bg F home us) us<eM (bg F home us) us+_;omega),e,a1P,Nx i];exact⟨_,r,a0s _,by rw[f];omega⟩
def pzR(M k:Int):Int->List Rw->Prop
 |_,[]=>True
 |d,r::l=>if r.1="trip" then d+(r.2.2-r.2.1)<=M/\pzR M k (d+(r.2.2-r.2.1)) l else pzR M k (if r.1="wait"/\k<=r.2.2-r.2.1 then 0 else d) l
def Rm:pzR M k d (Vp a b::l)↔pzR M k d l:=by show(if("way":Str)="trip" then _ else pzR M k (if("way":Str)="wait"/\k<=b-a then 0 else d) l)↔_;rw[if_neg (by decide),if_neg (λh=>absurd h.1 (by decide))]
def M4:pzR M k d (rWt a b::l)↔pzR M k (dn k (b-a) d) l:=by
 show(if("wait":Str)="trip" then _ else pzR M k (if("wait":Str)="wait"/\k<=b-a then 0 else d) l)↔_;rw[if_neg (by decide)];unfold dn;by_cases h:k<=b-a
 .rw[if_pos ⟨rfl,h⟩,if_pos h]
 .rw[if_neg (λz=>h z.2),if_neg h]
def M5:pzR M k d (rTr a b::l)↔d+(b-a)<=M/\pzR M k (d+(b-a)) l:=by show(if("trip":Str)="trip" then _ else _)↔_;rw[if_pos rfl]
def DM:pzR M k d ((Vp a b::l).filter bl)↔pzR M k d (l.filter bl):=by
 rw[a0X];split
 .exact Rm
 .exact a32
def Gu(c:1<=k):pzR M k d ((rWt a b::l).filter bl)↔pzR M k (dn k (b-a) d) (l.filter bl):=by
 rw[a0X];split
 .exact M4
 .rename_i h;have:¬a<b:=λz=>h (a0f z);unfold dn;rw[if_neg (by omega)]
theorem Rn(E:Env N F T L home)(c:1<=k):∀{us:List Tp}{p:Str}{m d:Int},(∀t∈us,t∈T)->(pzR M k d ((prs F p m us++[Vp a b]).filter bl)↔pq F M k p m d us)
 |[],p,m,d,_=>by show pzR M k d ([Vp a b].filter bl)↔True;rw[DM];exact a32
 |t::R,p,m,d,h=>by rw[bf,a0w];show pzR M k d (List.filter bl (Vp _ _::rWt _ _::rTr t.2.2.2.1 t.2.2.2.2.1::(prs F t.2.2.1 t.2.2.2.2.1 R++[Vp a b])))↔_;rw[DM,Gu c,Nx (by exact(E.ok t (h t u8)).fw),M5,Rn E c (E.du h).2.2.2.2.2];exact a32
end
section
variable {N:a40}{F:Str->Ht}{T us R:List Tp}{t:Tp}{L:Lst}{home p:Str}{m d e M k a b:Int}{l:List Rw}{r:Rl}
abbrev ruP:Rl->PV
 |.r=>.o 13 []
 |.span m=>.o 14 [("most",.i m)]
 |.work m=>.o 15 [("most",.i m)]
 |.pause m k=>.o 16 [("most",.i m),("least",.i k)]
 |.shift a b=>.o 17 [("first",.i a),("last",.i b)]
def Rl.ok:Rl->Prop
 |.pause _ k=>1<=k
 |_=>True
def ft(F:Str->Ht)(home:Str)(us:List Tp)(r:Rl):Bool:=@decide (r.fit F home us) (Classical.propDecidable _)
def xq:ft F home us r=true↔r.fit F home us:=@a1A _ (Classical.propDecidable _)
def AE(h:c=true↔r.fit F home us):ft F home us r=c:=Bool.eq_iff_iff.mpr (xq.trans h.symm)
def Ro{r:Rw}{ρ:Sto}{x:ME}(h:x ρ=.ok (rsP (r::l))):mOp pIx x (mC (.i 0)) ρ=.ok (rP r):=by refine zq h rfl ?_;show j8 (atI (rP r::_) 0)=_;rw[LV];rfl
def Rp{r:Rw}{ρ:Sto}{x:ME}(h:x ρ=.ok (rsP (l++[r]))):mOp pIx x (mUn pO (mC (.i 1))) ρ=.ok (rP r):=by refine zq h rfl ?_;show j8 (atI ((l++[r]).map rP) (-1))=_;rw[uo,a0z];show j8 ((l.map rP++[rP r]).getLast?)=_;rw[a13];rfl
def xt(E:Env N F T L home)(h:∀x∈t::R,x∈T)(c:x ρ=.ok (rsP (shp F home (t::R)))):mOp pIx (mOp pIx x (mC (.i 0))) (mC (.i 1)) ρ=.ok (.i (bg F home (t::R))):=by obtain⟨r,l,e,f⟩:=oV E h;rw[e]at c;rw[<- f];exact zq (x:=rP r) (Ro c) rfl rfl
def xu(E:Env N F T L home)(h:∀x∈us,x∈T)(f:us≠[])(c:x ρ=.ok (rsP (shp F home us))):mOp pIx (mOp pIx x (mUn pO (mC (.i 1)))) (mC (.i 2)) ρ=.ok (.i (en F home home (bg F home us) us)):=by obtain⟨l,r,e,g⟩:=Gs E h f;rw[e]at c;rw[<- g];exact zq (x:=rP r) (Rp c) rfl rfl
def DN(E:Env N F T L home)(h:∀x∈t::R,x∈T)(f:zd 1 ρ=.ok (rsP (shp F home (t::R))))(g:x ρ=.ok (.b c)):Np (mOp (ke false) (zi Yo (zb (zd 1) zk)) (mC (.i 0))) x ρ=.ok (.b c):=by obtain⟨r,l,e,_⟩:=oV E h;unfold Np;rw[zq (z:=.b false) (zw (xs:=[rsP (shp F home (t::R))]) (zp f rfl) Yy) rfl (LW.trans (by rw[e,a0b,a0k (by omega)];rfl))];exact g
theorem DO:∀{l:List Rw},((l.filter λr:Rw=>!decide (r.1=("wait":Str))).map λr:Rw=>r.2.2-r.2.1).sum=sm l
 |[]=>rfl
 |r::l=>by
  unfold sm;rw[a0X,<- DO (l:=l)];by_cases h:r.1=("wait":Str)
  .rw[a0f h,if_pos h];show List.sum (List.map _ (List.filter _ l))=_;omega
  .rw[a0k h,if_neg h];show r.2.2-r.2.1+_=_;rfl
theorem DP{X:PV}:∀{l:List Rw}{d:Int}{x y z:a4g},(pzR M k d l->∃d' x' y' z',Zg Z6 jg (l.map rP) [some (ruP (.pause M k)),some X,some (.i d),x,y,z]=.ok (.nx [some (ruP (.pause M k)),some X,some (.i d'),x',y',z']))/\(¬pzR M k d l->Zg Z6 jg (l.map rP) [some (ruP (.pause M k)),some X,some (.i d),x,y,z]=.ok (.rt (.b false)))
 |[],d,x,y,z=>⟨λ_=>⟨d,x,y,z,rfl⟩,λh=>absurd trivial h⟩
 |r::l,d,x,y,z=>by
  let ρ:=λe:Int=>([some (ruP (.pause M k)),some X,some (.i e),some (.s r.1),some (.i r.2.1),some (.i r.2.2)]:Sto)
  have c1:=Yw (zU (zq (f:=ke false) (a:=zd 3) (b:=mC (.s "wait")) (ρ:=ρ d) (x:=.s r.1) rfl rfl dS)) (zU (m:=mOp pGe (mOp WH (zd 5) (zd 4)) (vV [16] "least" (zd 0))) (ρ:=ρ d) (b:=decide (r.2.2-r.2.1 ≥ k)) (zq (x:=.i (r.2.2-r.2.1)) (y:=.i k) rfl rfl rfl));have s1:sIf (fP (z9 (mOp (ke false) (zd 3) (mC (.s "wait")))) (z9 (mOp pGe (mOp WH (zd 5) (zd 4)) (vV [16] "least" (zd 0))))) (z8 2 (mC (.i 0))) zR (ρ d)=.ok (.nx (ρ (if r.1="wait"/\k<=r.2.2-r.2.1 then 0 else d))):=by
   refine(ya c1).trans ?_;by_cases h:r.1="wait"/\k<=r.2.2-r.2.1
   .rw[if_pos h,a0f h.1,a0f h.2];rfl
   .rw[if_neg h];by_cases h1:r.1="wait"
    .rw[a0k (λz=>h ⟨h1,z⟩),a1W];rfl
    .rw[a0k h1];rfl
  have c2:=λe=>zU (zq (f:=ke false) (a:=zd 3) (b:=mC (.s "trip")) (ρ:=ρ e) (x:=.s r.1) rfl rfl dS);unfold pzR;by_cases ht:r.1="trip"
  .rw[if_pos ht];rw[if_neg (λz=>absurd (ht.symm.trans z.1) (by decide))]at s1;have c2:=c2 d;rw[a0f ht]at c2;have s2:OS 2 (pI λa b=>.i (a+b)) (mOp WH (zd 5) (zd 4)) (ρ d)=.ok (.nx (ρ (d+(r.2.2-r.2.1)))):=rfl;have c3:z9 (mOp pGt (zd 2) (vV [14,15,16] "most" (zd 0))) (ρ (d+(r.2.2-r.2.1)))=.ok (decide (d+(r.2.2-r.2.1)>M)):=rfl;by_cases hM:d+(r.2.2-r.2.1)<=M
   .rw[a0k (by omega)]at c3;have st:jg (ρ d)=.ok (.nx (ρ (d+(r.2.2-r.2.1)))):=zc ⟨_,s1,(ya c2).trans (zc ⟨_,s2,(ya c3).trans rfl⟩)⟩;obtain⟨i1,i2⟩:=DP (X:=X) (l:=l) (d:=d+(r.2.2-r.2.1)) (x:=some (.s r.1)) (y:=some (.i r.2.1)) (z:=some (.i r.2.2));refine⟨λh=>?_,λh=>(yQ (x:=rP r) rfl st).trans (i2 λz=>h ⟨hM,z⟩)⟩;obtain⟨d',x',y',z',e⟩:=i1 h.2;exact⟨d',x',y',z',(yQ (x:=rP r) rfl st).trans e⟩
   .rw[a0f (by omega)]at c3;exact⟨λh=>absurd h.1 hM,λ_=>MW (x:=rP r) (ρ1:=ρ d) rfl (zc ⟨_,s1,(ya c2).trans (zc ⟨_,s2,(ya c3).trans rfl⟩)⟩)⟩
  .rw[if_neg ht];have c2:=c2 (if r.1="wait"/\k<=r.2.2-r.2.1 then 0 else d);rw[a0k ht]at c2;have st:jg (ρ d)=_:=zc ⟨_,s1,(ya c2).trans rfl⟩;obtain⟨i1,i2⟩:=DP (X:=X) (l:=l) (d:=if r.1="wait"/\k<=r.2.2-r.2.1 then 0 else d) (x:=some (.s r.1)) (y:=some (.i r.2.1)) (z:=some (.i r.2.2));refine⟨λh=>?_,λh=>(yQ (x:=rP r) rfl st).trans (i2 h)⟩;obtain⟨d',x',y',z',e⟩:=i1 h;exact⟨d',x',y',z',(yQ (x:=rP r) rfl st).trans e⟩
def zaH:Rl->List PV->Out PV
 |.r=>zX
 |.span _=>zW
 |.work _=>zY
 |.pause _ _=>zP
 |.shift _ _=>zO
def Rq(E:Env N F T L home)(h:∀x∈us,x∈T)(j:us≠[])(G:us.length<=100)(w:r.ok):zaH r [ruP r,rsP (shp F home us)]=.ok (.b (ft F home us r)):=by
 obtain⟨t,R,rfl⟩:=a1e j;cases r with
 |r=>rw[AE (r:=.r) (F:=F) (home:=home) (us:=t::R) (c:=true) ⟨λ_=>trivial,λ_=>rfl⟩];rfl
 |span m=>rw[AE (r:=.span m) (F:=F) (home:=home) (us:=t::R) (c:=decide (en F home home (bg F home (t::R)) (t::R)-bg F home (t::R)<=m)) a1A];exact zC (Yx (DN E h rfl (zq (zq (xu E h j rfl) (xt E h rfl) rfl) (y:=.i m) rfl rfl)))
 |shift x y=>rw[AE (r:=.shift x y) (F:=F) (home:=home) (us:=t::R) (c:=decide (x<=bg F home (t::R))&&decide (en F home home (bg F home (t::R)) (t::R)<=y)) (by rw[a1G,a1A,a1A];exact a32)];exact zC (Yx (DN E h rfl (Dh (zq (x:=.i x) rfl (xt E h rfl) rfl) (zq (y:=.i y) (xu E h j rfl) rfl rfl))))
 |work m=>
  rw[AE (r:=.work m) (F:=F) (home:=home) (us:=t::R) (c:=decide (wk F home home (t::R)<=m)) a1A];have s:=Q5 (g:=KU) (c:=KW) (e:=KY) rP (λr=>!decide (r.1="wait")) (λr=>PV.i (r.2.2-r.2.1)) (λo=>∃x y z,o=[x,y,z]) (shp F home (t::R)) [none,none,none] [] ⟨_,_,_,rfl⟩ (λr _ o ⟨x,y,z,e⟩=>by
   subst e;exact⟨_,rfl,⟨_,_,_,rfl⟩,zU (zq (x:=.s r.1) rfl rfl (dS.trans (by rw[a17]))),λ_=>rfl⟩) (by have:=DJ (F:=F) (home:=home) (us:=t::R);show 0+_<=_;omega)
  have i:Hg [.l ((List.filter (λr:Rw=>!decide (r.1="wait")) (shp F home (t::R))).map λr=>PV.i (r.2.2-r.2.1))]=.ok (.i (wk F home home (t::R))):=by rw[<- Iu E h,<- DO,<- Hr,a0L];rfl
  exact zC (zc ⟨_,zK (zw (zp (Zd (zA rfl) s) rfl) i),Yx (DN E h rfl (zq (x:=.i (wk F home home (t::R))) (y:=.i m) rfl rfl rfl))⟩)
 |pause m k=>
  obtain⟨A,v⟩:=DP (M:=m) (k:=k) (X:=rsP (shp F home (t::R))) (l:=shp F home (t::R)) (d:=0) (x:=none) (y:=none) (z:=none);have iff:=Rn (M:=m) (k:=k) E w (us:=t::R) (p:=home) (m:=bg F home (t::R)) (d:=0) (a:=eM (bg F home (t::R)) (t::R)) (b:=eM (bg F home (t::R)) (t::R)+dd F (eP home (t::R)) home) h;by_cases f:pq F m k home (bg F home (t::R)) 0 (t::R)
  .rw[AE (r:=.pause m k) (F:=F) (home:=home) (us:=t::R) (c:=true) ⟨λ_=>f,λ_=>rfl⟩];obtain⟨B,D,H,C,e⟩:=A (iff.mpr f);exact zC (zc ⟨_,rfl,zc ⟨_,yZ (zA rfl) e,rfl⟩⟩)
  .rw[AE (r:=.pause m k) (F:=F) (home:=home) (us:=t::R) (c:=false) ⟨λz=>absurd z a0q,λz=>absurd z f⟩];exact zC (zc ⟨_,rfl,Q3 (yZ (zA rfl) (v λz=>f (iff.mp z)))⟩)
end
section
variable {N:a40}{F:Str->Ht}{T:List Tp}{t:Tp}{L:Lst}{home q:Str}{m e k a b c:Int}{l:List Rw}{r:Rl}{ns:a4k}
abbrev spP:Rl->PV
 |.r=>.t [.s "rule"]
 |.span m=>.t [.s "span",.i m]
 |.work m=>.t [.s "work",.i m]
 |.pause m k=>.t [.s "pause",.i m,.i k]
 |.shift a b=>.t [.s "shift",.i a,.i b]
def xw{g:Tp->Int}(h:T≠[]):∃x,x9 [.l (T.map λt=>.i (g t))]=.ok (.i x)/\∀t∈T,g t<=x:=by refine⟨AU (T.map g),?_,λt f=>rC (a0N f)⟩;show j8 ((AS (T.map λt=>.i (g t))).bind λns=>if ns=[]then none else some (PV.i (AU ns)))=_;rw[show(T.map λt=>PV.i (g t))=(T.map g).map PV.i by rw[a0L];rfl,aW];show j8 (if T.map g=[]then none else some (PV.i (AU (T.map g))))=_;rw[if_neg (λz=>h (a3K.mp z))];rfl
def Rr{g:Tp->Int}(h:T≠[]):∃x,CV [.l (T.map λt=>.i (g t))]=.ok (.i x)/\∀t∈T,x<=g t:=by refine⟨A4 (T.map g),?_,λt f=>rN (a0N f)⟩;show j8 ((AS (T.map λt=>.i (g t))).bind λns=>if ns=[]then none else some (PV.i (A4 ns)))=_;rw[show(T.map λt=>PV.i (g t))=(T.map g).map PV.i by rw[a0L];rfl,aW];show j8 (if T.map g=[]then none else some (PV.i (A4 (T.map g))))=_;rw[if_neg (λz=>h (a3K.mp z))];rfl
def zbi(E:Env N F T L home)(h:t∈T):∃A B:List Rw,(∀r∈A++B,r.1="way")/\shp F home [t]=A++rTr t.2.2.2.1 t.2.2.2.2.1::B:=by
 have j:∀x∈[t],x∈T:=λx i=>by rw[a0l.mp i];exact h
 have f:=(E.ok t h).fw;have w:∀a b:Int,∀r∈([Vp a b].filter bl),r.1="way":=λa b r g=>by rw[a0l.mp (a1j.mp g).1]
 refine⟨[Vp (bg F home [t]) (bg F home [t]+dd F home t.2.1)].filter bl,[Vp (eM (bg F home [t]) [t]) (eM (bg F home [t]) [t]+dd F (eP home [t]) home)].filter bl,λr g=>(a0A.mp g).elim (w _ _ r) (w _ _ r),?_⟩;unfold shp;show List.filter bl ([Vp (bg F home [t]) (bg F home [t]+dd F home t.2.1)]++(rWt (bg F home [t]+dd F home t.2.1) t.2.2.2.1::rTr t.2.2.2.1 t.2.2.2.2.1::[Vp (eM (bg F home [t]) [t]) (eM (bg F home [t]) [t]+dd F (eP home [t]) home)]))=_;rw[a1P,Sd (r:=rWt (bg F home [t]+dd F home t.2.1) t.2.2.2.1) (by show ¬t.2.2.2.1-dd F home t.2.1+dd F home t.2.1<t.2.2.2.1;omega),Nx (r:=rTr t.2.2.2.1 t.2.2.2.2.1) f]
theorem lU{X:a4g}{acc:PV}:∀{l:List Rw}{x y z:a4g}{B:a4h},(∀r∈l,r.1="way")->∃x' y' z',Zg k_ vc (l.map rP++B) [X,some (.i 1),some acc,x,y,z]=Zg k_ vc B [X,some (.i 1),some acc,x',y',z']
 |[],x,y,z,_,_=>⟨x,y,z,rfl⟩
 |r::l,x,y,z,B,h=>by
  obtain⟨x',y',z',e⟩:=lU (X:=X) (acc:=acc) (l:=l) (x:=some (.s r.1)) (y:=some (.i r.2.1)) (z:=some (.i r.2.2)) (B:=B) λq hq=>h q (a0a _ hq);have hr:=h r u8
  let ρ:Sto:=[X,some (.i 1),some acc,some (.s r.1),some (.i r.2.1),some (.i r.2.2)]
  have c1:=Yw (zU (zq (f:=ke false) (a:=zd 3) (b:=mC (.s "wait")) (ρ:=ρ) (x:=.s r.1) rfl rfl dS)) (zU (m:=mOp pGe (mOp WH (zd 5) (zd 4)) (zd 1)) (ρ:=ρ) (b:=decide (r.2.2-r.2.1 ≥ 1)) (zq (x:=.i (r.2.2-r.2.1)) (y:=.i 1) rfl rfl rfl));have c2:=zU (zq (f:=ke false) (a:=zd 3) (b:=mC (.s "trip")) (ρ:=ρ) (x:=.s r.1) rfl rfl dS);rw[hr,show decide (("way":Str)="wait")=false by decide]at c1;rw[hr,show decide (("way":Str)="trip")=false by decide]at c2;exact⟨x',y',z',(yQ (x:=rP r) (ρ1:=ρ) rfl (zc ⟨_,(ya c1).trans rfl,(ya c2).trans rfl⟩)).trans e⟩
def M6(E:Env N F T L home)(j:t∈T):zi x9 (zb (zi km (zb (zd 0) (zb (mC (.i 1)) zk))) zk) [some (rsP (shp F home [t]))]=.ok (.i (t.2.2.2.2.1-t.2.2.2.1)):=by obtain⟨A,B,h,e⟩:=zbi E j;rw[e];obtain⟨x,y,z,o⟩:=lU (X:=some (rsP (A++rTr t.2.2.2.1 t.2.2.2.2.1::B))) (acc:=.l [.i 0]) (l:=A) (x:=none) (y:=none) (z:=none) (B:=rP (rTr t.2.2.2.1 t.2.2.2.2.1)::B.map rP) λr f=>h r (a0J _ f);obtain⟨C,D,w,i⟩:=lU (X:=some (rsP (A++rTr t.2.2.2.1 t.2.2.2.2.1::B))) (acc:=.l [.i (0+t.2.2.2.2.1-t.2.2.2.1)]) (l:=B) (x:=some (.s "trip")) (y:=some (.i t.2.2.2.1)) (z:=some (.i t.2.2.2.2.1)) (B:=[]) λr f=>h r (a0p _ f);rw[a0s]at i;have s:Zg k_ vc (rP (rTr t.2.2.2.1 t.2.2.2.2.1)::B.map rP) [some (rsP (A++rTr t.2.2.2.1 t.2.2.2.2.1::B)),some (.i 1),some (.l [.i 0]),x,y,z]=_:=yQ (g:=k_) (b:=vc) (ρ2:=[some (rsP (A++rTr t.2.2.2.1 t.2.2.2.2.1::B)),some (.i 1),some (.l [.i (0+t.2.2.2.2.1-t.2.2.2.1)]),some (.s "trip"),some (.i t.2.2.2.1),some (.i t.2.2.2.2.1)]) rfl (zc ⟨_,(ya (x:=false) (Yw (x:=false) (zU (zq (x:=.s "trip") rfl rfl (dS.trans (by rw[show decide (("trip":Str)="wait")=false by decide];rfl)))) (zU (b:=decide (t.2.2.2.2.1-t.2.2.2.1 ≥ 1)) (zq (x:=.i (t.2.2.2.2.1-t.2.2.2.1)) (y:=.i 1) rfl rfl rfl)))).trans rfl,(ya (x:=true) (zU (zq (x:=.s "trip") rfl rfl (dS.trans (by rw[show decide (("trip":Str)="trip")=true by decide];rfl))))).trans rfl⟩);have v:km [rsP (A++rTr t.2.2.2.1 t.2.2.2.2.1::B),.i 1]=.ok (.l [.i (0+t.2.2.2.2.1-t.2.2.2.1)]):=zC (zc ⟨_,rfl,zc ⟨_,yZ (xs:=A.map rP++rP (rTr t.2.2.2.1 t.2.2.2.2.1)::B.map rP) (zA (by show Out.ok (PV.l ((A++rTr t.2.2.2.1 t.2.2.2.2.1::B).map rP))=_;rw[a0z];rfl)) (o.trans (s.trans i)),rfl⟩⟩);refine zw (zp (zw rfl v) rfl) ?_;show Out.ok (PV.i (0+t.2.2.2.2.1-t.2.2.2.1))=_;rw[Int.zero_add]
def Sg(F:Str->Ht)(home:Str)(T:List Tp)(r:Rl):Prop:=r.ok/\∀t∈T,r.fit F home [t]
abbrev spS(ns:a4k)(shs:PV)(gs ws ds:PV)(rs:List Rl)(x y z w:a4g):Sto:=[some (.sc ns),some (.i 35),some shs,some gs,some ws,some ds,some (.l (rs.map spP)),x,y,z,w]
def ifm(h:zd 8 ρ=.ok (.i c)):sIf (z9 (mOp (ke false) (mOp zQ (zd 8) (mC (.i 5))) (mC (.i i)))) A zR ρ=if c % 5=i then A ρ else .ok (.nx ρ):=by
 refine(ya (gq (vm h (by decide)))).trans ?_;by_cases q:c % 5=i
 .rw[a0f q,if_pos rfl,if_pos q]
 .rw[a0k q,if_neg a0q,if_neg q];rfl
def oW(h:ρ[6]?=some (some (.l (rs.map spP))))(f:me ρ=.ok (spP r))(g:rs.length<100):X3 6 me ρ=.ok (.nx (ρ.set 6 (some (.l ((rs++[r]).map spP))))):=by rw[oJ h f (by rw[v4];omega),show rs.map spP++[spP r]=(rs++[r]).map spP by rw[a0z];rfl]
end
def AF(E:Env N F T L home)(b:t.2.2.2.2.1-t.2.2.2.1<=M)(a:1<=k):(Rl.pause M k).fit F home [t]:=by
 have:dn k (t.2.2.2.1-(bg F home [t]+dd F home t.2.1)) 0=0:=by unfold dn;split<;>rfl
 exact⟨by rw[this];omega,trivial⟩
def Gv(E:Env N F T L home)(K:T≠[]):∃d:List Rl,d.length<=10/\(∀r∈d,Sg F home T r)/\jA [.sc ns,.i 35,.l (T.map λt=>rsP (shp F home [t]))]=.ok (.l (d.map spP)):=by
 have H:∀{t},t∈T->∀x∈[t],x∈T:=λ{t} f x hx=>by rw[a0l.mp hx];exact f
 have m:T.length<=100000:=by have:=E.ml;omega
 have q1:=qD (g:=K6) (e:=K7) (λt=>rsP (shp F home [t])) (λt=>.i (en F home home (bg F home [t]) [t]-bg F home [t])) (λj=>∃o,j=[o]) T [none] ⟨none,rfl⟩ (λt f j ⟨o,B⟩=>by
  subst B;exact⟨_,rfl,⟨_,rfl⟩,zq (xu E (H f) (a1h _ _) rfl) (xt E (H f) rfl) rfl⟩) m
 have q3:=qD (g:=Va) (e:=Vb) (λt=>rsP (shp F home [t])) (λt=>.i (wk F home home [t])) (λj=>∃o,j=[o]) T [none] ⟨none,rfl⟩ (λt f j ⟨o,B⟩=>by
  subst B;have lc:=Q5 (g:=K8) (c:=K9) (e:=K_) rP (λr=>!decide (r.1=("wait":Str))) (λr=>PV.i (r.2.2-r.2.1)) (λj=>∃x,j=[x]) (shp F home [t]) [none] [] ⟨_,rfl⟩ (λr _ j ⟨x,e⟩=>by
   subst e;exact⟨_,rfl,⟨_,rfl⟩,zU (zq (x:=.s r.1) rfl rfl (dS.trans (by rw[a17]))),λ_=>rfl⟩) (by have:=DJ (F:=F) (home:=home) (us:=[t]);rw[a1c]at this;show 0+_<=_;omega)
  have X:Hg [.l ((List.filter (λr:Rw=>!decide (r.1=("wait":Str))) (shp F home [t])).map λr=>PV.i (r.2.2-r.2.1))]=.ok (.i (wk F home home [t])):=by rw[<- Iu E (H f),<- DO,<- Hr,a0L];rfl
  exact⟨_,rfl,⟨_,rfl⟩,zw (zp (Zd (zA rfl) lc) rfl) X⟩) m
 have q4:=qD (g:=Vc) (e:=Vd) (λt=>rsP (shp F home [t])) (λt=>.i (t.2.2.2.2.1-t.2.2.2.1)) (λj=>∃o,j=[o]) T [none] ⟨none,rfl⟩ (λt f j ⟨o,B⟩=>by
  subst B;exact⟨_,rfl,⟨_,rfl⟩,M6 E f⟩) m
 have q5:=qD (g:=Ve) (e:=Vf) (λt=>rsP (shp F home [t])) (λt=>.i (bg F home [t])) (λj=>∃o,j=[o]) T [none] ⟨none,rfl⟩ (λt f j ⟨o,B⟩=>by
  subst B;exact⟨_,rfl,⟨_,rfl⟩,xt E (H f) rfl⟩) m
 have q6:=qD (g:=Vg) (e:=Vh) (λt=>rsP (shp F home [t])) (λt=>.i (en F home home (bg F home [t]) [t])) (λj=>∃o,j=[o]) T [none] ⟨none,rfl⟩ (λt f j ⟨o,B⟩=>by
  subst B;exact⟨_,rfl,⟨_,rfl⟩,xu E (H f) (a1h _ _) rfl⟩) m
 obtain⟨U,eg,fg⟩:=xw (g:=λt=>en F home home (bg F home [t]) [t]-bg F home [t]) K;obtain⟨R,ew,fw⟩:=xw (g:=λt=>wk F home home [t]) K;obtain⟨md,ed,fd⟩:=xw (g:=λt=>t.2.2.2.2.1-t.2.2.2.1) K;obtain⟨J,eb,fb⟩:=Rr (g:=λt=>bg F home [t]) K;obtain⟨P,ee,fe⟩:=xw (g:=λt=>en F home home (bg F home [t]) [t]) K;obtain⟨O,p0,e0⟩:=Qb (ns:=ns) (k:=35) (p:=65521) (by decide) (by decide);generalize hgs:PV.l (T.map λt=>.i (en F home home (bg F home [t]) [t]-bg F home [t]))=gs at q1 eg;generalize hws:PV.l (T.map λt=>.i (wk F home home [t]))=ws at q3 ew;generalize hds:PV.l (T.map λt=>.i (t.2.2.2.2.1-t.2.2.2.1))=ds at q4 ed;obtain⟨ρ',⟨d,x,y,z,w,lr,Z,I⟩,el⟩:=YL (g:=Xh) (b:=Xi) (λk j=>∃d x y z w,d.length<=k/\(∀r∈d,Sg F home T r)/\j=spS ns (.l (T.map λt=>rsP (shp F home [t]))) gs ws ds d x y z w) (1+O % 4).toNat (spS ns (.l (T.map λt=>rsP (shp F home [t]))) gs ws ds [] none none none none) ⟨[],none,none,none,none,a0e _,λr Y=>(nomatch Y),rfl⟩ (λk hk j ⟨d,x,y,z,w,lr,Z,I⟩=>by
  subst I;obtain⟨c,pc,ec⟩:=Qb (ns:=ns) (k:=35+k) (p:=65537) (by omega) (by decide);obtain⟨v,hv,ev⟩:=uR (xs:=[c / 5 % 40,c / 5 % 400,c / 5 % 3000]) (i:=c / 7 % 3) (a0H _ (by decide)) (a0C _ (by decide));have v0:0<=v:=by simp only[List.mem_cons,List.not_mem_nil,or_false]at hv;omega
  have u:d.length<100:=by omega
  let St:=λ(d:List Rl) (w:a4g)=>spS ns (.l (T.map λt=>rsP (shp F home [t]))) gs ws ds d (some (.i (k:Int))) (some (.i c)) (some (.i v)) w
  have s9:z8 9 (mOp pIx (V1 (zb (mOp zQ (mOp qM (zd 8) (mC (.i 5))) (mC (.i 40))) (zb (mOp zQ (mOp qM (zd 8) (mC (.i 5))) (mC (.i 400))) (zb (mOp zQ (mOp qM (zd 8) (mC (.i 5))) (mC (.i 3000))) zk)))) (mOp zQ (mOp qM (zd 8) (mC (.i 7))) (mC (.i 3)))) (spS ns (.l (T.map λt=>rsP (shp F home [t]))) gs ws ds d (some (.i (k:Int))) (some (.i c)) z w)=.ok (.nx (St d w)):=
   zK (zq (lL (xs:=[.i (c / 5 % 40),.i (c / 5 % 400),.i (c / 5 % 3000)]) (zp (vm (c4 rfl (by decide) (by decide)) (by decide)) (zp (vm (c4 rfl (by decide) (by decide)) (by decide)) (zp (vm (c4 rfl (by decide) (by decide)) (by decide)) rfl))) (a0m rfl)) (vm (c4 rfl (by decide) (by decide)) (by decide)) ev)
  have Q:∀{o:MS},(∃s W,s.length<=k+1/\(∀r∈s,Sg F home T r)/\o (St d w)=.ok (.nx (St s W)))->∃G,(∃d x y z w,d.length<=k+1/\(∀r∈d,Sg F home T r)/\G=spS ns (.l (T.map λt=>rsP (shp F home [t]))) gs ws ds d x y z w)/\(zI (z8 8 (zi yh (zb (zd 0) (zb (mOp z0 (zd 1) (zd 7)) (zb (mC (.i 65537)) zk))))) (zI (z8 9 (mOp pIx (V1 (zb (mOp zQ (mOp qM (zd 8) (mC (.i 5))) (mC (.i 40))) (zb (mOp zQ (mOp qM (zd 8) (mC (.i 5))) (mC (.i 400))) (zb (mOp zQ (mOp qM (zd 8) (mC (.i 5))) (mC (.i 3000))) zk)))) (mOp zQ (mOp qM (zd 8) (mC (.i 7))) (mC (.i 3))))) o) (spS ns (.l (T.map λt=>rsP (shp F home [t]))) gs ws ds d (some (.i (k:Int))) y z w)=.ok (.nx G)\/zI (z8 8 (zi yh (zb (zd 0) (zb (mOp z0 (zd 1) (zd 7)) (zb (mC (.i 65537)) zk))))) (zI (z8 9 (mOp pIx (V1 (zb (mOp zQ (mOp qM (zd 8) (mC (.i 5))) (mC (.i 40))) (zb (mOp zQ (mOp qM (zd 8) (mC (.i 5))) (mC (.i 400))) (zb (mOp zQ (mOp qM (zd 8) (mC (.i 5))) (mC (.i 3000))) zk)))) (mOp zQ (mOp qM (zd 8) (mC (.i 7))) (mC (.i 3))))) o) (spS ns (.l (T.map λt=>rsP (shp F home [t]))) gs ws ds d (some (.i (k:Int))) y z w)=.ok (.ct G)):=λ{o} ⟨s,W,H,h2,h3⟩=>⟨_,⟨s,_,_,_,W,H,h2,rfl⟩,.inl (zc ⟨_,zK (zw (xs:=[.sc ns,.i (35+k),.i 65537]) rfl ec),zc ⟨_,s9,h3⟩⟩)⟩;have q:∀{r:Rl},Sg F home T r->(d++[r]).length<=k+1/\∀S∈d++[r],Sg F home T S:=λ{r} h=>⟨by rw[a0g];show d.length+1<=_;omega,λS Y=>(a0A.mp Y).elim (Z S) λz=>by rw[a0l.mp z];exact h⟩;have l:∀{d:List Rl}{w:a4g}{A:MS}{i:Int},c % 5≠i->sIf (z9 (mOp (ke false) (mOp zQ (zd 8) (mC (.i 5))) (mC (.i i)))) A zR (St d w)=.ok (.nx (St d w)):=λh=>(ifm rfl).trans (if_neg h);have M:∀{d:List Rl}{w:a4g}{A:MS}{i:Int}{o:Out Fw},c % 5=i->A (St d w)=o->sIf (z9 (mOp (ke false) (mOp zQ (zd 8) (mC (.i 5))) (mC (.i i)))) A zR (St d w)=o:=λh a=>(ifm rfl).trans ((if_pos h).trans a);refine⟨_,rfl,Q ?_⟩;obtain h|h|h|h|h:c % 5=0\/c % 5=1\/c % 5=2\/c % 5=3\/c % 5=4:=by omega
  .obtain⟨C,D⟩:=q (r:=.span (U+v)) ⟨trivial,λt f=>by have:=fg t f;show _<=U+v;omega⟩;exact⟨_,w,C,D,zc ⟨_,M h (oW (r:=.span (U+v)) rfl (Qa (zp rfl (zp (zq (zw (xs:=[gs]) rfl eg) rfl rfl) rfl)) (a0m rfl)) u),zc ⟨_,l (by omega),zc ⟨_,l (by omega),zc ⟨_,l (by omega),l (by omega)⟩⟩⟩⟩⟩
  .obtain⟨C,D⟩:=q (r:=.work (R+v)) ⟨trivial,λt f=>by have:=fw t f;show _<=R+v;omega⟩;exact⟨_,w,C,D,zc ⟨_,l (by omega),zc ⟨_,M h (oW (r:=.work (R+v)) rfl (Qa (zp rfl (zp (zq (zw (xs:=[ws]) rfl ew) rfl rfl) rfl)) (a0m rfl)) u),zc ⟨_,l (by omega),zc ⟨_,l (by omega),l (by omega)⟩⟩⟩⟩⟩
  .obtain⟨C,D⟩:=q (r:=.pause (md+v) (1+c / 35 % 60)) ⟨show 1<=1+c / 35 % 60 by omega,λt f=>AF E (by have:=fd t f;omega) (by omega)⟩;exact⟨_,w,C,D,zc ⟨_,l (by omega),zc ⟨_,l (by omega),zc ⟨_,M h (oW (r:=.pause (md+v) (1+c / 35 % 60)) rfl (Qa (zp rfl (zp (zq (zw (xs:=[ds]) rfl ed) rfl rfl) (zp (zq (x:=.i 1) rfl (vm (c4 rfl (by decide) (by decide)) (by decide)) rfl) rfl))) (a0m rfl)) u),zc ⟨_,l (by omega),l (by omega)⟩⟩⟩⟩⟩
  .obtain⟨C,D⟩:=q (r:=.shift (J-v) (P+v)) ⟨trivial,λt f=>⟨by have:=fb t f;omega,by have:=fe t f;show _<=P+v;omega⟩⟩;exact⟨_,some (.i J),C,D,zc ⟨_,l (by omega),zc ⟨_,l (by omega),zc ⟨_,l (by omega),zc ⟨_,M h (zc ⟨St d (some (.i J)),zK (zw (zp (Zd (zA rfl) q5) rfl) eb),oW (r:=.shift (J-v) (P+v)) rfl (Qa (zp rfl (zp (zq (x:=.i J) (y:=.i v) rfl rfl rfl) (zp (zq (x:=.i P) (y:=.i v) (zw (zp (Zd (zA rfl) q6) rfl) ee) rfl rfl) rfl))) (a0m rfl)) u⟩),l (by omega)⟩⟩⟩⟩⟩
  .obtain⟨C,D⟩:=q (r:=.r) ⟨trivial,λt f=>trivial⟩;exact⟨_,w,C,D,zc ⟨_,l (by omega),zc ⟨_,l (by omega),zc ⟨_,l (by omega),zc ⟨_,l (by omega),M h (oW (r:=.r) rfl (Qa (zp rfl rfl) (a0m rfl)) u)⟩⟩⟩⟩⟩)
 subst I;have b0:0<=O % 4:=a0H _ (by decide);have b1:O % 4<4:=a0C _ (by decide);refine⟨d,by omega,Z,zC (zc ⟨_,zK (Zd (zA rfl) q1),zc ⟨_,zK (Zd (zA rfl) q3),zc ⟨_,zK (Zd (zA rfl) q4),zc ⟨_,rfl,zc ⟨_,yZ (Ct (n:=1+O % 4) (zp (zq (x:=.i 1) rfl (vm (zw (xs:=[.sc ns,.i 35,.i 65521]) rfl e0) (by decide)) rfl) rfl) (by omega) (by omega)) el,rfl⟩⟩⟩⟩⟩)⟩
section
variable {N:a40}{F:Str->Ht}{T us:List Tp}{t:Tp}{L:Lst}{home q:Str}{m k:Int}{r:Rl}{rs:List Rl}{ro:PV}
def M7:v7 [spP r]=.ok (ruP r):=by
 have a:∀{x y:Str}{A:MS}{b:Sto},x≠y->mOp pIx (zd 0) (mC (.i 0)) b=.ok (.s x)->sIf (z9 (mOp (ke false) (mOp pIx (zd 0) (mC (.i 0))) (mC (.s y)))) A zR b=.ok (.nx b):=λh e=>(ya (zU (zq e rfl (dS.trans (by rw[a0k h]))))).trans rfl;have c:∀{x:Str}{A:MS}{b:Sto}{o:Out Fw},mOp pIx (zd 0) (mC (.i 0)) b=.ok (.s x)->A b=o->sIf (z9 (mOp (ke false) (mOp pIx (zd 0) (mC (.i 0))) (mC (.s x)))) A zR b=o:=λe h=>(ya (x:=true) (zU (zq e rfl (dS.trans (by rw[a0f rfl];rfl))))).trans h;cases r with
 |r=>exact zC (zc ⟨_,a (by decide) rfl,zc ⟨_,a (by decide) rfl,zc ⟨_,a (by decide) rfl,zc ⟨_,a (by decide) rfl,rfl⟩⟩⟩⟩)
 |span m=>exact zC (Q3 (c rfl rfl))
 |work m=>exact zC (zc ⟨_,a (by decide) rfl,Q3 (c rfl rfl)⟩)
 |pause m k=>exact zC (zc ⟨_,a (by decide) rfl,zc ⟨_,a (by decide) rfl,Q3 (c rfl rfl)⟩⟩)
 |shift m k=>exact zC (zc ⟨_,a (by decide) rfl,zc ⟨_,a (by decide) rfl,zc ⟨_,a (by decide) rfl,Q3 (c rfl rfl)⟩⟩⟩)
def alP(rs:List Rl):PV:=.o 18 [("rules",.l (rs.map ruP))]
def Gw:qb [.l (rs.map ruP)]=.ok (alP rs):=rfl
def e9(F:Str->Ht)(T:List Tp)(home:Str)(ro:PV)(q:List Tp->Bool):Prop:=∀{us:List Tp}{a:ME}{c:MA}{b:Sto},(∀x∈us,x∈T)->us≠[]->us.length<=100->a b=.ok ro->c b=.ok [rsP (shp F home us)]->yE [(13,zX),(14,zW),(15,zY),(16,zP),(17,zO),(18,z_)] "fits" a c b=.ok (.b (q us))
def T5(e:a ρ=.ok (ruP r))(d:ms ρ=.ok [l]):yE [(13,zX),(14,zW),(15,zY),(16,zP),(17,zO)] "fits" a ms ρ=zaH r [ruP r,l]:=by
 unfold yE;rw[e,okb];cases r with
 |r=>show(if(List.lookup ("fits":Str) ([]:List (Str×PV))).isSome=true then Out.wall else(ms ρ).bind λc=>zX (_::c))=_;rw[Q4,if_neg (by intro z;cases z),d,okb];rfl
 |span m=>show(if(List.lookup ("fits":Str) [("most",PV.i m)]).isSome=true then Out.wall else(ms ρ).bind λc=>zW (_::c))=_;rw[yi (by decide +kernel),Q4,if_neg (by intro z;cases z),d,okb];rfl
 |work m=>show(if(List.lookup ("fits":Str) [("most",PV.i m)]).isSome=true then Out.wall else(ms ρ).bind λc=>zY (_::c))=_;rw[yi (by decide +kernel),Q4,if_neg (by intro z;cases z),d,okb];rfl
 |pause m k=>show(if(List.lookup ("fits":Str) [("most",PV.i m),("least",PV.i k)]).isSome=true then Out.wall else(ms ρ).bind λc=>zP (_::c))=_;rw[yi (by decide +kernel),yi (by decide +kernel),Q4,if_neg (by intro z;cases z),d,okb];rfl
 |shift a b=>show(if(List.lookup ("fits":Str) [("first",PV.i a),("last",PV.i b)]).isSome=true then Out.wall else(ms ρ).bind λc=>zO (_::c))=_;rw[yi (by decide +kernel),yi (by decide +kernel),Q4,if_neg (by intro z;cases z),d,okb];rfl
def M8(E:Env N F T L home)(v:∀r∈rs,r.ok)(x:rs.length<=100):e9 F T home (alP rs) λus=>rs.all (ft F home us):=λ{us a w b} h d c j n=>by
 unfold yE;rw[j,okb];show(if(List.lookup ("fits":Str) [("rules",PV.l (rs.map ruP))]).isSome=true then Out.wall else(w b).bind λs=>z_ (alP rs::s))=_;rw[yi (by decide +kernel),Q4,if_neg (by intro z;cases z),n,okb];have e:=qD (g:=Jt) (e:=Ju) ruP (λr=>.b (ft F home us r)) (λb=>∃o,b=[o,some (rsP (shp F home us))]) rs [none,some (rsP (shp F home us))] ⟨none,rfl⟩ (λr l b ⟨o,i⟩=>by
  subst i;exact⟨_,rfl,⟨_,rfl⟩,(T5 rfl rfl).trans (Rq E h d c (v r l))⟩) (by omega)
 have f:vV [18] "rules" (zd 0) [some (alP rs),some (rsP (shp F home us))]=.ok (.l (rs.map ruP)):=by show(if 18∈[18]then j8 (List.lookup ("rules":Str) [("rules",PV.l (rs.map ruP))])else .wall)=_;rw[if_pos u8,bJ];rfl
 exact zC (Yx (zw (zp (Zd (zA f) e) rfl) iu))
structure Qok(F:Str->Ht)(T:List Tp)(home:Str)(q:List Tp->Bool):Prop where
 one:∀t∈T,q [t]=true
 rm:∀{us:List Tp}{i:Nat},(∀x∈us,x∈T)->Lk F us->us.eraseIdx i≠[]->q us=true->q (us.eraseIdx i)=true
def T6(E:Env N F T L home)(a:∀r∈rs,Sg F home T r):Qok F T home λus=>rs.all (ft F home us)where
 one t ht:=a1d.mpr λr h=>xq.mpr ((a r h).2 t ht)
 rm h hk hn hq:=a1d.mpr λr a=>xq.mpr (Ri E h hk hn (xq.mp (a1d.mp hq r a)))
end
section
variable {N:a40}{F:Str->Ht}{T us vs R:List Tp}{t v:Tp}{L:Lst}{home:Str}{q:List Tp->Bool}
theorem lV:∀{us:List Tp},Lk F (us++[t])->lnk F t v=true->Lk F (us++[t]++[v])
 |[],_,h=>⟨h,trivial⟩
 |[_],a,h=>⟨a.1,h,trivial⟩
 |_::b::R,a,h=>⟨a.1,lV (us:=b::R) a.2 h⟩
theorem Iv:∀{us vs:List Tp},Lk F (us++vs)->Lk F us
 |[],_,_=>trivial
 |[_],_,_=>trivial
 |_::b::R,vs,a=>⟨a.1,Iv (us:=b::R) (vs:=vs) a.2⟩
theorem DQ:∀{us:List Tp},Lk F (us++[t]++[v])->lnk F t v=true
 |[],a=>a.1
 |[_],a=>a.2.1
 |_::b::R,a=>DQ (us:=b::R) a.2
def nxt(F:Str->Ht)(T:List Tp)(t:Tp):List Tp:=(df T).filter (lnk F t)
def ext(F:Str->Ht)(T:List Tp)(q:List Tp->Bool)(us:List Tp):List (List Tp):=match us.getLast? with
 |none=>[]
 |some t=>if us.length=5 then[]else((nxt F T t).map λv=>us++[v]).filter q
def dj:v∈nxt F T t↔v∈T/\lnk F t v=true:=by unfold nxt;rw[a1j,js.mem_iff]
def DR:vs∈ext F T q (us++[t])↔us.length≠4/\∃v∈T,lnk F t v=true/\vs=us++[t]++[v]/\q vs=true:=by
 unfold ext;rw[a13];show vs∈(if(us++[t]).length=5 then[]else _)↔_;rw[a0g,a1c];by_cases h:us.length=4
 .rw[if_pos (by omega)];exact⟨λz=>absurd z a1H,λz=>absurd h z.1⟩
 .rw[if_neg (by omega),a1j,a0S];exact⟨λ⟨⟨v,a,e⟩,g⟩=>⟨h,v,(dj.mp a).1,(dj.mp a).2,e.symm,g⟩,λ⟨_,v,f,d,c,b⟩=>⟨⟨v,dj.mpr ⟨f,d⟩,c.symm⟩,b⟩⟩
structure Gd(F:Str->Ht)(T:List Tp)(q:List Tp->Bool)(us:List Tp):Prop where
 ne:us≠[]
 len:us.length<=5
 sub:∀x∈us,x∈T
 lk:Lk F us
 fit:∀A B,us=A++B->A≠[]->q A=true
def Gd.pre(h:Gd F T q ws)(e:ws=us++vs)(b:us≠[]):Gd F T q us:=by subst e;exact⟨b,by have:=h.len;rw[a0g]at this;omega,λx c=>h.sub x (a0J _ c),Iv h.lk,λA B e a=>h.fit A (B++vs) (by rw[e,a0w]) a⟩
def Gd.snoc(h:Gd F T q (us++[t]))(f:us.length≠4)(a:v∈T)(c:lnk F t v=true)(d:q (us++[t]++[v])=true):Gd F T q (us++[t]++[v])where
 ne:=by simp
 len:=by have:=h.len;simp only[List.length_append,List.length_singleton]at this ⊢;omega
 sub x hx:=(a0A.mp hx).elim (h.sub x) λz=>by rw[a0l.mp z];exact a
 lk:=lV h.lk c
 fit A B e hA:=by
  rcases List.eq_nil_or_concat B with rfl|⟨B,b,rfl⟩
  .rw[a0s]at e;rw[<- e];exact d
  .rw[List.concat_eq_append,<- a0w]at e;exact h.fit A B (a2w e rfl) hA
def Qok.cut(Q:Qok F T home q)(h:∀x∈P++t::S,x∈T)(b:Lk F (P++t::S))(a:P++S≠[])(c:q (P++t::S)=true):q (P++S)=true:=by
 have e:(P++t::S).eraseIdx P.length=P++S:=by rw[a2p (a0e _),a3Y];rfl
 rw[<- e]at a ⊢;exact Q.rm h b a c
def Gd.rm(E:Env N F T L home)(Q:Qok F T home q){P S:List Tp}(h:Gd F T q (P++t::S))(c:P++S≠[]):Gd F T q (P++S)where
 ne:=c
 len:=by have:=h.len;simp only[List.length_append,List.length_cons]at this ⊢;omega
 sub x hx:=h.sub x (by simp only[List.mem_append,List.mem_cons]at hx ⊢;exact hx.imp_right .inr)
 lk:=by
  have e:(P++t::S).eraseIdx P.length=P++S:=by rw[a2p (a0e _),a3Y];rfl
  rw[<- e];exact T4 E h.sub h.lk _
 fit A B e hA:=by
  rcases List.append_eq_append_iff.mp e with⟨C,a,b⟩|⟨C,a,b⟩
  .subst a;have g:=h.pre (us:=P++t::C) (vs:=B) (by rw[b];simp) (by simp);exact Q.cut g.sub g.lk hA (g.fit _ [] (a0s _).symm g.ne)
  .exact h.fit A (C++t::S) (by rw[a,a0w]) hA
end
section
variable {N:a40}{F:Str->Ht}{T us vs R A:List Tp}{t u v:Tp}{L:Lst}{home:Str}{q:List Tp->Bool}{D:List (List Tp)}{w:Nat}
theorem M9(E:Env N F T L home):∀{us:List Tp},(∀x∈us,x∈T)->Lk F us->us.Pairwise λx y=>x.2.2.2.1<y.2.2.2.1
 |[],_,_=>.nil
 |[t],_,_=>List.pairwise_singleton _ _
 |t::u::R,h,d=>by
  obtain⟨i,o,g,f,_,c⟩:=E.du h;have b:=c u u8;have l:=(DH E i b).mp d.1;have j:=E.nn _ g _ (E.ok u b).org;have e:=M9 E c d.2;refine a2Q.mpr ⟨λy a=>?_,e⟩;rcases a0r.mp a with rfl|a
  .omega
  .have:=a1s e a;omega
theorem Iw:∀{us vs:List Tp},us.Pairwise (λx y=>x.2.2.2.1<y.2.2.2.1)->vs.Pairwise (λx y=>x.2.2.2.1<y.2.2.2.1)->(∀x,x∈us↔x∈vs)->us=vs
 |[],[],_,_,_=>rfl
 |[],b::vs,_,_,h=>absurd ((h b).mpr u8) a1H
 |a::us,[],_,_,h=>absurd ((h a).mp u8) a1H
 |a::us,b::vs,g,f,h=>by
  have e:a=b:=by
   rcases a0r.mp ((h a).mp u8)with e|ha
   .exact e
   .rcases a0r.mp ((h b).mpr u8)with e|i
    .exact e.symm
    .have:=a1s g i;have:=a1s f ha;omega
  subst e;rw[Iw (a2Q.mp g).2 (a2Q.mp f).2 λx=>⟨λc=>?_,λc=>?_⟩]
  .rcases a0r.mp ((h x).mp (a0a _ c))with e|d
   .subst e;exact absurd (a1s g c) (Int.lt_irrefl _)
   .exact d
  .rcases a0r.mp ((h x).mpr (a0a _ c))with e|d
   .subst e;exact absurd (a1s f c) (Int.lt_irrefl _)
   .exact d
def subs:List Tp->List (List Tp)
 |[]=>[[]]
 |a::l=>subs l++(subs l).map (a::·)
theorem xx:∀{l:List Tp},(subs l).length=2 ^ l.length
 |[]=>rfl
 |a::l=>by show(subs l++(subs l).map (a::·)).length=2 ^ (l.length+1);rw[a0g,v4,xx,Nat.pow_succ];omega
theorem Wj{p:Tp->Bool}:∀{l:List Tp},l.filter p∈subs l
 |[]=>a0l.mpr rfl
 |a::l=>by
  rw[a0X];show _∈subs l++(subs l).map (a::·);split
  .exact a0p _ (a0N Wj)
  .exact a0J _ Wj
def few(E:Env N F T L home)(l:D.Nodup)(h:∀us∈D,Gd F T q us):D.length<=128:=by
 haveI:DecidableEq (List Tp):=λ_ _=>Classical.propDecidable _
 have a:=Xq (a:=D.map λus=>T.filter λx=>decide (x∈us)) (b:=subs T) (a1T.mpr (a3c (λ{us vs} f d g i=>g (Iw (M9 E (h us f).sub (h us f).lk) (M9 E (h vs d).sub (h vs d).lk) λx=>by
  have j:∀{us vs:List Tp},(∀x∈us,x∈T)->T.filter (λx=>decide (x∈us))=T.filter (λx=>decide (x∈vs))->x∈us->x∈vs:=λ{us vs} s e c=>by have:=a1j (p:=λx=>decide (x∈us)).mpr ⟨s x c,a0f c⟩;rw[e]at this;exact a0Q (a1j.mp this).2
  exact⟨j (h us f).sub i,j (h vs d).sub i.symm⟩)) l)) (λx c=>by
  obtain⟨us,_,rfl⟩:=a0S.mp c;exact Wj)
 rw[v4,xx]at a;exact a0y a (Nat.pow_le_pow_right (by decide) E.ml)
structure BI(F:Str->Ht)(T:List Tp)(q:List Tp->Bool)(D:List (List Tp))(w:Nat):Prop where
 nd:D.Nodup
 gd:∀us∈D,Gd F T q us
 one:∀t∈T,[t]∈D
 cl:∀us∈D.take w,∀v∈ext F T q us,v∈D
 dl:∀us t,us≠[]->us++[t]∈D->us∈D.take w
 le:w<=D.length
def zaI(a:(T.map (·.1)).Nodup):(df T).Nodup:=js.nodup_iff.mpr ((a1T.mp a).imp λh e=>h (a0O _ e))
def BI.init(E:Env N F T L home)(Q:Qok F T home q):BI F T q ((df T).map λt=>[t]) 0 where
 nd:=a1T.mpr ((zaI E.nd).imp λh e=>h (a31.mp e))
 gd us hu:=by
  obtain⟨t,b,rfl⟩:=a0S.mp hu;have b:=js.mem_iff.mp b;exact⟨a1h _ _,by show 1<=5;decide,λx g=>by rw[a0l.mp g];exact b,trivial,λA B e c=>by
   cases A with
   |nil=>exact absurd rfl c
   |cons a A=>
    obtain⟨d,f⟩:=a19 e;obtain⟨rfl,_⟩:=List.append_eq_nil_iff.mp f.symm;rw[<- d];exact Q.one t b⟩
 one t b:=a0S.mpr ⟨t,js.mem_iff.mpr b,rfl⟩
 cl us hu:=absurd hu (by rw[List.take_zero];exact a1H)
 dl us t hn hu:=by obtain⟨x,_,e⟩:=a0S.mp hu;have:=a0O List.length e;rw[a0g,a1c]at this;exact absurd (a2H (by have:=this;simp only[List.length_singleton]at this;omega)) hn
 le:=a0Y _
def Rt(a:(T.map (·.1)).Nodup):(ext F T q us).Nodup:=by
 unfold ext;split
 .exact a2N
 .split
  .exact a2N
  .exact List.filter_sublist.nodup (a1T.mpr ((List.filter_sublist.nodup (zaI a)).imp λh e=>h (a31.mp (List.append_cancel_left e))))
def Um(h:us≠[]):∃A t,us=A++[t]:=⟨us.dropLast,us.getLast h,(a2O h).symm⟩
def BI.step(E:Env N F T L home)(b:BI F T q D w)(i:w<D.length):BI F T q (D++ext F T q D[w]) (w+1):=by
 have l:(D++ext F T q D[w]).take (w+1)=D.take w++[D[w]]:=by rw[List.take_append_of_le_length (by omega),a0W i]
 have g:=b.gd _ (a04 i);have p:D[w]∉D.take w:=λh=>by obtain⟨j,H,e⟩:=List.mem_take_iff_getElem.mp h;have:=(a2d.mp b.nd) j w (by omega) i (by omega);exact this e
 obtain⟨A,t,e⟩:=Um g.ne;have d:∀v∈ext F T q D[w],Gd F T q v/\∃x,v=D[w]++[x]:=λv c=>by rw[e]at c;obtain⟨o,x,f,s,rfl,n⟩:=DR.mp c;rw[e]at g ⊢;exact⟨g.snoc o f s n,x,rfl⟩
 refine⟨a1F.mpr ⟨b.nd,Rt E.nd,λx f y m B=>?_⟩,λus a=>(a0A.mp a).elim (b.gd us) λh=>(d us h).1,λt r=>a0J _ (b.one t r),λus a v c=>?_,λus t G a=>?_,by rw[a0g];omega⟩
 .obtain⟨_,z,rfl⟩:=d y m;subst B;exact p (b.dl _ z g.ne f)
 .rw[l]at a;rcases a0A.mp a with a|a
  .exact a0J _ (b.cl us a v c)
  .rw[a0l.mp a]at c;exact a0p _ c
 .rw[l];rcases a0A.mp a with a|a
  .exact a0J _ (b.dl us t G a)
  .obtain⟨_,x,C⟩:=d _ a;exact a0p _ (a0l.mpr (a2w C rfl))
def BI.all(b:BI F T q D D.length):∀(n:Nat){us:List Tp},us.length<=n->Gd F T q us->us∈D
 |0,us,d,g=>absurd (a2H (by omega)) g.ne
 |n+1,us,d,g=>by
  obtain⟨A,t,rfl⟩:=Um g.ne;by_cases a:A=[]
  .subst a;exact b.one t (g.sub t (a0l.mpr rfl))
  .obtain⟨B,s,rfl⟩:=Um a;have c:=g.len;rw[a0g,a1c]at d c;have hD:=b.all n (by omega) (g.pre rfl a);refine b.cl _ (by rw[a1o];exact hD) _ (DR.mpr ⟨?_,t,g.sub t (a0p _ (a0l.mpr rfl)),DQ g.lk,rfl,g.fit _ [] (a0s _).symm g.ne⟩);rw[a0g,a1c]at c;omega
end
def T7(a:c ρ=.ok true)(d:b ρ=.ok (.nx ρ')):qX c b (n+1) ρ=qX c b n ρ':=by show((c ρ).bind λt=>_)=_;rw[a];show((b ρ).bind λf=>_)=_;rw[d];rfl
def T8(a:c ρ=.ok false):qX c b (n+1) ρ=.ok (.nx ρ):=by show((c ρ).bind λt=>_)=_;rw[a];rfl
section
variable {N:a40}{W:List Wy}{F:Str->Ht}{T us vs R A:List Tp}{t v:Tp}{L:Lst}{home:Str}{q:List Tp->Bool}{ro:PV}{D:List (List Tp)}{w:Nat}
def Ru(h:ρ[i]?=some (some (.l xs)))(a:m ρ=.ok (.l ys))(b:xs.length+ys.length<=100000):Nt i m ρ=.ok (.nx (ρ.set i (some (.l (xs++ys))))):=by unfold Nt;rw[h];simp only[a,okb];rw[if_pos (a0y b (by decide))]
def T9(e:a ρ=.ok (nmL us))(c:b ρ=.ok (nmL vs))(d:us.length+vs.length<=100000):mOp z0 a b ρ=.ok (nmL (us++vs)):=by refine zq e c ?_;show(if((us.map (·.1)).map PV.s).length+((vs.map (·.1)).map PV.s).length<=sizeLine then Out.ok (PV.l ((us.map (·.1)).map PV.s++(vs.map (·.1)).map PV.s))else .wall)=_;rw[if_pos (a0y (by simp only[List.length_map];exact d) (by decide)),<- a0z,<- a0z]
def DS(E:Env N F T L home)(h:∀x∈us,x∈T)(d:us≠[])(i:Lk F us)(f:us.length<=1000)(g:a ρ=.ok (tbV N W F T))(e:b ρ=.ok (.s home))(j:c ρ=.ok (nmL us)):zb (zi Yb (zb a (zb b (zb c zk)))) zk ρ=.ok [rsP (shp F home us)]:=
 zp (zw (zp g (zp e (zp j rfl))) (Gr E h d i f)) rfl
def Rv(a:t∈T):∀x∈[t],x∈T:=λx b=>by rw[a0l.mp b];exact a
def Gx(E:Env N F T L home)(Q:Qok F T home q)(b:e9 F T home ro q)(a:t∈T):qS [tbV N W F T,.s home,ro,.s t.1]=.ok .n:=by refine c9 rfl ((ya (x:=false) (UZ (x:=true) (zU ?_))).trans rfl);refine(b (us:=[t]) (Rv a) (a1h _ _) (by show 1<=100;decide) rfl (DS E (Rv a) (a1h _ _) trivial (by show 1<=1000;decide) rfl rfl (lL (xs:=[.s t.1]) rfl (a0m rfl)))).trans ?_;rw[Q.one t a]
def M_(E:Env N F T L home):(nxt F T t).length<=7:=a0y (a2v _ _) (by rw[dg];exact E.ml)
def DT(E:Env N F T L home)(r:e9 F T home ro q)(g:Gd F T q (A++[t])):yI [tbV N W F T,.s home,ro,nmL (A++[t]),.l ((sQ F T t).map .s)]=.ok (.l ((ext F T q (A++[t])).map nmL)):=by
 have B:=g.len;have C:=M_ (t:=t) E;have b:=gq (n:=5) (zw (ms:=zb (zd 3) zk) (ρ:=[some (tbV N W F T),some (.s home),some ro,some (nmL (A++[t])),some (.l ((sQ F T t).map .s)),none]) (xs:=[nmL (A++[t])]) rfl U0);unfold ext;rw[a13];show _=Out.ok (PV.l (List.map nmL (if(A++[t]).length=5 then[]else _)));by_cases m:(A++[t]).length=5
 .rw[a0f (by omega)]at b;rw[if_pos m];exact zC (Q3 ((ya b).trans rfl))
 .rw[a0k (by omega)]at b;rw[if_neg m];have p:=qD (g:=Zz) (e:=ZA) (λv:Tp=>PV.s v.1) (λv=>nmL (A++[t]++[v])) (λa=>∃o,a=[o,some (nmL (A++[t]))]) (nxt F T t) [none,some (nmL (A++[t]))] ⟨none,rfl⟩ (λv i a ⟨o,f⟩=>by
   subst f;exact⟨_,rfl,⟨_,rfl⟩,T9 (vs:=[v]) rfl (lL (xs:=[.s v.1]) rfl (a0m rfl)) (by show _+1<=_;omega)⟩) (by omega)
  have l:=Q5 (g:=ZC) (c:=ZD) (e:=ZE) (λv=>nmL (A++[t]++[v])) (λv=>q (A++[t]++[v])) (λv=>nmL (A++[t]++[v])) (λa=>∃o,a=[o,some ro,some (tbV N W F T),some (.s home)]) (nxt F T t) [none,some ro,some (tbV N W F T),some (.s home)] [] ⟨none,rfl⟩ (λv i a ⟨o,f⟩=>by
   subst f;obtain⟨h,d⟩:=dj.mp i;have j:∀x∈A++[t]++[v],x∈T:=λx y=>(a0A.mp y).elim (g.sub x) λz=>by rw[a0l.mp z];exact h
   have s:(A++[t]++[v]).length<=100:=by rw[a0g];show _+1<=_;omega
   exact⟨_,rfl,⟨_,rfl⟩,zU (r j (by simp) s rfl (DS E j (by simp) (lV g.lk d) (by omega) rfl rfl rfl)),λ_=>rfl⟩) (by show 0+_<=_;omega)
  rw[a1k]at l;refine zC (zc ⟨_,(ya b).trans rfl,zc ⟨_,zK (Zd (zA (xs:=(nxt F T t).map λv=>PV.s v.1) (by show Out.ok (PV.l ((sQ F T t).map PV.s))=_;unfold sQ nxt;rw[a0L];rfl)) p),Yx ((Zd (zA rfl) l).trans ?_)⟩⟩);rw[List.filter_map,a0L];rfl
abbrev bS(N:a40)(W:List Wy)(F:Str->Ht)(T:List Tp)(home:Str)(ro:PV)(o3:a4g)(D:List (List Tp))(w:Nat)(x:a4g):Sto:=[some (tbV N W F T),some (.s home),some ro,o3,some (.d (yV F T)),some (.l (D.map nmL)),some (.i (w:Int)),x]
theorem bfs(E:Env N F T L home)(l:e9 F T home ro q){o3:a4g}:∀(n:Nat){D:List (List Tp)}{w:Nat}{x:a4g},BI F T q D w->128<=n+w->∃a f,BI F T q a a.length/\∃k,qX Uj gp k (bS N W F T home ro o3 D w x)=.ok (.nx (bS N W F T home ro o3 a a.length f))
 |n,D,w,x,b,z=>by
  have fw:=few E b.nd b.gd;have c:Uj (bS N W F T home ro o3 D w x)=.ok (decide ((w:Int)<(D.length:Int))):=zU (zq (x:=.i (w:Int)) (y:=.i (D.length:Int)) rfl (zw (xs:=[.l (D.map nmL)]) rfl Yy) rfl);by_cases j:w<D.length
  .rw[a0f (by omega)]at c;cases n with
   |zero=>omega
   |succ n=>
    have g:=b.gd _ (a04 j);obtain⟨A,t,e⟩:=Um g.ne;have d:=b.step E j;have h:=few E d.nd d.gd;obtain⟨a,f,o,k,m⟩:=bfs E l (o3:=o3) n (x:=some (nmL D[w])) d (by omega);have p:t∈T:=g.sub t (by rw[e];exact a0p _ (a0l.mpr rfl));refine⟨a,f,o,k+1,(T7 c ?_).trans m⟩;have s:z8 7 (mOp pIx (zd 5) (zd 6)) (bS N W F T home ro o3 D w x)=.ok (.nx (bS N W F T home ro o3 D w (some (nmL D[w])))):=zK (zq rfl rfl (by
     rw[oG (by omega) (by rw[v4];omega),a08];rfl))
    have i:=DT (W:=W) E l (e▸g);rw[<- e]at i;have r:Nt 5 (zi yI (zb (zd 0) (zb (zd 1) (zb (zd 2) (zb (zd 7) (zb (mOp pIx (zd 4) (mOp pIx (zd 7) (mUn pO (mC (.i 1))))) zk)))))) (bS N W F T home ro o3 D w (some (nmL D[w])))=.ok (.nx (bS N W F T home ro o3 (D++ext F T q D[w]) w (some (nmL D[w])))):=by
     refine(Ru (xs:=D.map nmL) (ys:=(ext F T q D[w]).map nmL) rfl (zw (xs:=[tbV N W F T,.s home,ro,nmL D[w],.l ((sQ F T t).map .s)]) (zp rfl (zp rfl (zp rfl (zp rfl (zp (sR E.nd p rfl (sT (A:=A) (by rw[<- e];rfl))) rfl))))) i) (by
      rw[a0g]at h;rw[v4,v4];omega)).trans ?_
     rw[<- a0z];rfl
    exact zc ⟨_,s,zc ⟨_,r,zc ⟨_,ym (zw (xs:=[.l ((D++ext F T q D[w]).map nmL),.i 400]) rfl (lM (k:=(D++ext F T q D[w]).length) Yy (by omega))),rfl⟩⟩⟩
  .rw[a0k (by omega)]at c;have:w=D.length:=by have:=b.le;omega
   subst this;exact⟨D,x,b,1,T8 c⟩
theorem gC(E:Env N F T L home)(Q:Qok F T home q)(g:e9 F T home ro q){a b c d:a4g}:∀{us:List Tp}{o:a4g},(∀x∈us,x∈T)->∃f,Zg gk gm (us.map λt=>.s t.1) [some (tbV N W F T),some (.s home),some ro,o,a,b,c,d]=.ok (.nx [some (tbV N W F T),some (.s home),some ro,f,a,b,c,d])
 |[],o,_=>⟨o,rfl⟩
 |t::R,o,h=>by obtain⟨f,e⟩:=gC E Q g (us:=R) (o:=some (.s t.1)) λx i=>h x (a0a _ i);exact⟨f,(yQ (x:=.s t.1) rfl (ym (zw (xs:=[tbV N W F T,.s home,ro,.s t.1]) rfl (Gx E Q g (h t u8))))).trans e⟩
def DU(E:Env N F T L home)(Q:Qok F T home q)(m:e9 F T home ro q):∃D,BI F T q D D.length/\Kv [tbV N W F T,.s home,ro]=.ok (.l (D.map nmL)):=by
 have l:∀{f:Sto},zd 0 f=.ok (tbV N W F T)->yE [(10,zB),(11,zD)] "names" (zd 0) zk f=.ok (dQ T):=λ{f} h=>by unfold yE;rw[h,okb];show(if(List.lookup ("names":Str) [("roads",roP N W F),("by_name",PV.d (XZ T)),("order",dQ T)]).isSome=true then Out.wall else zB [QS (roP N W F) T])=_;rw[yi (by decide +kernel),yi (by decide +kernel),yi (by decide +kernel),Q4,if_neg (by intro z;cases z)];exact oS
 have s:=P_ (row:=.l []) (W:=W) E.hh (gz (us:=[]) (W:=W) E.nd E.ok (λ_ h=>absurd h a1H) trivial);obtain⟨i,y⟩:=gC (W:=W) E Q m (a:=none) (b:=none) (c:=none) (d:=none) (us:=df T) (o:=none) λx p=>js.mem_iff.mp p;have j:=qD (g:=cP) (e:=cQ) (λt:Tp=>PV.s t.1) (λt=>nmL [t]) (λf=>∃o,f=[o]) (df T) [none] ⟨none,rfl⟩ (λt B f ⟨o,r⟩=>by
  subst r;exact⟨_,rfl,⟨_,rfl⟩,lL (xs:=[.s t.1]) rfl (a0m rfl)⟩) (by rw[dg];have:=E.ml;omega)
 rw[show((df T).map λt=>nmL [t])=((df T).map λt=>[t]).map nmL by rw[a0L];rfl]at j;obtain⟨D,C,b,k,n⟩:=bfs (W:=W) E m (o3:=i) 128 (x:=none) (BI.init E Q) (by omega);exact⟨D,b,zC (zc ⟨_,ym (zw (xs:=[tbV N W F T,.s home,.l []]) rfl s),zc ⟨_,yZ (zA (l rfl)) y,zc ⟨_,zK (zw (xs:=[tbV N W F T]) rfl (xk E.nd E.ok (by have:=E.ml;omega))),zc ⟨_,zK (Zd (zA (l rfl)) j),zc ⟨bS N W F T home ro i ((df T).map λt=>[t]) 0 none,rfl,zc ⟨_,nr n (λz=>nomatch z),rfl⟩⟩⟩⟩⟩⟩)⟩
end
section
variable {F:Str->Ht}{T us vs R:List Tp}{t:Tp}{z y:Str}{q:List Tp->Bool}{zs ys:a40}
def Iy(b:m ρ=.ok x)(c:lo ρ=.ok l)(a:hi ρ=.ok h):mSl pSl m lo hi ρ=pSl x l h:=by unfold mSl;rw[b,okb,c];show((hi ρ).bind λh=>pSl x l h)=_;rw[a];rfl
def ksc(z:Str)(zs:a40):List Nat:=z.cps.toList++(zs.map λy=>32::y.cps.toList).flatten
theorem DV:∀(zs:a40)(a:a4x),(zs.foldl (λb p=>b++(" ":Str).cps++p.cps) a).toList=a.toList++(zs.map λy=>32::y.cps.toList).flatten
 |[],a=>(a0s _).symm
 |z::zs,a=>by rw[a1t,DV zs,a2M,a2M,a0j,a1u,a0w,a0w];rfl
def lX:(Txt.join " " (z::zs)).cps.toList=ksc z zs:=DV zs z.cps
theorem Iz:∀{a b x y:a39},32∉a->32∉b->a++32::x=b++32::y->a=b/\x=y
 |[],[],_,_,_,_,e=>⟨rfl,(a19 e).2⟩
 |[],c::b,_,_,_,f,e=>absurd ((a19 e).1▸u8) f
 |c::a,[],_,_,g,_,e=>absurd ((a19 e).1▸u8) g
 |c::a,d::b,_,_,g,f,e=>by obtain⟨j,l⟩:=a19 e;obtain⟨m,i⟩:=Iz (λh=>g (a0a _ h)) (λh=>f (a0a _ h)) l;exact⟨by rw[j,m],i⟩
def DW(h:z.cps.toList=y.cps.toList):z=y:=a0O Str.mk (a3a.mp h)
theorem sV:∀{zs ys:a40}{z y:Str},(∀x∈z::zs,32∉x.cps.toList)->(∀x∈y::ys,32∉x.cps.toList)->ksc z zs=ksc y ys->z::zs=y::ys
 |[],[],z,y,_,_,e=>by have e:z.cps.toList++[]=y.cps.toList++[]:=e;rw[a0s,a0s]at e;rw[DW e]
 |[],c::ys,z,y,hz,_,e=>by have e:z.cps.toList++[]=y.cps.toList++32::ksc c ys:=e;rw[a0s]at e;exact absurd (by rw[e];exact a0p _ u8) (hz z u8)
 |b::zs,[],z,y,_,a,e=>by have e:z.cps.toList++32::ksc b zs=y.cps.toList++[]:=e;rw[a0s]at e;exact absurd (by rw[<- e];exact a0p _ u8) (a y u8)
 |b::zs,c::ys,z,y,hz,a,e=>by obtain⟨d,f⟩:=Iz (hz z u8) (a y u8) (show z.cps.toList++32::ksc b zs=y.cps.toList++32::ksc c ys from e);rw[DW d,sV (λx h=>hz x (a0a _ h)) (λx h=>a x (a0a _ h)) f]
def Nm.sp(h:Nm z):32∉z.cps.toList:=λa=>absurd (h.2 32 a) (by decide +kernel)
def X0(us:List Tp):Str:=Txt.join " " (us.map (·.1))
theorem dk(c:(T.map (·.1)).Nodup):∀{us vs:List Tp},(∀x∈us,x∈T)->(∀x∈vs,x∈T)->us.map (·.1)=vs.map (·.1)->us=vs
 |[],[],_,_,_=>rfl
 |[],_::_,_,_,e=>nomatch e
 |_::_,[],_,_,e=>nomatch e
 |a::us,b::vs,f,d,e=>by obtain⟨g,i⟩:=a19 e;rw[Ip c (f a u8) (d b u8) g,dk c (λx h=>f x (a0a _ h)) (λx h=>d x (a0a _ h)) i]
def Gy(g:(T.map (·.1)).Nodup)(f:∀t∈T,Nm t.1)(d:Gd F T q us)(c:Gd F T q vs)(e:X0 us=X0 vs):us=vs:=by
 refine dk g d.sub c.sub ?_;obtain⟨a,us,rfl⟩:=a1e d.ne;obtain⟨b,vs,rfl⟩:=a1e c.ne;have sp:∀{us:List Tp},(∀x∈us,x∈T)->∀x∈us.map (·.1),32∉x.cps.toList:=λh x j=>by obtain⟨t,i,rfl⟩:=a0S.mp j;exact(f t (h t i)).sp
 have e:=a0O (λs:Str=>s.cps.toList) e;unfold X0 at e;rw[a0j,a0j,lX,lX]at e;exact sV (sp d.sub) (sp c.sub) e
def DX(c:∀t∈T,Nm t.1)(h:∀x∈us,x∈T)(f:us.length<=100):jV [nmL us]=.ok (.s (X0 us)):=by
 refine zC (Yx ?_);show(match AZ ((us.map (·.1)).map .s)with
  |some (ys:a40)=>if(ys.map (λt:Str=>t.length)).sum+ys.length*(" ":Str).length<=16777216 then Out.ok (PV.s (Txt.join " " ys))else .wall
  |none=>.wall)=_
 rw[iE];show(if _ then _ else _)=_;have s:∀{us:List Tp},(∀x∈us,x∈T)->((us.map (·.1)).map (λt:Str=>t.length)).sum<=12*us.length:=by
  intro us
  induction us with
  |nil=>intro _;exact a0e _
  |cons t R d=>intro h;have a:=(c t (h t u8)).1.2;have b:=d λx e=>h x (a0a _ e);simp only[List.map_cons,List.sum_cons,List.length_cons]at b ⊢;omega
 have:=s h;rw[if_pos (by rw[v4,show(" ":Str).length=1 from rfl];omega)];rfl
def Gz(h:z∈P):(z5 (Qx P) (sk z)).isSome=true:=by
 induction P with
 |nil=>cases h
 |cons a P c=>
  show(z5 ((sk a,PV.b true)::Qx P) (sk z)).isSome=true;rw[yd];split
  .rfl
  .rename_i b;rcases a0r.mp h with rfl|h
   .exact absurd rfl b
   .exact c h
def Rx:(z5 (Qx P) (sk z)).isSome=decide (z∈P):=by
 by_cases h:z∈P
 .rw[Gz h,a0f h]
 .rw[bb h,a0k h];rfl
def DY(d:a ρ=.ok (.s z))(c:b ρ=.ok (.d (Qx P))):mOp (pIn n) a b ρ=.ok (.b (xor n (decide (z∈P)))):=by refine zq d c ?_;show Out.ok (PV.b (xor n (z5 (Qx P) (sk z)).isSome))=_;rw[Rx]
end
section
variable {N:a40}{W:List Wy}{F:Str->Ht}{T us vs R A:List Tp}{t v:Tp}{L:Lst}{home z y:Str}{q:List Tp->Bool}{ro:PV}{D:List (List Tp)}
abbrev kwP(D:List (List Tp)):PV:=.d (Qx (D.map X0))
def IA{i:Nat}(h:i<us.length){ρ:Sto}{x y:ME}(a:x ρ=.ok (nmL us))(b:y ρ=.ok (.i (i:Int))):mOp pIx x y ρ=.ok (.s us[i].1):=by refine zq a b ?_;rw[oG (by omega) (by rw[v4,v4];omega),a08,a08];rfl
theorem Rz:∀{us:List Tp}{i:Nat}(h:i+1<us.length),Lk F us->lnk F us[i] us[i+1]=true
 |[],_,h,_=>absurd h (a2F _)
 |[_],_,h,_=>absurd h (by show ¬_+1<1;omega)
 |a::b::R,0,_,c=>c.1
 |a::b::R,i+1,h,c=>Rz (us:=b::R) (i:=i) (by simpa using h) c.2
def Na(r:(T.map (·.1)).Nodup)(C:∀t∈T,Nm t.1)(b:BI F T q D D.length)(f:us≠[])(o:us.length<=5)(d:∀x∈us,x∈T)(p:Lk F us)(hp:∀A B,us=A++B->A≠[]->B≠[]->q A=true):q us=decide (X0 us∈D.map X0):=by
 refine Bool.eq_iff_iff.mpr ⟨λh=>a0f ?_,λh=>?_⟩
 .refine a0N (b.all _ (a0e _) ⟨f,o,d,p,λA B e l=>?_⟩);cases B with
  |nil=>rw[a0s]at e;rw[<- e];exact h
  |cons x B=>exact hp A _ e l (a1h _ _)
 .obtain⟨vs,m,e⟩:=a0S.mp (a0Q h);have g:=b.gd vs m;have:vs=us:=by
   refine dk r g.sub d ?_;have sp:∀{us:List Tp},(∀x∈us,x∈T)->∀x∈us.map (·.1),32∉x.cps.toList:=λh x j=>by obtain⟨t,n,rfl⟩:=a0S.mp j;exact(C t (h t n)).sp
   have i:=g.sub;obtain⟨a,vs,rfl⟩:=a1e g.ne;obtain⟨c,us,rfl⟩:=a1e f;have e:=a0O (λs:Str=>s.cps.toList) e;unfold X0 at e;rw[a0j,a0j,lX,lX]at e;exact sV (sp i) (sp d) e
  subst this;exact g.fit _ [] (a0s _).symm g.ne
def DZ(E:Env N F T L home)(Q:Qok F T home q)(U:∀t∈T,Nm t.1)(b:BI F T q D D.length)(g:Gd F T q us):qF [nmL us,kwP D,.d (yV F T)]=.ok (.b true):=by
 have l5:=g.len;have Z:0<us.length:=a3L.mpr g.ne;have B:∀{vs:List Tp},Gd F T q vs->X0 vs∈D.map X0:=λO=>a0N (b.all _ (a0e _) O);obtain⟨I,⟨o,rfl⟩,m⟩:=YL (g:=Z7) (b:=Z8) (λk d=>∃o,d=[some (nmL us),some (kwP D),some (.d (yV F T)),o]) (us.length-1) [some (nmL us),some (kwP D),some (.d (yV F T)),none] ⟨none,rfl⟩ (λk K d ⟨o,p⟩=>by
  subst p;have J:=IA (us:=us) (i:=k+1) (by omega) (ρ:=[some (nmL us),some (kwP D),some (.d (yV F T)),some (.i (k:Int))]) (x:=zd 0) (y:=mOp z0 (zd 3) (mC (.i 1))) rfl rfl;have H:=IA (us:=us) (i:=k) (by omega) (ρ:=[some (nmL us),some (kwP D),some (.d (yV F T)),some (.i (k:Int))]) (x:=zd 0) (y:=zd 3) rfl rfl;have s:=g.sub _ (a04 (h:=show k<us.length by omega));have r:=g.sub _ (a04 (h:=show k+1<us.length by omega));have c:=zU (zq (f:=pIn true) J (sR E.nd s (a:=zd 2) rfl H) P2);rw[a0f ((MV E.nd r).mpr (Rz (by omega) g.lk))]at c;exact⟨_,rfl,_,⟨_,rfl⟩,.inl ((ya c).trans rfl)⟩)
 have m:Kz (V4 (zb (mOp WH (zi Yo (zb (zd 0) zk)) (mC (.i 1))) zk)) Z7 Z8 [some (nmL us),some (kwP D),some (.d (yV F T)),none]=.ok (.nx [some (nmL us),some (kwP D),some (.d (yV F T)),o]):=
  yZ (bM (n:=us.length-1) (zp (zq (x:=.i (us.length:Int)) (y:=.i 1) (zw (xs:=[nmL us]) rfl U0) rfl (a0O (λz=>Out.ok (PV.i z)) (show(us.length:Int)-1=((us.length-1:Nat):Int) by omega))) rfl) (by omega)) m
 have j:=UY (n:=1) (zw (ms:=zb (zd 0) zk) (ρ:=[some (nmL us),some (kwP D),some (.d (yV F T)),o]) (xs:=[nmL us]) rfl U0);by_cases Y:us.length=1
 .rw[a0k (by omega)]at j;exact zC (zc ⟨_,m,zc ⟨_,(ya j).trans rfl,rfl⟩⟩)
 .rw[a0f (by omega)]at j;obtain⟨G,⟨X,rfl⟩,M⟩:=YL (g:=K0) (b:=K1) (λk d=>∃o,d=[some (nmL us),some (kwP D),some (.d (yV F T)),o]) us.length [some (nmL us),some (kwP D),some (.d (yV F T)),o] ⟨o,rfl⟩ (λk K d ⟨o,p⟩=>by
   subst p;have e:us=us.take k++us[k]::us.drop (k+1):=by rw[List.getElem_cons_drop,List.take_append_drop]
   have C:=(e▸g).rm E Q (P:=us.take k) (t:=us[k]) (S:=us.drop (k+1)) (λz=>by
    have:=a0O List.length z;rw[a0g,a00,a1x,a2a]at this;omega)
   have c:=zU (DY (n:=true) (P:=D.map X0) (a:=zi jV (zb (mOp z0 (mSl pSl (zd 0) my (Yq (zd 3))) (mSl pSl (zd 0) (Yq (mOp z0 (zd 3) (mC (.i 1)))) my)) zk)) (b:=zd 1) (ρ:=[some (nmL us),some (kwP D),some (.d (yV F T)),some (.i (k:Int))]) (zw (zp (T9 (us:=us.take k) (vs:=us.drop (k+1)) ((Iy (l:=none) (h:=some (k:Int)) rfl rfl rfl).trans (by
    show Out.ok (PV.l (mz ((us.map (·.1)).map PV.s) none (some (k:Int))))=_;rw[F7 (by omega),a2n,<- a18,<- a18])) ((Iy (l:=some ((k:Int)+1)) (h:=none) rfl rfl rfl).trans (by
    show Out.ok (PV.l (mz ((us.map (·.1)).map PV.s) (some ((k:Int)+1)) none))=_;rw[Ds (by omega) (by rw[v4,v4];omega),show((k:Int)+1).toNat=k+1 by omega,<- a2T,<- a2T])) (by rw[a00,a1x];omega)) rfl) (DX U C.sub (by have:=C.len;omega))) rfl)
   rw[a0f (B C)]at c;exact⟨_,rfl,_,⟨_,rfl⟩,.inl ((ya c).trans rfl)⟩)
  exact zC (zc ⟨_,m,zc ⟨_,(ya j).trans (yZ (bM (n:=us.length) (zp (zw (xs:=[nmL us]) rfl U0) rfl) (by omega)) M),rfl⟩⟩)
def eqB(h:c=d):ke true (.b c) (.b d)=.ok (.b false):=by subst h;cases c<;>rfl
theorem dm(E:Env N F T L home)(o:e9 F T home ro q)(l:∀t∈T,Nm t.1)(b:BI F T q D D.length)(g:Gd F T q (A++[t]))(p:(A++[t]).length<5):∀{vs:List Tp}{x y:a4g},(∀v∈vs,v∈nxt F T t)->∃d i,Zg Vm Vn (vs.map λv=>.s v.1) [some (nmL (A++[t])),some (kwP D),some (.d (yV F T)),some ro,some (tbV N W F T),some (.s home),x,y]=.ok (.nx [some (nmL (A++[t])),some (kwP D),some (.d (yV F T)),some ro,some (tbV N W F T),some (.s home),d,i])
 |[],x,y,_=>⟨x,y,rfl⟩
 |v::R,x,y,h=>by
  obtain⟨d,i,e⟩:=dm E o l b g p (vs:=R) (x:=some (.s v.1)) (y:=some (nmL (A++[t]++[v]))) λx f=>h x (a0a _ f);obtain⟨j,c⟩:=dj.mp (h v u8);have a:∀x∈A++[t]++[v],x∈T:=λx f=>(a0A.mp f).elim (g.sub x) λz=>by rw[a0l.mp z];exact j
  have s:(A++[t]++[v]).length<=5:=by rw[a0g];show _+1<=_;omega
  have m:=lV g.lk c;have mk:=Na E.nd l b (us:=A++[t]++[v]) (by simp) s a m (λP B e hP hB=>by
   obtain⟨C,z,rfl⟩:=Um hB;rw[<- a0w]at e;exact g.fit P C (a2w e rfl) hP)
  have r:z8 7 (mOp z0 (zd 0) (V1 (zb (zd 6) zk))) [some (nmL (A++[t])),some (kwP D),some (.d (yV F T)),some ro,some (tbV N W F T),some (.s home),some (.s v.1),y]=.ok (.nx [some (nmL (A++[t])),some (kwP D),some (.d (yV F T)),some ro,some (tbV N W F T),some (.s home),some (.s v.1),some (nmL (A++[t]++[v]))]):=zK (T9 (vs:=[v]) rfl (lL (xs:=[.s v.1]) rfl (a0m rfl)) (by show _+1<=_;omega));refine⟨d,i,(yQ (x:=.s v.1) rfl (zc ⟨_,r,(ya (x:=false) (zU (zq (o a (by simp) (by omega) rfl (DS E a (by simp) m (by omega) rfl rfl rfl)) (DY (n:=false) (P:=D.map X0) (zw (xs:=[nmL (A++[t]++[v])]) rfl (DX l a (by omega))) rfl) (eqB (mk.trans (a1X _).symm))))).trans rfl⟩)).trans e⟩
def AG(E:Env N F T L home)(i:e9 F T home ro q)(f:∀t∈T,Nm t.1)(b:BI F T q D D.length)(g:Gd F T q us)(d:us.length<5):qJ [nmL us,kwP D,.d (yV F T),ro,tbV N W F T,.s home]=.ok (.b true):=by obtain⟨A,t,rfl⟩:=Um g.ne;obtain⟨x,y,e⟩:=dm (W:=W) E i f b g d (vs:=nxt F T t) (x:=none) (y:=none) λ_ h=>h;have c:t∈T:=g.sub t (a0p _ (a0l.mpr rfl));exact zC (zc ⟨_,yZ (zA (xs:=(nxt F T t).map λv=>.s v.1) ((sR E.nd c (a:=zd 2) rfl (sT (A:=A) rfl)).trans (by unfold sQ nxt;rw[a0L];rfl))) e,rfl⟩)
end
section
variable {ns:a4k}{P:a40}{W:List Wy}{F:Str->Ht}{T us vs R A:List Tp}{t u:Tp}{L:Lst}{home z y:Str}{q:List Tp->Bool}{ro:PV}{D:List (List Tp)}{K:a40}
def Nb(h:ρ[i]?=some (some (.d (Qx K))))(c:mk ρ=.ok (.s z))(hz:z∉K)(d:K.length<=1000):Eu i mk (mC (.b true)) ρ=.ok (.nx (ρ.set i (some (.d (Qx (K++[z])))))):=by
 have b:dput (Qx K) (sk z) (.b true)=Qx (K++[z]):=by unfold dput;rw[vB,bb hz];unfold Qx;rw[a0z];rfl
 have a:(Qx K).length<sizeLine:=a1O (by unfold Qx;rw[v4];exact d) (by decide);unfold Eu;rw[show mC (.b true) ρ=.ok (.b true)from rfl,okb,h];show((mk ρ).bind _)=_;rw[c,okb];show(if(Qx K).length<sizeLine then Out.ok (Fw.nx (ρ.set i (some (.d (dput (Qx K) (sk z) (.b true))))))else .wall)=_;rw[if_pos a,b]
abbrev lwS(ns:a4k)(P:a40)(W:List Wy)(L:Lst)(n:Int)(T:List Tp)(home:Str)(ro:PV)(x8:a4g)(tb:PV)(D:List (List Tp))(bh:PV)(K:a40)(x:a4g):Sto:=
 [some (.sc ns),some (rwP P),some (.l (W.map wP)),some (.dt L),some (.i n),some (.l (T.map tP)),some (.s home),some ro,x8,some tb,some (.l (D.map nmL)),some bh,some (.d (Qx K)),x]
theorem gD(E:Env P F T L home)(hN:∀t∈T,Nm t.1)(b:BI F T q D D.length){n:Int}{x8:a4g}{tb:PV}:∀{R A:List (List Tp)}{x:a4g},A++R=D->∃x',Zg Dc sx (R.map nmL) (lwS ns P W L n T home ro x8 tb D (.d (yV F T)) (A.map X0) x)=.ok (.nx (lwS ns P W L n T home ro x8 tb D (.d (yV F T)) (D.map X0) x'))
 |[],A,x,e=>⟨x,by rw[a0s]at e;rw[e];rfl⟩
 |us::R,A,x,e=>by
  have g:=b.gd us (by rw[<- e];exact a0p _ u8);have fw:=few E b.nd b.gd;have lA:A.length<=128:=by have:=a0O List.length e;rw[a0g]at this;omega
  obtain⟨x',e'⟩:=gD E hN b (n:=n) (x8:=x8) (tb:=tb) (R:=R) (A:=A++[us]) (x:=some (nmL us)) (by rw[a0w];exact e)
  let ρ:=lwS ns P W L n T home ro x8 tb D (.d (yV F T)) (A.map X0) (some (nmL us))
  have l0:0<us.length:=a3L.mpr g.ne;have l5:=g.len;have c2:=zU (TC (a:=mC (.i 1)) (b:=zi Yo (zb (zd 13) zk)) (c:=mC (.i 5)) (ρ:=ρ) (x:=1) (y:=(us.length:Int)) (z:=5) rfl (zw (xs:=[nmL us]) rfl U0) rfl);rw[a0f (by omega),a0f (by omega)]at c2;have q3:=qD (g:=lz) (e:=lC) (λt:Tp=>PV.s t.1) (λ_=>.b true) (λρ=>∃o,ρ=[o,some (.d (yV F T))]) us [none,some (.d (yV F T))] ⟨none,rfl⟩ (λt ht ρ ⟨o,ho⟩=>by
   subst ho;refine⟨_,rfl,⟨_,rfl⟩,zq (x:=.s t.1) (y:=.d (yV F T)) rfl rfl ?_⟩;show Out.ok (PV.b (xor false (z5 (yV F T) (sk t.1)).isSome))=_;unfold yV;rw[xl (DA E.nd) (js.mem_iff.mpr (g.sub t ht))];rfl) (by omega)
  have c3:z9 (zi Ff (zb (mLC (zS (zd 13)) [none,some 11] lz uO lC) zk)) ρ=.ok true:=zU (zw (zp (Zd (zA (xs:=us.map λt=>PV.s t.1) (by show Out.ok (PV.l ((us.map (·.1)).map PV.s))=_;rw[a0L];rfl)) q3) rfl) (iu.trans (by rw[a1d.mpr λ_ _=>rfl])));have nk:X0 us∉A.map X0:=λh=>by obtain⟨vs,hv,ek⟩:=a0S.mp h;have gv:=b.gd vs (by rw[<- e];exact a0J _ hv);have:=Gy E.nd hN gv g ek;subst this;have nd:=b.nd;rw[<- e]at nd;exact(a1F.mp nd).2.2 vs hv vs u8 rfl
  have st:sx ρ=.ok (.nx (lwS ns P W L n T home ro x8 tb D (.d (yV F T)) ((A++[us]).map X0) (some (nmL us)))):=by refine zc ⟨ρ,(ya (x:=false) (sH (x:=false) (y:=false) (UZ (x:=true) rfl) (sH (x:=false) (y:=false) (UZ (x:=true) c2) (UZ (x:=true) c3)))).trans rfl,(Nb (K:=A.map X0) rfl (zw (xs:=[nmL us]) rfl (DX hN g.sub (by omega))) nk (by rw[v4];omega)).trans ?_⟩;rw[a0z];rfl
  exact⟨x',(yQ (x:=nmL us) (ρ1:=ρ) rfl st).trans e'⟩
theorem oX(E:Env P F T L home)(Q:Qok F T home q)(fo:e9 F T home ro q)(hN:∀t∈T,Nm t.1)(b:BI F T q D D.length){n:Int}{x8:a4g}:∀{R:List (List Tp)}{x:a4g},(∀us∈R,us∈D)->∃x',Zg Dd De (R.map nmL) (lwS ns P W L n T home ro x8 (tbV P W F T) D (.d (yV F T)) (D.map X0) x)=.ok (.nx (lwS ns P W L n T home ro x8 (tbV P W F T) D (.d (yV F T)) (D.map X0) x'))
 |[],x,_=>⟨x,rfl⟩
 |us::R,x,h=>by
  have g:=b.gd us (h us u8);obtain⟨x',e'⟩:=oX E Q fo hN b (n:=n) (x8:=x8) (R:=R) (x:=some (nmL us)) λu hu=>h u (a0a _ hu)
  let ρ:=lwS ns P W L n T home ro x8 (tbV P W F T) D (.d (yV F T)) (D.map X0) (some (nmL us))
  have c1:ud (z9 (zi qF (zb (zd 13) (zb (zd 12) (zb (zd 11) zk))))) ρ=.ok false:=UZ (x:=true) (zU (zw (xs:=[nmL us,kwP D,.d (yV F T)]) rfl (DZ E Q hN b g)));have c2:z9 (mOp pLt (zi Yo (zb (zd 13) zk)) (mC (.i 5))) ρ=.ok (decide ((us.length:Int)<5)):=Ii (n:=5) (zw (xs:=[nmL us]) rfl U0);have s2:sIf (fP (z9 (mOp pLt (zi Yo (zb (zd 13) zk)) (mC (.i 5)))) (ud (z9 (zi qJ (zb (zd 13) (zb (zd 12) (zb (zd 11) (zb (zd 7) (zb (zd 9) (zb (zd 6) zk)))))))))) (je (mC (.b false))) zR ρ=.ok (.nx ρ):=by
   by_cases h5:us.length<5
   .exact(ya (x:=false) ((Yw c2 (UZ (x:=true) (zU (zw (xs:=[nmL us,kwP D,.d (yV F T),ro,tbV P W F T,.s home]) rfl (AG E fo hN b g h5))))).trans (by rw[Bool.not_true,a1W]))).trans rfl
   .rw[a0k (by omega)]at c2;exact(ya (x:=false) (sI c2)).trans rfl
  exact⟨x',(yQ (x:=nmL us) (ρ1:=ρ) rfl (zc ⟨ρ,(ya c1).trans rfl,s2⟩)).trans e'⟩
end
def rok(b:WS P W)(a:P.Nodup)(hP:∀z∈P,Nm z)(d:P.length<=5)(c:W.length<=13):ROk P W:=by constructor<;>first|exact a|exact hP|omega|exact b.ok
def RA(d:∀t∈T,TOk P F t/\Nm t.1)(a:(T.map (·.1)).Nodup)(b:T.length<=40):mkV 10 qR [roP P W F,.l (T.map tP)]=.ok (QS (roP P W F) T):=by
 show(match qR [.g 0,.v (roP P W F),.v (.l (T.map tP))] [.o 10 []]with
  |.ok (.v .n) G=>(match Kr G 8 (.g 0)with
   |some z=>Out.ok z
   |none=>.wall)
  |.exc c fs _=>.exc c fs
  |_=>.wall)=_
 rw[show qR [.g 0,.v (roP P W F),.v (.l (T.map tP))] [.o 10 []]=_ from Gk (A:=[]) d a b];dsimp only;rw[MR (ro:=roP P W F) (T:=T) (j:=1) rfl rfl]
def T_(ns:a4k){P:a40}{W:List Wy}{F:Str->Ht}{T:List Tp}{L:Lst}{home:Str}{n:Int}(E:Env P F T L home):∃i q p,Qok F T home q/\e9 F T home i q/\sIf (z9 (mOp (ke true) (zd 5) (V1 zk))) (zI (z8 8 (zi jA (zb (zd 0) (zb (mC (.i 35)) (zb (mLC (zS (zd 5)) [none,some 6,some 3] lj uM ll) zk)))))
  (z8 7 (zi qb (zb (mLC (zS (zd 8)) [none] lq uN lx) zk)))) zR [some (.sc ns),some (rwP P),some (.l (W.map wP)),some (.dt L),some (.i n),some (.l (T.map tP)),some (.s home),some (.o 13 []),none,none,none,none,none,none]=.ok (.nx [some (.sc ns),some (rwP P),some (.l (W.map wP)),some (.dt L),some (.i n),some (.l (T.map tP)),some (.s home),some i,p,none,none,none,none,none]):=by
 cases d:T with
 |nil=>
  exact⟨_,λ_=>true,none,⟨λ_ _=>rfl,λ_ _ _ _=>rfl⟩,λ{w _ _ _} h f=>by
   obtain⟨t,R,rfl⟩:=a1e f;exact absurd (h t u8) a1H,(ya (x:=false) rfl).trans rfl⟩
 |cons t R=>
  rw[<- d];have f:T≠[]:=by rw[d];exact a1h _ _
  obtain⟨b,l,g,e⟩:=Gv (ns:=ns) E f;have s:ke true (.l (T.map tP)) (.l [])=.ok (.b true):=by rw[d];rfl
  have v:=qD (g:=lj) (e:=ll) tP (λt=>rsP (shp F home [t])) (λa=>∃o,a=[o,some (.s home),some (.dt L)]) T [none,some (.s home),some (.dt L)] ⟨none,rfl⟩ (λt u a ⟨o,c⟩=>by
   subst c;exact⟨_,rfl,⟨_,rfl⟩,zw (zp (lL (xs:=[tP t]) rfl (a0m rfl)) rfl) (MZ E u)⟩) (by have:=E.ml;omega)
  have m:=qD (g:=lq) (e:=lx) spP ruP (λa=>∃o,a=[o]) b [none] ⟨none,rfl⟩ (λr j a ⟨o,c⟩=>by
   subst c;exact⟨_,rfl,⟨_,rfl⟩,zw rfl M7⟩) (by omega)
  exact⟨alP b,_,some (.l (b.map spP)),T6 E g,M8 E (λr j=>(g r j).1) (by omega),(ya (x:=true) (zU (zq rfl rfl s))).trans (zc ⟨_,zK (zw (zp rfl (zp rfl (zp (Zd (zA rfl) v) rfl))) e),zK (zw (zp (Zd (zA rfl) m) rfl) Gw)⟩)⟩
def GA(ns:a4k)(_:ns.length<=k):Df [.sc ns]=.ok (.b true):=by
 obtain⟨Y,p1,e1⟩:=Qb (ns:=ns) (k:=2) (p:=65449) (by decide) (by decide);obtain⟨B,p2,e2⟩:=Qb (ns:=ns) (k:=11) (p:=65521) (by decide) (by decide);obtain⟨m3,p3,e3⟩:=Qb (ns:=ns) (k:=34) (p:=65537) (by decide) (by decide);obtain⟨P,lP,C,O,eP⟩:=oK (ns:=ns) (a:=0) (n:=(2+Y % 4).toNat) (by decide) (by omega);rw[a2L (by omega)]at eP;obtain⟨W,lW,d,rW,eW⟩:=Ga (ns:=ns) (a:=3) (N:=P) (by decide) (by omega) (by omega);have R:=rok d C O (by omega) (by omega);obtain⟨F,Z⟩:=sJ R;have u:=λz=>(Z z).1;obtain⟨L,hL,_,eL⟩:=sP d (by omega) (by omega) u;obtain⟨n,n2,en⟩:∃n:Nat,n<=7/\max (B % 6) (min 7 ((min (ns.length:Int) 34-11) / 3))=(n:Int):=⟨(max (B % 6) (min 7 ((min (ns.length:Int) 34-11) / 3))).toNat,by omega,by omega⟩;obtain⟨Q,lQ,K,hQ,eQ⟩:=oK (ns:=ns) (a:=11) (n:=n) (by decide) (by omega);have M:∀o∈P,∀z y,z5 (F o) (sk z)=some y->0<=y/\y<=800000000:=λo w z y e=>by have:=Ay d (u o) w e;omega
 obtain⟨T,J,G,eT⟩:=Ge (ns:=ns) (a:=13) (Q:=Q) (P:=P) (by decide) (by omega) (by omega) hL M (λo _=>(u o).1.own);have lT:T.length=n:=by rw[<- lQ,<- J,v4]
 have f:(T.map (·.1)).Nodup:=by rw[J];exact K
 have i:∀t∈T,Nm t.1:=λt l=>hQ _ (by rw[<- J];exact a0N l);obtain⟨c,hh,eh⟩:=c8 (N:=P) (s:=m3) (by omega);have E:Env P F T L c:=Ra d rW u f G hL hh (by omega);obtain⟨m,q,j,U,fo,e8⟩:=T_ ns (W:=W) (n:=n) E;obtain⟨D,b,eD⟩:=DU (W:=W) E U fo;obtain⟨r,v⟩:=gD (ns:=ns) (W:=W) (ro:=m) E i b (n:=n) (x8:=j) (tb:=tbV P W F T) (R:=D) (A:=[]) (x:=none) rfl;obtain⟨x14,H⟩:=oX (ns:=ns) (W:=W) E U fo i b (n:=n) (x8:=j) (R:=D) (x:=r) λ_ h=>h;have s4:z8 4 (zi x9 (zb (mOp zQ (zi yh (zb (zd 0) (zb (mC (.i 11)) (zb (mC (.i 65521)) zk)))) (mC (.i 6))) (zb (zi bB (zb (mC (.i 7)) (zb (mOp qM (mOp WH (zi bB (zb (zi Yo (zb (zd 0) zk)) (zb (mC (.i 34)) zk))) (mC (.i 11))) (mC (.i 3))) zk))) zk))) [some (.sc ns),some (rwP P),some (.l (W.map wP)),some (.dt L),none,none,none,none,none,none,none,none,none,none]=.ok (.nx [some (.sc ns),some (rwP P),some (.l (W.map wP)),some (.dt L),some (.i n),none,none,none,none,none,none,none,none,none]):=by rw[<- en];exact zK (zw (xs:=[.i (B % 6),.i (min 7 ((min (ns.length:Int) 34-11) / 3))]) (zp (vm (zw (xs:=[.sc ns,.i 11,.i 65521]) rfl e2) (by decide)) (zp (zw (xs:=[.i 7,.i ((min (ns.length:Int) 34-11) / 3)]) (zp rfl (zp (c4 (zq (x:=.i (min (ns.length:Int) 34)) (zw (xs:=[.i (ns.length:Int),.i 34]) (zp (zw (xs:=[.sc ns]) rfl rfl) (zp rfl rfl)) rfl) rfl rfl) (by decide) (by decide)) rfl)) rfl) rfl)) rfl)
 have q5:=qD (g:=lD) (e:=lE) tP (λ_=>.b true) (λS=>∃o,S=[o,some (kwP D)]) T [none,some (kwP D)] ⟨none,rfl⟩ (λt l S ⟨o,w⟩=>by
  subst w;have X:X0 [t]∈D.map X0:=a0N (b.one t l);have ks:X0 [t]=t.1:=rfl;rw[ks]at X;exact⟨_,rfl,⟨_,rfl⟩,(DY (n:=false) (P:=D.map X0) (z:=t.1) (zq (x:=tP t) rfl rfl rfl) rfl).trans (by rw[a0f X];rfl)⟩) (by omega)
 have I:mOr (z9 (mOp (ke true) (zi Yo (zb (zd 12) zk)) (zi Yo (zb (zd 10) zk)))) (ud (z9 (zi Ff (zb (mLC (zS (zd 5)) [none,some 12] lD uP lE) zk)))) (lwS ns P W L n T c m j (tbV P W F T) D (.d (yV F T)) (D.map X0) r)=.ok false:=
  sH (x:=false) (y:=false) (zU (zq (x:=.i (D.length:Int)) (y:=.i (D.length:Int)) (zw (xs:=[kwP D]) rfl (by show Out.ok (PV.i ((Qx (D.map X0)).length:Int))=_;unfold Qx;rw[v4,v4])) (zw (xs:=[.l (D.map nmL)]) rfl Yy) (LW.trans (by rw[a0f rfl];rfl)))) (UZ (x:=true) (zU (zw (zp (Zd (zA rfl) q5) rfl) (iu.trans (by rw[a1d.mpr λ_ _=>rfl])))))
 exact zC (zc ⟨_,zK (zw (xs:=[.sc ns,.i 0,.i (2+Y % 4)]) (zp rfl (zp rfl (zp (zq rfl (vm (zw (xs:=[.sc ns,.i 2,.i 65449]) rfl e1) (by decide)) rfl) rfl))) eP),zc ⟨_,zK (zw (xs:=[.sc ns,.i 3,rwP P]) rfl eW),zc ⟨_,zK (zw (xs:=[rwP P,.l (W.map wP)]) rfl eL),zc ⟨_,s4,zc ⟨_,zK (zw (xs:=[.sc ns,.i 13,rwP Q,rwP P,.dt L]) (zp rfl (zp rfl (zp (zw (xs:=[.sc ns,.i 11,.i (n:Int)]) rfl eQ) (zp rfl (zp rfl rfl))))) eT),zc ⟨_,zK (zq rfl (zq (zw (xs:=[.sc ns,.i 34,.i 65537]) rfl e3) (zw (xs:=[rwP P]) rfl Yy) (wc (by omega))) eh),zc ⟨_,rfl,zc ⟨_,e8,zc ⟨_,zK (zw (xs:=[roP P W F,.l (T.map tP)]) (zp (zw (xs:=[rwP P,.l (W.map wP)]) rfl (MC R λz=>(Z z).2)) (zp (zw (xs:=[.l (T.map tP)]) rfl rfl) rfl)) (RA (λt l=>⟨G t l,i t l⟩) f (by omega))),zc ⟨_,zK (zw (xs:=[tbV P W F T,.s c,m]) rfl eD),zc ⟨_,zK (zw (xs:=[tbV P W F T]) rfl (xk f G (by omega))),zc ⟨lwS ns P W L n T c m j (tbV P W F T) D (.d (yV F T)) [] none,rfl,zc ⟨_,yZ (zA rfl) v,zc ⟨_,(ya I).trans rfl,zc ⟨_,yZ (zA rfl) H,rfl⟩⟩⟩⟩⟩⟩⟩⟩⟩⟩⟩⟩⟩⟩⟩)
end NCS
def D0(K:a4n):Sp:=λd H Q _=>∃(a:Addr)(b:a4k),d=[.ref a]/\SqL K H a (b.map V.int)/\b.length<=63/\∀c,Q (.bl true) c
def all_mk{l:W.OpenLaw}{w:a4e}{K:a4n}{h:Heap}{y:a37}{fa C u D B A n q x r c b o m g j f d i z Kb dG Xy U7 JS ao XB vt VS vq QA Yl vy vp J6 L j5 ZL kD Yn vv VG ZP F Zb R Kf Eb gP kG QG Y S XF YA pA vU Z vQ N M P kE XJ J3 aa pw J5 YF gR aq XQ kU QO VN QF U dM Vu XY I O kW J ae Vw tK:Addr}{Kk dN XS ak Kg ag XW QH Vy QN QJ VA vx QD JZ QK ZO ZR YH VW QL VF ZM VL JX Vx Ke Eh gO YE QM JW JU XA Yz ph XH VB Xz Vz XG VO YG XM JV aw pE Kj YB gM au XN Vv QC VJ QB VC dF VE XU XI XX VI VQ U8 VP s_:a4j}{px VT QE VD xD gQ xE pL gN pH Ki XE Ei xC xB pD Ec xF J7:Tok}(X:K.In h)(G:h.Ns mainGlobals y)(hfa:y "law"=some (.ref fa))
  (rS:W.nsIn K mainGlobals "LIMIT"=some (some (.int 1000000000 px)))
  (Jm:W.nsIn K mainGlobals "NAME_SIGNS"=some (some (.str "abcdefghijklmnopqrstuvwxyz0123456789" VT)))
  (Z3:W.nsIn K mainGlobals "LONGEST_NAME"=some (some (.int 12 QE)))
  (Jn:W.nsIn K mainGlobals "MOST_TRIPS"=some (some (.int 40 VD)))
  (UB:W.nsIn K mainGlobals "NAME"=some (some (.int 0 xD)))
  (Zj:W.nsIn K mainGlobals "ORIGIN"=some (some (.int 1 gQ)))
  (b8:W.nsIn K mainGlobals "GOAL"=some (some (.int 2 xE)))
  (Z4:W.nsIn K mainGlobals "START"=some (some (.int 3 pL)))
  (vD:W.nsIn K mainGlobals "FINISH"=some (some (.int 4 gN)))
  (rT:W.nsIn K mainGlobals "SEATS"=some (some (.int 5 pH)))
  (YY:W.nsIn K mainGlobals "MOST_PLACES"=some (some (.int 12 Ki)))
  (Wg:W.nsIn K mainGlobals "MOST_WAYS"=some (some (.int 60 XE)))
  (FR:W.nsIn K mainGlobals "WAY"=some (some (.str "way" Ei)))
  (uG:W.nsIn K mainGlobals "TRIP"=some (some (.str "trip" xC)))
  (nN:W.nsIn K mainGlobals "WAIT"=some (some (.str "wait" xB)))
  (b9:W.nsIn K mainGlobals "BEGIN"=some (some (.int 1 pD)))
  (CW:W.nsIn K mainGlobals "END"=some (some (.int 2 Ec)))
  (CY:W.nsIn K mainGlobals "DEEP"=some (some (.int 5 xF)))
  (YZ:W.nsIn K mainGlobals "MOST_DUTIES"=some (some (.int 400 J7)))
  (W4:NsR K "BadName" C)
  (Wh:NsR K "BadNumber" u)
  (b_:NsR K "TooMany" D)
  (rV:NsR K "Twice" B)
  (cb:NsR K "NoPlace" A)
  (iY:NsR K "NoWay" n)
  (iZ:NsR K "NoTrip" q)
  (Ud:NsR K "Backward" x)
  (cf:NsR K "TooFast" r)
  (rX:NsR K "Table" c)
  (rY:NsR K "Roads" b)
  (Ue:NsR K "Unlinked" o)
  (uH:NsR K "Rule" m)
  (CZ:NsR K "Span" g)
  (C0:NsR K "Work" j)
  (rZ:NsR K "Pause" f)
  (r8:NsR K "Shift" d)
  (r9:NsR K "AllOf" i)
  (Ug:NsR K "Unlawful" z)
  (C1:NsN K "all")
  (uI:NsN K "dict")
  (Jo:NsN K "isinstance")
  (kh:NsN K "len")
  (Qq:NsN K "list")
  (i4:NsN K "max")
  (nO:NsN K "min")
  (Z5:NsN K "range")
  (i5:NsN K "sorted")
  (FT:NsN K "sum")
  (Mo:NsN K "zip")
  (yz:DfN K "_law_cell_at" YM Kb Kk)
  (qq:DfN K "_law_mix" bX dG dN)
  (qi:DfN K "_law_names" V5 Xy XS)
  (vW:DfN K "_law_ways" X6 U7 ak)
  (qO:DfN K "_law_lengths" YN JS Kg)
  (Kt:DfN K "_law_trip" X7 ao ag)
  (ki:DfN K "_law_trips" V6 XB XW)
  (AL:XMk K D vt)
  (VR:Fun K "__init__" "TooMany.__init__" ZU vt QH)
  (qE:DfN K "check_most" Q6 VS Vy)
  (AK:XMk K C vq)
  (VU:Fun K "__init__" "BadName.__init__" ZV vq QN)
  (kI:DfN K "checked_name" ZW QA QJ)
  (GQ:XMk K B Yl)
  (ai:Fun K "__init__" "Twice.__init__" Q7 Yl VA)
  (yM:DfN K "checked_new_name" jS vy vx)
  (AI:XMk K A vp)
  (VM:Fun K "__init__" "NoPlace.__init__" ZX vp QD)
  (yN:DfN K "check_place" YO J6 JZ)
  (fm:W.findIn K (.ref b) "length"=some (some (.ref L)))
  (Ym:Fun K "length" "Roads.length" ZY L QK)
  (pJ:XMk K u j5)
  (QI:Fun K "__init__" "BadNumber.__init__" vh j5 ZO)
  (yy:DfN K "checked_number" vi ZL ZR)
  (tD:XMk K x kD)
  (J9:Fun K "__init__" "Backward.__init__" wd kD YH)
  (GH:XMk K n Yn)
  (U_:Fun K "__init__" "NoWay.__init__" Q8 Yn VW)
  (AJ:XMk K r vv)
  (VH:Fun K "__init__" "TooFast.__init__" ZZ vv QL)
  (Zk:DfN K "check_trip" Q9 VG VF)
  (qr:DfN K "place_in_order" vj ZP ZM)
  (pB:W.findIn K (.ref c) "__init__"=some (some (.ref F)))
  (aj:Fun K "__init__" "Table.__init__" Q_ F VL)
  (Ea:XMk K q Zb)
  (XR:Fun K "__init__" "NoTrip.__init__" YQ Zb JX)
  (o9:W.findIn K (.ref c) "trip"=some (some (.ref R)))
  (Ka:Fun K "trip" "Table.trip" Ja R Vx)
  (vE:DfN K "check_trips" YR Kf Ke)
  (FU:DfN K "gap" Mm Eb Eh)
  (W5:DfN K "linked" iM gP gO)
  (tf:XMk K o kG)
  (Kc:Fun K "__init__" "Unlinked.__init__" we kG YE)
  (kJ:DfN K "check_linked" Z0 QG QM)
  (mf:W.findIn K (.ref c) "names"=some (some (.ref Y)))
  (Qn:Fun K "names" "Table.names" YS Y JW)
  (mj:W.findIn K (.ref b) "names"=some (some (.ref S)))
  (Qo:Fun K "names" "Roads.names" YT S JU)
  (wx:DfN K "check_row" V7 XF XA)
  (y3:DfN K "linked_behind" wg YA Yz)
  (Y0:DfN K "links" rO pA ph)
  (tL:W.findIn K (.ref g) "fits"=some (some (.ref vU)))
  (Wv:Fun K "fits" "Span.fits" V8 vU XH)
  (pC:W.findIn K (.ref d) "fits"=some (some (.ref Z)))
  (JT:Fun K "fits" "Shift.fits" Jb Z VB)
  (tH:W.findIn K (.ref m) "fits"=some (some (.ref vQ)))
  (Wx:Fun K "fits" "Rule.fits" V9 vQ Xz)
  (pf:W.findIn K (.ref f) "fits"=some (some (.ref N)))
  (JY:Fun K "fits" "Pause.fits" Jc N Vz)
  (tJ:W.findIn K (.ref j) "fits"=some (some (.ref M)))
  (Wu:Fun K "fits" "Work.fits" V_ M XG)
  (pd:W.findIn K (.ref i) "fits"=some (some (.ref P)))
  (Kh:Fun K "fits" "AllOf.fits" Jd P VO)
  (tw:XMk K z kE)
  (J_:Fun K "__init__" "Unlawful.__init__" wj kE YG)
  (wy:DfN K "check_way" Wa XJ XM)
  (vH:DfN K "check_block" YU J3 JV)
  (vX:DfN K "parts_of" X8 aa aw)
  (vk:DfN K "sheet" rQ pw pE)
  (vI:DfN K "check_alone" YV J5 Kj)
  (y4:DfN K "longer_by_one" wm YF YB)
  (Ku:DfN K "lawful" iN gR gM)
  (vY:DfN K "_law_runs" X9 aq au)
  (kj:DfN K "_law_specs" Wb XQ XN)
  (o_:W.findIn K (.ref i) "__init__"=some (some (.ref kU)))
  (af:Fun K "__init__" "AllOf.__init__" Je kU Vv)
  (kK:DfN K "check_places" Z1 QO QC)
  (Zn:DfN K "check_ways" Jf VN VJ)
  (qw:DfN K "heights_from" Z2 QF QB)
  (pe:W.findIn K (.ref b) "__init__"=some (some (.ref U)))
  (ax:Fun K "__init__" "Roads.__init__" Jg U VC)
  (Yv:DfN K "_law_key" bY dM dF)
  (Zo:DfN K "_law_closed" Jh Vu VE)
  (kl:DfN K "_law_sheet" Wc XY XU)
  (sY:W.findIn K (.ref g) "__init__"=some (some (.ref I)))
  (dH:Fun K "__init__" "Span.__init__" Wd I XI)
  (tF:W.findIn K (.ref j) "__init__"=some (some (.ref O)))
  (dE:Fun K "__init__" "Work.__init__" We O XX)
  (pM:W.findIn K (.ref f) "__init__"=some (some (.ref kW)))
  (U9:Fun K "__init__" "Pause.__init__" Ji kW VI)
  (pK:W.findIn K (.ref d) "__init__"=some (some (.ref J)))
  (U6:Fun K "__init__" "Shift.__init__" Jj J VQ)
  (vZ:DfN K "_law_rule" X_ ae U8)
  (Zp:DfN K "_law_longer" Jk Vw VP)
  (C2:DfN K "law" Mn tK s_)
  (sX:QT K C)
  (aR:W.takerIn K C "name"=some none)
  (l_:QT K u)
  (Wt:W.takerIn K u "value"=some none)
  (tE:QT K D)
  (aT:W.takerIn K D "most"=some none)
  (En:QT K B)
  (fA:W.takerIn K B "name"=some none)
  (tI:QT K A)
  (aS:W.takerIn K A "name"=some none)
  (Em:QT K n)
  (aM:W.takerIn K n "origin"=some none)
  (ff:W.takerIn K n "goal"=some none)
  (AN:QT K q)
  (dC:W.takerIn K q "name"=some none)
  (pG:QT K x)
  (Ur:W.takerIn K x "name"=some none)
  (sZ:QT K r)
  (aN:W.takerIn K r "name"=some none)
  (pF:QT K o)
  (XT:W.takerIn K o "first"=some none)
  (Ww:W.takerIn K o "second"=some none)
  (pN:QT K z)
  (Us:W.takerIn K z "name"=some none)
  (D5:Cls K c)
  (D8:W.makesIn K c=true)
  (D9:W.keepIn K (.ref c)=true)
  (Uq:W.findIn K (.ref c) "by_name"=some none)
  (dB:W.findIn K (.ref c) "order"=some none)
  (dP:W.findIn K (.ref c) "roads"=some none)
  (dO:W.isFn K (.ref Y)=true)
  (fu:W.isFn K (.ref R)=true)
  (fi:W.isFn K (.ref F)=true)
  (Ej:Cls K b)
  (El:W.makesIn K b=true)
  (Ek:W.keepIn K (.ref b)=true)
  (Ut:W.findIn K (.ref b) "lengths"=some none)
  (aQ:W.findIn K (.ref b) "places"=some none)
  (fh:W.findIn K (.ref b) "ways"=some none)
  (aO:W.isFn K (.ref L)=true)
  (dJ:W.isFn K (.ref S)=true)
  (fj:W.isFn K (.ref U)=true)
  (GP:Cls K m)
  (GL:W.makesIn K m=true)
  (GK:W.keepIn K (.ref m)=true)
  (GO:W.findIn K (.ref m) "__init__"=some (some (.builtin "object.__init__")))
  (l9:W.isFn K (.ref vQ)=true)
  (GJ:Cls K g)
  (GR:W.makesIn K g=true)
  (GI:W.keepIn K (.ref g)=true)
  (l4:W.findIn K (.ref g) "most"=some none)
  (l8:W.isFn K (.ref vU)=true)
  (mr:W.isFn K (.ref I)=true)
  (GF:Cls K j)
  (GG:W.makesIn K j=true)
  (GN:W.keepIn K (.ref j)=true)
  (l7:W.findIn K (.ref j) "most"=some none)
  (mq:W.isFn K (.ref M)=true)
  (mx:W.isFn K (.ref O)=true)
  (D_:Cls K f)
  (Ef:W.makesIn K f=true)
  (Ee:W.keepIn K (.ref f)=true)
  (dA:W.findIn K (.ref f) "least"=some none)
  (fC:W.findIn K (.ref f) "most"=some none)
  (fG:W.isFn K (.ref N)=true)
  (fB:W.isFn K (.ref kW)=true)
  (D6:Cls K d)
  (Eg:W.makesIn K d=true)
  (Eo:W.keepIn K (.ref d)=true)
  (dD:W.findIn K (.ref d) "first"=some none)
  (fD:W.findIn K (.ref d) "last"=some none)
  (fE:W.isFn K (.ref Z)=true)
  (fk:W.isFn K (.ref J)=true)
  (D4:Cls K i)
  (Ed:W.makesIn K i=true)
  (D7:W.keepIn K (.ref i)=true)
  (dI:W.findIn K (.ref i) "rules"=some none)
  (fq:W.isFn K (.ref P)=true)
  (fF:W.isFn K (.ref kU)=true)
  (Js:W.kitOne K (.type "list") (.type "list")=some true)
  : ∃fd:FuncData,(∀(s:a42)(v:Value),BindsTo s fd ⟨[v],[]⟩ [("_law_script",v)])/\∀a:Heap,K.In a->a.Ns mainGlobals y->yF l.prog w K y a (CXe l.prog w) 13 fa fd ["_law_script"] (D0 K):=by
 have e:tK=fa:=by have e:=hfa.symm.trans (a0K X G C2.1);injection e with e;injection e with e;exact e.symm
 subst e;have T:Txt K y ⟨C,u,D,B,A,n,q,x,r,c,b,o,m,g,j,f,d,i,z,Kb,dG,Xy,U7,JS,ao,XB,vt,VS,vq,QA,Yl,vy,vp,J6,L,j5,ZL,kD,Yn,vv,VG,ZP,F,Zb,R,Kf,Eb,gP,kG,QG,Y,S,XF,YA,pA,vU,Z,vQ,N,M,P,kE,XJ,J3,aa,pw,J5,YF,gR,aq,XQ,kU,QO,VN,QF,U,dM,Vu,XY,I,O,kW,J,ae,Vw,tK,Kk,dN,XS,ak,Kg,ag,XW,QH,Vy,QN,QJ,VA,vx,QD,JZ,QK,ZO,ZR,YH,VW,QL,VF,ZM,VL,JX,Vx,Ke,Eh,gO,YE,QM,JW,JU,XA,Yz,ph,XH,VB,Xz,Vz,XG,VO,YG,XM,JV,aw,pE,Kj,YB,gM,au,XN,Vv,QC,VJ,QB,VC,dF,VE,XU,XI,XX,VI,VQ,U8,VP,s_,px,VT,QE,VD,xD,gQ,xE,pL,gN,pH,Ki,XE,Ei,xC,xB,pD,Ec,xF,J7⟩:=⟨⟨a0K X G rS,a0K X G Jm,a0K X G Z3,a0K X G Jn,a0K X G UB,a0K X G Zj,a0K X G b8,a0K X G Z4⟩,⟨a0K X G vD,a0K X G rT,a0K X G YY,a0K X G Wg,a0K X G FR,a0K X G uG,a0K X G nN,a0K X G b9⟩,⟨a0K X G CW,a0K X G CY,a0K X G YZ,a0K X G W4,a0K X G Wh,a0K X G b_,a0K X G rV,a0K X G cb⟩,⟨a0K X G iY,a0K X G iZ,a0K X G Ud,a0K X G cf,a0K X G rX,a0K X G rY,a0K X G Ue,a0K X G uH⟩,⟨a0K X G CZ,a0K X G C0,a0K X G rZ,a0K X G r8,a0K X G r9,a0K X G Ug,a1n X G C1,a1n X G uI⟩,⟨a1n X G Jo,a1n X G kh,a1n X G Qq,a1n X G i4,a1n X G nO,a1n X G Z5,a1n X G i5,a1n X G FT⟩,⟨a1n X G Mo,yg X G yz bn2,yg X G qq bn3,yg X G qi bn3,yg X G vW bn3,yg X G qO bn2,yg X G Kt bn6,yg X G ki bn5⟩,⟨VR,VR.binds bn2,yg X G qE bn2,VU,VU.binds bn2,yg X G kI bn1,ai,ai.binds bn2⟩,⟨yg X G yM bn2,VM,VM.binds bn2,yg X G yN bn2,Ym,Ym.binds bn3,QI,QI.binds bn2⟩,⟨yg X G yy bn2,J9,J9.binds bn2,U_,U_.binds bn3,VH,VH.binds bn2,yg X G Zk bn3⟩,⟨yg X G qr bn1,aj,aj.binds bn3,XR,XR.binds bn2,Ka,Ka.binds bn2,yg X G vE bn2⟩,⟨yg X G FU bn3,yg X G W5 bn3,Kc,Kc.binds bn3,yg X G kJ bn2,Qn,Qn.binds bn1,Qo⟩,⟨Qo.binds bn1,yg X G wx bn3,yg X G y3 bn3,yg X G Y0 bn1,Wv,Wv.binds bn2,JT,JT.binds bn2⟩,⟨Wx,Wx.binds bn2,JY,JY.binds bn2,Wu,Wu.binds bn2,Kh,Kh.binds bn2⟩,⟨J_,J_.binds bn2,yg X G wy bn3,yg X G vH bn3,yg X G vX bn3,yg X G vk bn3,yg X G vI bn4,yg X G y4 bn5⟩,⟨yg X G Ku bn3,yg X G vY bn2,yg X G kj bn3,af,af.binds bn2,yg X G kK bn1,yg X G Zn bn2,yg X G qw bn2⟩,⟨ax,ax.binds bn3,yg X G Yv bn1,yg X G Zo bn3,yg X G kl bn3,dH,dH.binds bn2,dE⟩,⟨dE.binds bn2,U9,U9.binds bn3,U6,U6.binds bn3,yg X G vZ bn1,yg X G Zp bn6,yg X G C2 bn1⟩,⟨sX,AK,aR,l_,pJ,Wt,tE,AL⟩,⟨aT,En,GQ,fA,tI,AI,aS,Em⟩,⟨GH,aM,ff,AN,Ea,dC,pG,tD⟩,⟨Ur,sZ,AJ,aN,pF,tf,XT,Ww⟩,⟨pN,tw,Us,D5,Uq,dB,dP,⟨mf,dO,Qn.kp⟩⟩,⟨⟨o9,fu,Ka.kp⟩,⟨D8,pB,fi,D9⟩,Ej,Ut,aQ,fh,⟨fm,aO,Ym.kp⟩,⟨mj,dJ,Qo.kp⟩⟩,⟨⟨El,pe,fj,Ek⟩,GP,⟨tH,l9,Wx.kp⟩,⟨GL,GO,GK⟩,GJ,l4,⟨tL,l8,Wv.kp⟩,⟨GR,sY,mr,GI⟩⟩,⟨GF,l7,⟨tJ,mq,Wu.kp⟩,⟨GG,tF,mx,GN⟩,D_,dA,fC,⟨pf,fG,JY.kp⟩⟩,⟨⟨Ef,pM,fB,Ee⟩,D6,dD,fD,⟨pC,fE,JT.kp⟩,⟨Eg,pK,fk,Eo⟩,D4,dI⟩,⟨⟨pd,fq,Kh.kp⟩,⟨Ed,o_,fF,D7⟩,Js⟩⟩;have eb:∀(s:a42)(v:Value),BindsTo s s_ ⟨[v],[]⟩ [("_law_script",v)]:=by obtain⟨_,_,_,_,_,_,_,_,_,rfl,_,_⟩:=C2.2.ex;exact λs v=>.of_eq rfl
 refine⟨_,eb,λa _ _=>(TB T).imp λvs H Q E ⟨p,ns,e,hS,hl,k⟩=>?_⟩;subst e;exact LU hS (GA ns hl) k
def walk{l:W.OpenLaw}{q:a4b}{c:a40}{o:(Str->Option Value)->Heap->Prop}{j:World->Heap->Prop}{d:DefRec}{K:Params->W.Frag}(A:l.most=some 63)(g:d.params.defaults=[])
  (y:∀(w:a4e)(h:Heap),j w h->(K w.params).In h)
  (F:∀(w:a4e)(e:a37)(fa:Addr)(h:Heap),(K w.params).In h->h.Ns mainGlobals e->e d.name=some (.ref fa)->
   ∃i:FuncData,(∀(s:a42)(u:Value),BindsTo s i ⟨[u],[]⟩ [("_law_script",u)])/\∀b:Heap,(K w.params).In b->b.Ns mainGlobals e->yF l.prog w (K w.params) e b (CXe l.prog w) 13 fa i ["_law_script"] (D0 (K w.params))):
  W.WalkO q c o j l.row.toRowW d [] (λf v=>PySem.call f v):=
 L2.Ld (n:=63) (k:=13) (x:="_law_script") (CX:=λw=>CXe l.prog w) (sp:=λw=>D0 (K w.params)) A (by decide) g ⟨rfl,by decide,by decide⟩ y F (λ_ H a p r B m=>⟨a,p,rfl,m,r,λ_=>rfl⟩) λ_ _ _ _ _ z=>nt z
end K57
open PySem PySem.W PyProof.Rows
namespace PySem.W.Fast
def tw2882719330788447899:=()
def tw7244386820471560105:=()
def tw6523473834595820323:=()
def tw14162817610668284131:=()
def tw8035260984617690811:=()
def tw7624237622137685503:=()
def tw16902911890845241520:=()
def tw11164977358036177659:=()
def tw11357161463550351829:=()
def tw13310943760593676933:=()
def tw9999399606153604840:=()
def tw16859988596264806302:=()
def tw1982528436907101194:=()
def tw11785752442726734283:=()
def tw17916783281297963893:=()
def tw13298574029205616256:=()
def tw7303440017140671867:=()
def tw13759122726982893943:=()
def tw4870815269095277098:=()
def tw7840834778598602536:=()
def tw15580868132686974555:=()
def tw14339202699513649718:=()
def tw10951816427109658848:=()
def tw9746567590059636061:=()
def tw11264609067174148382:=()
def tw12274840564879925597:=()
def tw16530732446317280269:=()
def tw16572119396008367181:=()
def tw14277969323009648465:=()
def tw12287602753260628227:=()
def tw11676403704326375229:=()
def tw13681091294505334371:=()
def tw12687067055894915086:=()
def tw2778893515708697015:=()
def tw12064725067498669620:=()
def tw5157913791560697022:=()
def tw10322226229948178711:=()
def tw4662752466095508358:=()
def tw8075409350435574182:=()
def tw7451663140312438462:=()
def tw13917324036320557001:=()
def tw3588414963847274346:=()
def tw17510850845361204897:=()
def tw8405396638512925456:=()
def tw3592899114286268180:=()
def tw6702143440402643074:=()
def tw15671598385955153061:=()
def tw133368736835976631:=()
def tw9487974495569186580:=()
def tw10290070892489929313:=()
def tw3866885691599708274:=()
def tw3613168523150255906:=()
def tw9792890051433525335:=()
def tw8124759703546555956:=()
def tw15410031097424297557:=()
def tw11121284496690582565:=()
def tw10386514980975336890:=()
def tw9647780129402846251:=()
def tw15529928262591357679:=()
def tw1738603742135045134:=()
def tw8702836841472882001:=()
def tw909467168847043548:=()
def tw14097601304966359926:=()
def tw17134610930259248673:=()
def tw11101007215820859489:=()
def tw5981020174723780154:=()
def tw6996116917999655666:=()
def tw10071714325765767203:=()
def tw9610715459299755268:=()
def tw8538902722539644596:=()
def tw9000148753912469975:=()
def tw14276910097938418080:=()
def tw545310176739984016:=()
def tw15511881654566506254:=()
def tw2841667458845453651:=()
def tw5339395009575225344:=()
def tw4343831931158020465:=()
def tw16173277590407097666:=()
def tw6987430978506285617:=()
def tw11907664450997423438:=()
def tw3706763116417228736:=()
def tw1394915734850893092:=()
def tw4849862252513545537:=()
def tw265453286456066227:=()
def tw11116716838072033866:=()
def tw274036110711984338:=()
def tw9970410383131209537:=()
def tw384017579624280829:=()
def tw1173400975331278159:=()
def tw9711132850570358221:=()
def tw5377134863877455314:=()
def tw2965214708266888579:=()
def tw8379346394457410329:=()
def tw12596650443722284969:=()
def tw774920842937556902:=()
def tw8540340829685310682:=()
def tw3317662177337511501:=()
def tw17516850411715763359:=()
def tw13648193015193667956:=()
def tw3892574175207665890:=()
def tw15900456968576062839:=()
def tw471493583949989124:=()
def tw8354107369135814909:=()
def tw5564312982746075568:=()
def tw4382523320114067592:=()
def tw11607901895823728902:=()
def tw13206437903953807123:=()
def tw6592099303111821350:=()
def tw4402661625457993018:=()
def tw12457942446647074981:=()
def tw16863502809112932734:=()
def tw3425967490855061861:=()
def tw911173994785872819:=()
def tw13180077702747893571:=()
def tw10747901733740771439:=()
def tw3568694430801820064:=()
def tw14683499964571572302:=()
def tw13655316267414842437:=()
def tw2294044903678434398:=()
def tw1898986013578101825:=()
def tw13211625137187502454:=()
def tw468798275624359126:=()
def tw378640000927293724:=()
def tw13876624743289312415:=()
def tw11079659168532179613:=()
def tw3688875126694151049:=()
def tw15284734255638218687:=()
def tw6414677754544580838:=()
def tw12701976065076275955:=()
def tw2252095170706078305:=()
def tw12543492492014675527:=()
def tw8007010994293655251:=()
def tw16903672859413179598:=()
def tw5990515706362208485:=()
def tw1876251953235688832:=()
def tw5776010264872657562:=()
def tw15028405295266134198:=()
def tw1638258572356195756:=()
def tw14378971839077531057:=()
def tw11924085357215851304:=()
def tw12212591165579057021:=()
def tw10630700583502943034:=()
def tw1801266924015334959:=()
def tw2697276155290653377:=()
def tw15807143564854862750:=()
def tw14856907294345451984:=()
def tw11998085069212367708:=()
def tw2454154559278160733:=()
def tw6884057178551046793:=()
def tw17336405824663355598:=()
def tw13426083804651651363:=()
def tw2718873098653010115:=()
def tw7909883833018637863:=()
def tw17274963051645591490:=()
def tw3566692977113342980:=()
def tw8948626558132020478:=()
def tw8409707908355824317:=()
def tw9804962333000978766:=()
def tw2814395164152455147:=()
def tw18128859280063213277:=()
def tw1958043022578976565:=()
def tw7432354196417087163:=()
def tw14233164757136348204:=()
def tw4002986500256381611:=()
def tw17774964072531471717:=()
def tw6001056823016398122:=()
def tw13411106540260070678:=()
def tw14043906698508510253:=()
def tw6253013927596318515:=()
def tw16792267250867720504:=()
def tw7980250841672990886:=()
def tw7182756461125337627:=()
def tw7302483574007318610:=()
def tw13594087812987551551:=()
def tw15853248685598942141:=()
def tw3894570688185776798:=()
def tw10808669604132193867:=()
def tw16368817351209751372:=()
def tw11155404221835897664:=()
def tw3912368879124283763:=()
def tw2936014443680010845:=()
def tw2697530064572666934:=()
def tw4329833826916590262:=()
def tw16700540036529878968:=()
def tw11657979166603566590:=()
def tw10464636112959532012:=()
def tw10026355362304539434:=()
def tw10101824479372278961:=()
def tw4345406691164894412:=()
def tw7442660058306375073:=()
def tw6656450444613582138:=()
def tw11422402403700105141:=()
def tw13535292882350279162:=()
def tw15474425701976961695:=()
def tw467823543843401340:=()
def tw15071640944269830335:=()
def tw7066557900563895719:=()
def tw9356230387832450502:=()
def tw6904293044319908780:=()
def tw2172827726078476796:=()
def tw7000496559947816270:=()
def tw640336369838872943:=()
def tw6013630805982006775:=()
def tw2079390062030490848:=()
def tw8715338762981685503:=()
def tw16814220891163153636:=()
def tw14635696135925927504:=()
def tw11379619285270461202:=()
def tw9727758290298707626:=()
def tw5302438240323192782:=()
def tw18045921968497300066:=()
def tw1668667045057107321:=()
def tw7972616305377172370:=()
def tw4645380924149874102:=()
def tw15234790818013903576:=()
def tw11028348782434759607:=()
def tw1157598902456934388:=()
def tw18196233863777996459:=()
def tw11439868490991620235:=()
def tw5756272755653671280:=()
def tw2583380704509589559:=()
def tw13062452659622544302:=()
def tw12339422619986586330:=()
def tw11191051091295158037:=()
def tw10953093833586854834:=()
def tw13297204797282019259:=()
def tw1624851705276863217:=()
def tw2545170427859978571:=()
def tw5121799424523574660:=()
def tw12383992998161109454:=()
def tw7494333698751932081:=()
def tw16009906749541362461:=()
def tw13475244641654170178:=()
def tw9708278523616719027:=()
def tw17116870076307676074:=()
def tw7326377112191707130:=()
def tw10542462347426522622:=()
def tw3682865475170440321:=()
def tw3473297404298379265:=()
def tw15481476950713007186:=()
def tw15130903807860857360:=()
def tw14827337455889998670:=()
def tw14229878407693856664:=()
def tw16870065247167247467:=()
def tw14949137078899774221:=()
def tw1479855189517145523:=()
def tw13782289983281821184:=()
def tw1331090257722889097:=()
def tw12453922268017556748:=()
def tw12204815798875497861:=()
def tw810116383524073957:=()
def tw2374182026212826784:=()
def tw18431262261508563255:=()
def tw15761963334511360259:=()
def tw2006783836372534465:=()
def tw15981720231664063805:=()
def tw13347572326441236097:=()
def tw16158076789694155568:=()
def tw13299858182516450542:=()
def tw11390128765653990353:=()
def tw6688506327276541934:=()
def tw17824413370898185700:=()
def tw12395852934483014663:=()
def tw18058610014526629445:=()
def tw4612557280463030108:=()
def tw4460799187742164042:=()
def tw9721110306027675768:=()
def tw4433282880366148343:=()
def tw4269864548129808933:=()
def tw7249618817933825587:=()
def tw5103334097405538730:=()
def tw17363428671296607528:=()
def tw14061837825855447619:=()
def tw13931648348363205185:=()
def tw8057618308231574677:=()
def tw5084702706495099794:=()
def tw9729551410402108318:=()
def tw10210181560335492717:=()
def tw13954705835915280440:=()
def tw1167803559778200704:=()
def tw8220007406107742825:=()
def tw7518065493635450017:=()
def tw17331555276716181497:=()
def tw16297598726424510569:=()
def tw2846476497380913992:=()
def tw2363494788044346998:=()
def tw15232775941722291895:=()
def tw13045723717212834094:=()
def tw2011342249091630319:=()
def tw2376708453869073494:=()
def tw11047064074735477518:=()
def tw9653023110814567144:=()
def tw7984572535802409818:=()
def tw6077612799762222406:=()
def tw9916374618733289433:=()
def tw3852896662939861881:=()
def tw12037680081803763383:=()
def tw7272522138753932613:=()
def tw8583931227502429353:=()
def tw13387440945896933622:=()
end PySem.W.Fast
set_option maxRecDepth 100000 in
set_option maxHeartbeats 0 in
theorem PySem.Challenge.cw_fleetpath_k57_whole_closed_downward_holds : PySem.Challenge.rw_fleetpath_k57_whole_closed_downward.Holds := by
 w_on;o_law;k_head;(case hw=>w_witness2)
 k_fill
 refine K57.walk (l:=PySem.Challenge.rw_fleetpath_k57_whole_closed_downward) rfl rfl (λw h Y=>PySem.W.kIn_of Y) ?F
 case F=>
  intro w mg fa h KX G hmg;refine' K57.all_mk KX G hmg ?_ ?_ ?_ ?_ ?_ ?_ ?_ ?_ ?_ ?_ ?_ ?_ ?_ ?_ ?_ ?_ ?_ ?_ ?_ ?_ ?_ ?_ ?_ ?_ ?_ ?_ ?_ ?_ ?_ ?_ ?_ ?_ ?_ ?_ ?_ ?_ ?_ ?_ ?_ ?_ ?_ ?_ ?_ ?_ ?_ ?_ ?_ ?_ ?_ ?_ ?_ ?_ ?_ ?_ ?_ ?_ ?_ ?_ ?_ ?_ ?_ ?_ ?_ ?_ ?_ ?_ ?_ ?_ ?_ ?_ ?_ ?_ ?_ ?_ ?_ ?_ ?_ ?_ ?_ ?_ ?_ ?_ ?_ ?_ ?_ ?_ ?_ ?_ ?_ ?_ ?_ ?_ ?_ ?_ ?_ ?_ ?_ ?_ ?_ ?_ ?_ ?_ ?_ ?_ ?_ ?_ ?_ ?_ ?_ ?_ ?_ ?_ ?_ ?_ ?_ ?_ ?_ ?_ ?_ ?_ ?_ ?_ ?_ ?_ ?_ ?_ ?_ ?_ ?_ ?_ ?_ ?_ ?_ ?_ ?_ ?_ ?_ ?_ ?_ ?_ ?_ ?_ ?_ ?_ ?_ ?_ ?_ ?_ ?_ ?_ ?_ ?_ ?_ ?_ ?_ ?_ ?_ ?_ ?_ ?_ ?_ ?_ ?_ ?_ ?_ ?_ ?_ ?_ ?_ ?_ ?_ ?_ ?_ ?_ ?_ ?_ ?_ ?_ ?_ ?_ ?_ ?_ ?_ ?_ ?_ ?_ ?_ ?_ ?_ ?_ ?_ ?_ ?_ ?_ ?_ ?_ ?_ ?_ ?_ ?_ ?_ ?_ ?_ ?_ ?_ ?_ ?_ ?_ ?_ ?_ ?_ ?_ ?_ ?_ ?_ ?_ ?_ ?_ ?_ ?_ ?_ ?_ ?_ ?_
  all_goals try(first|((first|refine'⟨?_,L2.G9 ?_ ?_ ?_⟩|refine' L2.G9 ?_ ?_ ?_|refine' K57.Pp ?_ ?_ ?_ ?_ ?_)<;>try first|k_is|kernel_rfl)|(show _=_;first|k_is|kernel_rfl)|(first|refine⟨?_,?_,?_,?_,?_⟩|refine⟨?_,?_,?_,?_⟩|refine⟨?_,?_,?_⟩)<;>first|k_is|kernel_rfl)
#print axioms PySem.Challenge.cw_fleetpath_k57_whole_closed_downward_holds
