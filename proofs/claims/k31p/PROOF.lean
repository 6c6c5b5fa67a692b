import PyProof.Rows.All
import Wide.All
import OpenK.AllK
import Wide.FinOn
import Lean
import PyProof.EqAt
import PyProof.EqKinds
import PyProof.TupleCall
import PySem.Challenge.RW_lazyhoist_k31_whole_wanted_or_a_way
set_option bootstrap.genMatcherCode false
set_option genSizeOf false
set_option tactic.hygienic false
set_option Elab.async false
set_option linter.all false
set_option maxRecDepth 100000
noncomputable section
set_option hygiene false
local macro_rules|`(command|abbrev $i $s:optDeclSig $v)=>`(command|noncomputable def $i $s:optDeclSig $v)
def rp:Nat→Lean.Syntax→Lean.MacroM (Lean.TSyntax `rcasesPat)
|0,_=>Lean.Macro.throwUnsupported
|n+1,x=>match x with
|`(⟨$a,*⟩)=>do let q←a.getElems.mapM λx=>rp n x;`(rcasesPat|⟨$[$q],*⟩)
|`(_)=>`(rcasesPat|_)
|x=>`(rcasesPat|$(⟨x⟩):ident)
theorem E03{A B C:Prop}{Z:Prop}(h:A∧B∧C)(k:A→B→C→Z):Z:=k h.1 h.2.1 h.2.2
theorem E13{α:Sort _}{A B:α→Prop}{Z:Prop}(h:∃x,A x∧B x)(k:∀x,A x→B x→Z):Z:=h.elim λx h=>k x h.1 h.2
theorem E23{α β:Sort _}{A:α→β→Prop}{Z:Prop}(h:∃x y,A x y)(k:∀x y,A x y→Z):Z:=h.elim λx h=>h.elim λy h=>k x y h
theorem E04{A B C D:Prop}{Z:Prop}(h:A∧B∧C∧D)(k:A→B→C→D→Z):Z:=k h.1 h.2.1 h.2.2.1 h.2.2.2
theorem E14{α:Sort _}{A B C:α→Prop}{Z:Prop}(h:∃x,A x∧B x∧C x)(k:∀x,A x→B x→C x→Z):Z:=h.elim λx h=>k x h.1 h.2.1 h.2.2
theorem E24{α β:Sort _}{A B:α→β→Prop}{Z:Prop}(h:∃x y,A x y∧B x y)(k:∀x y,A x y→B x y→Z):Z:=h.elim λx h=>h.elim λy h=>k x y h.1 h.2
theorem E34{α β γ:Sort _}{A:α→β→γ→Prop}{Z:Prop}(h:∃x y z,A x y z)(k:∀x y z,A x y z→Z):Z:=h.elim λx h=>h.elim λy h=>h.elim λz h=>k x y z h
theorem E05{A B C D E:Prop}{Z:Prop}(h:A∧B∧C∧D∧E)(k:A→B→C→D→E→Z):Z:=k h.1 h.2.1 h.2.2.1 h.2.2.2.1 h.2.2.2.2
theorem E15{α:Sort _}{A B C D:α→Prop}{Z:Prop}(h:∃x,A x∧B x∧C x∧D x)(k:∀x,A x→B x→C x→D x→Z):Z:=h.elim λx h=>k x h.1 h.2.1 h.2.2.1 h.2.2.2
theorem E25{α β:Sort _}{A B C:α→β→Prop}{Z:Prop}(h:∃x y,A x y∧B x y∧C x y)(k:∀x y,A x y→B x y→C x y→Z):Z:=h.elim λx h=>h.elim λy h=>k x y h.1 h.2.1 h.2.2
theorem E35{α β γ:Sort _}{A B:α→β→γ→Prop}{Z:Prop}(h:∃x y z,A x y z∧B x y z)(k:∀x y z,A x y z→B x y z→Z):Z:=h.elim λx h=>h.elim λy h=>h.elim λz h=>k x y z h.1 h.2
theorem E45{α β γ δ:Sort _}{A:α→β→γ→δ→Prop}{Z:Prop}(h:∃x y z u,A x y z u)(k:∀x y z u,A x y z u→Z):Z:=h.elim λx h=>h.elim λy h=>h.elim λz h=>h.elim λu h=>k x y z u h
theorem E06{A B C D E F:Prop}{Z:Prop}(h:A∧B∧C∧D∧E∧F)(k:A→B→C→D→E→F→Z):Z:=k h.1 h.2.1 h.2.2.1 h.2.2.2.1 h.2.2.2.2.1 h.2.2.2.2.2
theorem E16{α:Sort _}{A B C D E:α→Prop}{Z:Prop}(h:∃x,A x∧B x∧C x∧D x∧E x)(k:∀x,A x→B x→C x→D x→E x→Z):Z:=h.elim λx h=>k x h.1 h.2.1 h.2.2.1 h.2.2.2.1 h.2.2.2.2
theorem E26{α β:Sort _}{A B C D:α→β→Prop}{Z:Prop}(h:∃x y,A x y∧B x y∧C x y∧D x y)(k:∀x y,A x y→B x y→C x y→D x y→Z):Z:=h.elim λx h=>h.elim λy h=>k x y h.1 h.2.1 h.2.2.1 h.2.2.2
theorem E36{α β γ:Sort _}{A B C:α→β→γ→Prop}{Z:Prop}(h:∃x y z,A x y z∧B x y z∧C x y z)(k:∀x y z,A x y z→B x y z→C x y z→Z):Z:=h.elim λx h=>h.elim λy h=>h.elim λz h=>k x y z h.1 h.2.1 h.2.2
theorem E46{α β γ δ:Sort _}{A B:α→β→γ→δ→Prop}{Z:Prop}(h:∃x y z u,A x y z u∧B x y z u)(k:∀x y z u,A x y z u→B x y z u→Z):Z:=h.elim λx h=>h.elim λy h=>h.elim λz h=>h.elim λu h=>k x y z u h.1 h.2
theorem E56{α β γ δ ε:Sort _}{A:α→β→γ→δ→ε→Prop}{Z:Prop}(h:∃x y z u v,A x y z u v)(k:∀x y z u v,A x y z u v→Z):Z:=h.elim λx h=>h.elim λy h=>h.elim λz h=>h.elim λu h=>h.elim λv h=>k x y z u v h
def sE(n:Nat)(a:Array Lean.Term)(e:Lean.Term):Nat→Lean.TSyntax `tactic→Lean.MacroM (Lean.TSyntax `tactic)
|0,r=>pure r
|k+1,r=>do let f:=Lean.mkIdent (.mkSimple s!"E{n-1-k}{n}");let c←(if e.raw.isIdent then`(tactic|try clear $(⟨e⟩):ident)else`(tactic|skip));let q←`(tactic|(refine $f $e ?_;$c;intro $a*));sE n a e k (←`(tactic|first|$q:tactic|$r:tactic))
local macro_rules|`(tactic|let $p:term:=$e)=>do
 let o←`(tactic|obtain $(←rp 9 p):rcasesPat:=$e)
 match p with
 |`(⟨$a,*⟩)=>do
  let a:=a.getElems
  if 3≤a.size&&a.size≤6&&a.all (λx=>x.raw.isOfKind `Lean.Parser.Term.hole||x.raw.isIdent&&!(x.raw.getId==`rfl)) then sE a.size a e a.size o else pure o
 |_=>pure o
def aA:=@PySem.wpAny_bind
def aN:=@PySem.wpAny_pure
def aU:=@Nat.le_refl
def bp:=@List.getElem?_eq_some_iff
def bq:=@of_decide_eq_true
def bw:=@Bool.false_ne_true
def bQ:=@List.mem_map
def bZ:=@PySem.Heap.lt_size
def cg:=@List.mem_cons_self
def cw:=@PySem.Heap.get?_push_of_some
def cE:=@PySem.Paired.length
def cF:=@List.getElem?_map
def cT:=@List.mem_cons_of_mem
def cY:=@List.map_cons
def cZ:=@PySem.SeqAt.room_here
def du:=@List.getElem?_eq_getElem
def dC:=@Nat.le_trans
def dD:=@congrArg
def dH:=@List.mem_of_getElem?
def dP:=@Option.some.inj
def dQ:=@List.mem_cons
def dY:=@List.getElem?_set_ne
def dZ:=@List.length_map
def eC:=@decide_eq_true
def eD:=@Nat.lt_of_le_of_lt
def fu:=@Nat.ne_of_lt
def fw:=@List.length_append
def fI:=@decide_eq_false
def fJ:=@Nat.lt_of_lt_of_le
def fK:=@List.isEmpty_iff
def fY:=@PySem.wpAny_mono
def fZ:=@List.length_set
def f6:=@List.length_cons
def gq:=@PySem.Heap.get?_push_size
def gu:=@List.size_toArray
def gw:=@List.map_map
def gG:=@Int.emod_nonneg
def gS:=@Int.emod_lt_of_pos
def iq:=@List.mem_append
def iQ:=@List.mem_range
def jn:=@List.mem_append_left
def jo:=@List.mem_append_right
def jt:=@Nat.zero_le
def jX:=@Nat.lt_irrefl
def jY:=@PySem.wpAny_holding
def jZ:=@List.nodup_cons
def j0:=@Nat.not_lt_zero
def j4:=@List.take_add_one
def ll:=@Ne.symm
def lq:=@Bool.and_eq_true
def lu:=@List.all_eq_true
def ly:=@List.map_append
def mr:=@List.mem_filter
def mv:=@Bool.eq_iff_iff
def mw:=@List.length_take
def my:=@List.lookup_cons
def mz:=@List.getElem?_set
def mB:=@List.getD_eq_getElem?_getD
def nL:=@PySem.wpAny_truthy_bool
def nM:=@PySem.mem_of_lookup
def nP:=@Array.length_toList
def nQ:=@PySem.wpAny_newObj_type
def nR:=@Array.getElem?_toList
def nS:=@PySem.W.kia_one
def nT:=@List.take_length
def pG:=@PySem.wpAny_call_entry
def pH:=@PySem.wpAny_passesOwn
def pI:=@PyProof.Rows.callWith_type1
def pJ:=@PySem.sizeLine_eq
def pL:=@List.getElem?_append_left
def pM:=@List.all_cons
def pN:=@List.any_cons
def pO:=@List.getElem?_eq_none
def pP:=@Option.toList_some
def pQ:=@List.any_eq_true
def rJ:=@List.append_nil
def rK:=@PyProof.Rows.slot_tuple_getitem
def rL:=@List.nodup_nil
def rM:=@Nat.le_of_eq
def rN:=@List.getElem_mem
def rP:=@List.nodup_append
def rQ:=@List.getElem?_mapIdx
def rR:=@List.map_congr_left
def rS:=@Int.toNat_natCast
def u9:=@PySem.SeqAt.EqAt.same
def vb:=@PySem.Calls.spliced_cons
def vd:=@List.getElem?_replicate
def ve:=@PySem.tupleKind_room_in1
def vf:=@PySem.wpAny_dictEpoch
def vg:=@PySem.F.slot_dict_keyiterator_next
def vh:=@Nat.lt_or_ge
def vi:=@Classical.choose_spec
def vj:=@List.length_range
def vk:=@PySem.W.mg_of
def vm:=@List.getElem_map
def vn:=@List.length_filter_le
def vo:=@Nat.testBit_lt_two_pow
def zD:=@PySem.typeIs_none
def zE:=@PySem.F.slot_NoneType_hash
def zF:=@List.filterMap_cons
def zG:=@PySem.wpAny_execs_nil
def zH:=@PySem.wpAny_standAt
def zI:=@Int.natCast_nonneg
def zJ:=@List.length_replicate
def zK:=@PySem.concat_meets
def zL:=@PySem.wpAny_callSpecial?_slot
def zM:=@Bool.or_false
def zN:=@List.reverse_cons
def zO:=@List.replicate_succ
def zP:=@List.flatten_cons
def zQ:=@Option.isSome_map
def zR:=@PySem.F.slot_dict_get
def zS:=@PySem.wpAny_dictEntries
def zT:=@PySem.wpAny_typeNameOfWhole_keyiter
def zU:=@PySem.wpAny_typeNameOf_keyiter
def zV:=@List.getElem?_eq_none_iff
def zW:=@PySem.SeqAt.room_in
def zX:=@PySem.wpAny_getItem_str_slice
def zY:=@PySem.post_val_or_str
def zZ:=@PySem.Txt.slice_le
def z4:=@Option.bind_some
def z5:=@List.eq_of_mem_replicate
def z6:=@List.cons.inj
def z7:=@List.ext_getElem
def z8:=@Int.toNat_of_nonneg
def E4:=@PySem.wpAny_specialOf
def E5:=@PySem.SeqAt.EqAt.int_str
def E6:=@PySem.SeqAt.EqAt.int_none
def E7:=@PySem.SeqAt.EqAt.str_int
def E8:=@PySem.SeqAt.EqAt.str_none
def E9:=@PySem.SeqAt.EqAt.none_int
def Fc:=@PySem.SeqAt.EqAt.none_str
def Fd:=@List.mem_filterMap
def Fe:=@PySem.wpAny_Call_Name_kw
def Ff:=@List.of_mem_zip
def Fg:=@PySem.noFill_tuple_add
def Fh:=@PySem.F.slot_tuple_add
def Fm:=@PySem.F.entry_tuple_add
def Fn:=@PySem.F.args_tuple_add_2
def Fo:=@PySem.Calls.callWith_builtin
def Fp:=@List.map_nil
def Fq:=@PySem.F.entry_dict_get
def Fs:=@PySem.F.args_dict_get_3
def Ft:=@List.drop_eq_getElem_cons
def Fu:=@List.drop_length
def Fv:=@List.getElem?_range
def Fw:=@Nat.pow_le_pow_right
def Fx:=@Nat.eq_of_testBit_eq
def Fy:=@decide_eq_true_eq
def PN:=@Int.fdiv_eq_ediv_of_nonneg
def PQ:=@PySem.F.entry_dict_keyiterator_next
def PR:=@PySem.F.args_dict_keyiterator_next_1
def PV:=@Array.getElem?_eq_some_iff
def PX:=@Array.getElem?_eq_getElem
def PY:=@List.getElem?_cons_zero
def PZ:=@Nat.testBit_two_pow_add_gt
def P4:=@Nat.testBit_two_pow_add_eq
def P5:=@Nat.testBit_two_pow_of_ne
namespace L2
open PySem PySem.Spec PyProof.Rows
inductive Key where|inl (i:Int)|inr (x:Str)|non
 deriving DecidableEq
abbrev Nm:Value→Bool
 |.none=>true
 |_=>false
def U8{v:Value}(h:Nm v=true):v=.none:=by cases v<;>first|rfl|cases h
def qL:Key→Value→Bool
 |.inl k,v=>Value.isInt k v
 |.inr x,v=>Value.isStrOf x v
 |.non,v=>Nm v
abbrev acV(w:World):Key→Int
 |.inl k=>hashInt k
 |.inr x=>hashStr w x
 |.non=>4238894112
def kr:∀{k:Key}{v:Value},qL k v=true→(∃i t,k=.inl i∧v=Value.int i t)∨(∃x t,k=.inr x∧v=Value.str x t)∨(k=.non∧v=.none)
 |.inl i,v,h=>by
  let⟨t,e⟩:=Value.isInt_shape (k:=i) (v:=v) h;exact .inl ⟨i,t,rfl,e⟩
 |.inr x,v,h=>by
  let⟨t,e⟩:=Value.isStrOf_shape (x:=x) (v:=v) h;exact .inr (.inl ⟨x,t,rfl,e⟩)
 |.non,v,h=>.inr (.inr ⟨rfl,U8 h⟩)
def Uj(i:Int)(t:Tok):qL (.inl i) (.int i t)=true:=by simp[qL,Value.isInt]
def Uk(x:Str)(t:Tok):qL (.inr x) (.str x t)=true:=by simp[qL,Value.isStrOf]
def Yv(a b:Int):decide ((Key.inl a:Key)=.inl b)=(a==b):=by
 by_cases e:a=b
 ·subst e;simp
 ·rw[fI λq=>e (Key.inl.inj q)];exact(beq_eq_false_iff_ne.mpr e).symm
def Yw(a b:Str):decide ((Key.inr a:Key)=.inr b)=decide (a=b):=by
 by_cases e:a=b
 ·subst e;simp
 ·rw[fI λq=>e (Key.inr.inj q),fI e]
def IK{prog:Program}{w:World}{A:Around}{E:Value→Shared→Prop}{s:Shared}{Q:Int→Shared→Prop}(h:Q 4238894112 { s with toks:=s.toks+1 }):wpAny (model prog w) A (PySem.pyHash .none) Q E s:=by
 unfold PySem.pyHash;have hv:[Value.none].any Value.onHeap=false:=rfl;refine aA ?_;rw[cRoomFor,if_neg (by rw[hv];exact bw)];refine aN ?_;refine aA (E4 (zD s) zE.lookup ?_);show wpAny _ _ (if (some (Value.builtin "NoneType.__hash__")==some Value.none)=true then _ else _) Q E s;rw[if_neg (by rw[beq_builtin_none];exact bw)];refine aA (E4 (zD s) zE.lookup ?_);show wpAny _ _ (callSpecialIfBoundUnlessNone? .none "__hash__" _ >>= _) Q E s;refine aA (wpAny_callSpecialIfBoundUnlessNone?_slot (zD s) zE
  (pG zE (zD s) PySem.F.entry_NoneType_hash
   (show wpAny _ _ (do ret (←mkInt 4238894112)) _ _ s from wpAny_ret_mkInt ?_) (PySem.F.args_NoneType_hash_1 _)))
 exact aN h
def cG(prog:Program)(w:World):PySem.KeyKind prog w Key where
 is:=qL
 hash:=acV w
 inj:=λv a b ha hb=>by
  rcases kr ha with⟨i,t,rfl,rfl⟩|⟨x,t,rfl,rfl⟩|⟨rfl,rfl⟩<;>rcases kr hb with⟨j,u,rfl,e⟩|⟨y,u,rfl,e⟩|⟨rfl,e⟩<;>first|rfl | (injection e with e1 _;rw[e1];done) | (cases e;done)
 byValue:=λk v h=>by
  rcases kr h with⟨i,t,rfl,rfl⟩|⟨x,t,rfl,rfl⟩|⟨rfl,rfl⟩<;>rfl
 pyHash:=λhv h=>by
  rcases kr hv with⟨i,t,rfl,rfl⟩|⟨x,t,rfl,rfl⟩|⟨rfl,rfl⟩
  ·exact wpAny_pyHash_int h
  ·exact wpAny_pyHash_str h
  ·exact IK h
 eqBool:=λhu hv h=>by
  rcases kr hu with⟨i,t,rfl,rfl⟩|⟨x,t,rfl,rfl⟩|⟨rfl,rfl⟩
  ·rcases kr hv with⟨j,u,rfl,rfl⟩|⟨y,u,rfl,rfl⟩|⟨rfl,rfl⟩
   ·rw[Yv]at h;exact wpAny_eqBool_int h
   ·exact E5 i t y u _ _ _ _ h
   ·exact E6 i t _ _ _ _ h
  ·rcases kr hv with⟨j,u,rfl,rfl⟩|⟨y,u,rfl,rfl⟩|⟨rfl,rfl⟩
   ·exact E7 x t j u _ _ _ _ h
   ·rw[Yw]at h;exact wpAny_eqBool_str h
   ·exact E8 x t _ _ _ _ h
  ·rcases kr hv with⟨j,u,rfl,rfl⟩|⟨y,u,rfl,rfl⟩|⟨rfl,rfl⟩
   ·exact E9 j u _ _ _ _ h
   ·exact Fc y u _ _ _ _ h
   ·exact u9 .none _ _ _ _ h
 «strs»:=λk x t v h=>by
  rcases kr h with⟨i,u,rfl,e⟩|⟨y,u,rfl,e⟩|⟨rfl,e⟩
  ·exact nomatch e
  ·injection e with e1 _;subst e1;cases v<;>rfl
  ·exact nomatch e
def Ts(prog:Program)(w:World)(i:Int)(t:Tok):(cG prog w).is (.inl i) (.int i t)=true:=Uj i t
def Tt(prog:Program)(w:World)(x:Str)(t:Tok):(cG prog w).is (.inr x) (.str x t)=true:=Uk x t
def Tv(prog:Program)(w:World):(cG prog w).is .non .none=true:=rfl
inductive V where
 |non|bl (b:Bool)|int (i:Int)|str (x:Str)|gU (b:Array UInt8)|vp (b:UInt64)|ref (a:Addr)|ty (n:String)
 deriving DecidableEq
abbrev RelV:V→Value→Prop
 |.non,u=>u=Value.none
 |.bl b,u=>u=Value.bool b
 |.int i,u=>∃t,u=Value.int i t
 |.str x,u=>∃t,u=Value.str x t
 |.gU b,u=>∃t,u=Value.bytes b t
 |.vp b,u=>∃t,u=Value.float b t
 |.ref a,u=>u=Value.ref a
 |.ty n,u=>u=Value.type n
@[reducible]def Vals:List V→List Value→Prop:=Paired RelV
theorem Vals.length{xs:List V}{us:List Value}(r:Vals xs us):xs.length=us.length:=cE r
theorem Vals.get:∀{xs:List V}{us:List Value}{i:Nat}{x:V},Vals xs us→xs[i]?=some x→∃u,us[i]?=some u∧RelV x u
 |_,_,_,_,.nil,e=>by simp at e
 |_,_,0,_,.cons r _,e=>by simp at e;subst e;exact⟨_,rfl,r⟩
 |_,_,i+1,x,.cons _ t,e=>by
  let⟨u,h1,h2⟩:=Vals.get (i:=i) (x:=x) t (by simpa using e);exact⟨u,by simpa using h1,h2⟩
theorem Vals.set{x:V}{u:Value}(r:RelV x u):∀{xs:List V}{us:List Value} (i:Nat),Vals xs us→Vals (xs.set i x) (us.set i u)
 |_,_,_,.nil=>.nil
 |_,_,0,.cons _ t=>.cons r t
 |_,_,i+1,.cons q t=>.cons q (Vals.set r i t)
theorem Vals.append:∀{xs ys:List V}{us ws:List Value},Vals xs us→Vals ys ws→Vals (xs++ys) (us++ws)
 |_,_,_,_,.nil,s=>s
 |_,_,_,_,.cons r t,s=>.cons r (Vals.append t s)
theorem Vals.take:∀{xs:List V}{us:List Value} (n:Nat),Vals xs us→Vals (xs.take n) (us.take n)
 |_,_,0,_=>.nil
 |_,_,_+1,.nil=>.nil
 |_,_,n+1,.cons r t=>.cons r (Vals.take n t)
theorem Vals.drop:∀{xs:List V}{us:List Value} (n:Nat),Vals xs us→Vals (xs.drop n) (us.drop n)
 |_,_,0,r=>r
 |_,_,_+1,.nil=>.nil
 |_,_,n+1,.cons _ t=>Vals.drop n t
def i7:Option V→Option Value→Prop
 |some v,some u=>RelV v u
 |none,none=>True
 |_,_=>False
def KV{κ:Type}:List (κ×V)→List (κ×Value)→Prop:=Paired λ(p:κ×V) (q:κ×Value)=>p.1=q.1∧RelV p.2 q.2
abbrev kV:Key→V
 |.inl i=>.int i
 |.inr x=>.str x
 |.non=>.non
inductive HO where
 |lst (xs:List V)
 |tup (xs:List V)
 |dK (aj:List (Key×V))|dT (aj:List (List Key×V))
 |set (S:Int→Bool) (n:Nat)
 |ins (C dx:Addr) (fs:List (Str×V))
 |own (x:Addr)
 |xd (fs:List (Str×V))
 |met (f x:Addr)
 |cj (lo hi:Int)
 |aW (o:Obj) (u:HO)
 |mC (ps:Array Value)
 |ext (φ:Heap→Prop)
noncomputable abbrev Hp:=Addr→Option HO
abbrev upd(H:Hp)(a:Addr)(o:HO):Hp:=λb=>if b=a then some o else H b
def bN{H:Hp}{a:Addr}{o:HO}:upd H a o a=some o:=by unfold upd;rw[if_pos rfl]
def aI{H:Hp}{a b:Addr}{o:HO}(h:b≠a):upd H a o b=H b:=by unfold upd;rw[if_neg h]
def qM{H:Hp}{a b:Addr}{o u:HO}(h:H a=some o)(h':H b=some u)(d:o≠u):a≠b:=by
 intro e;subst e;rw[h]at h';exact d (dP h')
def eR{H:Hp}{a b:Addr}{o:HO}(h:H a=some o)(h':H b=none):a≠b:=by
 intro e;subst e;rw[h]at h';cases h'
def oR(h:Heap)(a:Addr)(items:Array Value):Prop:=∃o,h.get? a=some o∧o.cls=.type "tuple" ∧ o.dict=none∧∃n,o.data=.seq items n
def oR.tup{h:Heap}{a:Addr}{items:Array Value}(q:oR h a items):IsTup h a items:=let ⟨o,h1,h2,_,h3⟩:=q;⟨o,h1,h2,h3⟩
def oR.new(h:Heap)(items:Array Value):oR (h.push { cls:=.type "tuple",data:=.seq items }) h.objs.size items:=⟨_,gq _ rfl,rfl,rfl,_,rfl⟩
section
variable (P:Program)(w:World)
def cB(H:Hp)(h:Heap)(a:Addr):HO→Prop
 |.lst xs=>xs.length≤sizeLine∧∃(its:List Value) (n:Nat),Vals xs its∧h.get? a=some { cls:=.type "list",data:=.seq its.toArray n }
 |.tup xs=>xs.length≤sizeLine∧∃its:List Value,Vals xs its∧oR h a its.toArray
 |.dK aj=>aj.length≤sizeLine∧(a==sysModules)=false∧∃vs,KV aj vs∧h.DictOf (cG P w) a vs
 |.dT aj=>aj.length≤sizeLine∧(a==sysModules)=false∧∃xs:List (List Key×Addr×Value),
  Paired (λ(p:List Key×V) (q:List Key×Addr×Value)=>p.1=q.1∧H q.2.1=some (.tup (p.1.map kV))∧RelV p.2 q.2.2) aj xs ∧
  ∃o es ep,h.get? a=some o∧o.ExactDict∧o.data=.dict es ep∧es.toList=xs.map (entryOfKey (tupleKind (cG P w)))∧(xs.map (·.1)).Nodup
 |.set S n=>h.SetOf (intKind P w) a S n
 |.ins C dx fs=>H dx=some (.own a)∧fs.length≤1000∧dx≠a∧h.get? a=some (PySem.W.instObj C dx) ∧
  ∃mA,h.Ns1 dx mA∧(∀f,i7 (fs.lookup f) (mA f))∧PySem.Within mA (fs.map (·.1))
 |.own _=>∃o,h.get? a=some o
 |.xd fs=>∃mA,h.Ns1 a mA∧∀f,i7 (fs.lookup f) (mA f)
 |.cj lo hi=>∃t u v,h.get? a=some { cls:=.type "range",data:=.fields #[.int lo t,.int hi u,.int 1 v] }
 |.aW o u=>h.get? a=some o∧cB H h a u
 |.mC ps=>h.get? a=some { cls:=.none,data:=.fields ps }
 |.met f x=>h.get? a=some (PySem.W.methodObj (.ref f) (.ref x))
 |.ext φ=>φ h∧(∃o,h.get? a=some o)∧∀h1 h2:Heap,φ h1→(∀o,h1.get? a=some o→h2.get? a=some o)→φ h2
def cP(H:Hp)(h:Heap):Prop:=∀a o,H a=some o→cB P w H h a o
end
section
variable {P:Program}{w:World}{H H':Hp}{h h':Heap}{a:Addr}{o:HO}
theorem cB.lt(x:cB P w H h a o):a<h.objs.size:=by
 cases o with
 |lst xs=>let⟨_,_,_,_,e⟩:=x;exact bZ e
 |tup xs=>let⟨_,_,_,p⟩:=x;exact p.tup.lt
 |dK aj=>let⟨_,_,_,_,o,_,_,e,_⟩:=x;exact bZ e
 |dT aj=>let⟨_,_,_,_,o,_,_,e,_⟩:=x;exact bZ e
 |set S n=>let⟨o,_,_,_,e,_⟩:=x;exact bZ e
 |ins C dx fs=>let⟨_,_,_,e,_⟩:=x;exact bZ e
 |own y=>let⟨_,e⟩:=x;exact bZ e
 |xd fs=>let⟨_,⟨_,_,_,e,_⟩,_⟩:=x;exact bZ e
 |cj lo hi=>let⟨_,_,_,e⟩:=x;exact bZ e
 |aW ob u=>let⟨e,_⟩:=x;exact bZ e
 |mC ps=>exact bZ (show h.get? a=some _ from x)
 |met f y=>exact bZ (show h.get? a=some _ from x)
 |ext φ=>let⟨_,⟨_,e⟩,_⟩:=x;exact bZ e
theorem Paired.lU{α β:Type}{F G:α→β→Prop}:∀{l₁:List α}{l₂:List β},Paired F l₁ l₂→(∀a b,F a b→G a b)→Paired G l₁ l₂
 |_,_,.nil,_=>.nil
 |_,_,.cons r t,f=>.cons (f _ _ r) (Paired.lU t f)
def cB.nr(x:cB P w H h a o)(k:∀b u,(b=a∨H b=some (.own a))→h.get? b=some u→h'.get? b=some u)
  (ho:∀b,H b=some (.own a)→H' b=some (.own a)) (ht:∀b xs,H b=some (.tup xs)→H' b=some (.tup xs)):cB P w H' h' a o:=by
 induction o with
 |lst xs=>let⟨z,its,n,r,e⟩:=x;exact⟨z,its,n,r,k _ _ (.inl rfl) e⟩
 |tup xs=>let⟨z,its,r,ob,e,c⟩:=x;exact⟨z,its,r,ob,k _ _ (.inl rfl) e,c⟩
 |dK aj=>let⟨z,y,vs,r,ob,es,ep,e,c⟩:=x;exact⟨z,y,vs,r,ob,es,ep,k _ _ (.inl rfl) e,c⟩
 |dT aj =>
  let⟨z,y,xs,r,ob,es,ep,e,c⟩:=x;exact⟨z,y,xs,Paired.lU r λp q z=>⟨z.1,ht _ _ z.2.1,z.2.2⟩,ob,es,ep,k _ _ (.inl rfl) e,c⟩
 |set S n=>let⟨ob,es,ep,t,e,c⟩:=x;exact⟨ob,es,ep,t,k _ _ (.inl rfl) e,c⟩
 |ins C dx fs =>
  let⟨d,z,ne,e,mA,⟨od,es,ep,e2,c⟩,r⟩:=x;exact⟨ho _ d,z,ne,k _ _ (.inl rfl) e,mA,⟨od,es,ep,k _ _ (.inr d) e2,c⟩,r⟩
 |own y=>let⟨ob,e⟩:=x;exact⟨ob,k _ _ (.inl rfl) e⟩
 |xd fs=>let⟨mA,⟨od,es,ep,e,c⟩,r⟩:=x;exact⟨mA,⟨od,es,ep,k _ _ (.inl rfl) e,c⟩,r⟩
 |cj lo hi=>let⟨t,u,v,e⟩:=x;exact⟨t,u,v,k _ _ (.inl rfl) e⟩
 |aW ob u ih=>let⟨e,q⟩:=x;exact⟨k _ _ (.inl rfl) e,ih q⟩
 |mC ps =>
  have e:h.get? a=some { cls:=.none,data:=.fields ps }:=x;show h'.get? a=some { cls:=.none,data:=.fields ps };exact k a _ (.inl rfl) e
 |met f y =>
  have e:h.get? a=some (PySem.W.methodObj (.ref f) (.ref y)):=x;show h'.get? a=some (PySem.W.methodObj (.ref f) (.ref y));exact k a _ (.inl rfl) e
 |ext φ=>let⟨p,⟨o,e⟩,st⟩:=x;exact⟨st _ _ p λo q=>k _ _ (.inl rfl) q,⟨o,k _ _ (.inl rfl) e⟩,st⟩
theorem cP.lt(x:cP P w H h)(e:H a=some o):a<h.objs.size:=(x a o e).lt
def cP.fresh(x:cP P w H h)(e:h.objs.size≤a):H a=none:=by
 cases q:H a with
 |none=>rfl
 |some u=>exact absurd (fJ (x.lt q) e) (jX _)
def cP.kept(x:cP P w H h)(k:∀b u,h.get? b=some u→h'.get? b=some u):cP P w H h':=λa o e =>
 (x a o e).nr (λb u _ q=>k b u q) (λ_ q=>q) λ_ _ q=>q
def cP.laid(x:cP P w H h)(k:∀b u,h.get? b=some u→h'.get? b=some u)(hp:h.objs.size≤a)(new:cB P w (upd H a o) h' a o):cP P w (upd H a o) h':=λb u e=>by
 have hn:=x.fresh hp;by_cases hb:b=a
 ·subst hb;rw[bN]at e;cases e;exact new
 ·rw[aI hb]at e;exact(x b u e).nr (λc v _ q=>k c v q) (λc q=>by rw[aI (eR q hn)];exact q) λc xs q=>by rw[aI (eR q hn)];exact q
end
def Rd(H:Hp)(a:Addr)(u:HO):Prop:=H a=some u∨∃o,H a=some (.aW o u)
def Rd.ok{P:Program}{w:World}{H:Hp}{h:Heap}{a:Addr}{u:HO}(r:Rd H a u)(x:cP P w H h):cB P w H h a u:=by
 rcases r with r|⟨o,r⟩
 ·exact x a u r
 ·let⟨_,q⟩:=x a _ r;exact q
abbrev vq:Option HO→Prop
 |some (.lst _)=>True
 |some (.dK _)=>True
 |some (.dT _)=>True
 |some (.set _ _)=>True
 |some (.ins _ _ _)=>True
 |some (.ext _)=>True
 |_=>False
section
variable {P:Program}{w:World}{H:Hp}{h h':Heap}{x e:Addr}{o':HO}
def cP.write(ok:cP P w H h)(mu:vq (H x))(he:e=x∨H e=some (.own x))(k:∀b u,b≠e→h.get? b=some u→h'.get? b=some u)(rV:∃u,h'.get? e=some u)
  (new:cB P w (upd H x o') h' x o'):cP P w (upd H x o') h':=λb u q=>by
 have Og:∀c y,H c=some (.own y)→c≠x:=λc y r z=>by subst z;rw[r]at mu;exact mu
 have acW:∀c xs,H c=some (.tup xs)→c≠x:=λc xs r z=>by subst z;rw[r]at mu;exact mu
 by_cases hb:b=x
 ·subst hb;rw[bN]at q;cases q;exact new
 ·rw[aI hb]at q;by_cases j5:b=e
  ·have q':H b=some (.own x):=by
    rcases he with z|z
    ·exact absurd (j5.trans z) hb
    ·rw[j5];exact z
   rw[q]at q';cases q';let⟨v,hv⟩:=rV;exact⟨v,by rw[j5];exact hv⟩
  ·refine(ok b u q).nr (λc v hc r=>k c v ?_ r) (λc r=>by rw[aI (Og c b r)];exact r) λc xs r=>by rw[aI (acW c xs r)];exact r
   rcases hc with rfl|hc
   ·exact j5
   ·rintro rfl;rcases he with z|z
    ·exact Og c b hc z
    ·rw[hc]at z;cases z;exact hb rfl
end
structure Un (fs ex:List Addr)(H H':Hp)(h h':Heap):Prop where
 keep:∀b o,h.get? b=some o→H b=none→b∉fs→b∉ex→h'.get? b=some o
 slot:∀b o,h.get? b=some o→H b=none→b∈fs→b∉ex→∃sl,h'.get? b=some { o with slots:=sl }
 free:∀b o,h.get? b=some o→H b=none→b∉ex→H' b=none
 there:∀b o,h.get? b=some o→b∉ex→∃o',h'.get? b=some o'
 lV:∀b xs,H b=some (.tup xs)→H' b=some (.tup xs)
 jL:∀b o u,H b=some (.aW o u)→H' b=some (.aW o u)
 lW:∀b ps,H b=some (.mC ps)→∃more,H' b=some (.mC (ps++more))
section
variable {fs fs' ex ex':List Addr}{H H1 H2:Hp}{h h1 h2 h':Heap}{a x e:Addr}{o:HO}
def Un.any(u:Un fs ex H H1 h h1){b:Addr}{ob:Obj}(q:h.get? b=some ob)(n:H b=none)(hx:b∉ex):∃sl,h1.get? b=some { ob with slots:=sl }:=by
 by_cases hb:b∈fs
 ·exact u.slot b ob q n hb hx
 ·exact⟨ob.slots,u.keep b ob q n hb hx⟩
def Un.kept(k:∀b u,h.get? b=some u→h'.get? b=some u):Un fs ex H H h h' :=
 ⟨λb ob q _ _ _=>k b ob q,λb ob q _ _ _=>⟨ob.slots,k b ob q⟩,λ_ _ _ n _=>n,λb ob q _=>⟨ob,k b ob q⟩,λ_ _ q=>q,λ_ _ _ q=>q,λ_ ps q=>⟨#[],by rw[q];simp⟩⟩
def Un.refl:Un fs ex H H h h:=Un.kept λ_ _ q=>q
def Un.laid(k:∀b u,h.get? b=some u→h'.get? b=some u)(hp:h.objs.size≤a)(hn:H a=none):Un fs ex H (upd H a o) h h' where
 keep:=λb u q _ _ _=>k b u q
 slot:=λb u q _ _ _=>⟨u.slots,k b u q⟩
 free:=λb u q n _=>by rw[aI (fu (fJ (bZ q) hp))];exact n
 there:=λb u q _=>⟨u,k b u q⟩
 lV:=λb xs q=>by rw[aI (eR q hn)];exact q
 jL:=λb u xs q=>by rw[aI (eR q hn)];exact q
 lW:=λb ps q=>⟨#[],by rw[aI (eR q hn),q];simp⟩
def Un.write(mu:vq (H x))(he:e=x∨H e=some (.own x))(k:∀b u,b≠e→h.get? b=some u→h'.get? b=some u)(rV:∃u,h'.get? e=some u):Un fs ex H (upd H x o) h h':=by
 have hx:∀b,H b=none→b≠x:=λb n z=>by subst z;rw[n]at mu;exact mu
 have hb:∀b,H b=none→b≠e:=λb n z=>by
  subst z;rcases he with r|r
  ·exact hx b n r
  ·rw[n]at r;cases r
 have hm:∀b u,H b=some u→¬vq (some u)→b≠x:=λb u q nm z=>by subst z;rw[q]at mu;exact nm mu
 refine⟨λb u q n _ _=>k b u (hb b n) q,λb u q n _ _=>⟨u.slots,k b u (hb b n) q⟩,λb u q n _=>by rw[aI (hx b n)];exact n,λb u q _=>?_,
  λb xs q=>by rw[aI (hm b _ q λz=>z)];exact q,λb u xs q=>by rw[aI (hm b _ q λz=>z)];exact q,λb ps q=>⟨#[],by rw[aI (hm b _ q λz=>z),q];simp⟩⟩
 by_cases j5:b=e
 ·subst j5;exact rV
 ·exact⟨u,k b u j5 q⟩
end
abbrev z9(h:Heap)(H:Hp):List Addr:=(List.range h.objs.size).filter λa=>(H a).isSome
def lX(h:Heap)(H:Hp):Heap:=PySem.W.hideAll h (z9 h H)
def Ul(h:Heap)(H:Hp):(lX h H).objs.size=h.objs.size:=PySem.W.hideAll_size _ _
def U9{h:Heap}{H:Hp}{b:Addr}{o:Obj}(e:h.get? b=some o)(n:H b=none):(lX h H).get? b=some o :=
 PySem.W.hideAll_get _ e λhm=>by
  have q:(H b).isSome=true:=(mr.mp hm).2;rw[n]at q;simp at q
def Ww{h:Heap}{H:Hp}{b:Addr}{o:Obj}(e:(lX h H).get? b=some o):h.get? b=some o∧H b=none:=by
 have e':h.get? b=some o:=PySem.W.of_hideAll (z9 h H) e;refine⟨e',?_⟩;cases q:H b with
 |none=>rfl
 |some x =>
  have hm:b∈z9 h H:=mr.mpr ⟨iQ.mpr (bZ e'),by simp[q]⟩;have z:(lX h H).get? b=none:=PySem.W.hideAll_none (z9 h H) hm;rw[z]at e;cases e
abbrev Wx(g h:Heap)(L:Addr):List (Addr×Obj):=(List.range h.objs.size).filterMap λa=>if a=L∨(g.get? a).isSome=true then none else (h.get? a).map λo=>(a,o)
def rest(g h:Heap)(L d:Addr):List (Addr×Obj):=(Wx g h L).filter λp=>decide (p.1≠d)
structure Mod (K:PySem.W.Frag)(mg:Str→Option Value)(base:Heap):Prop where
 Fz:K.In base
 glob:base.Ns mainGlobals mg
 blt:∃mb,base.Ns builtinsNs mb∧∀x:Str,x ≠ "__name__" → mb x=bootBuiltins x
 nolimit:base.NoLimit
structure Cx where
 prog:Program
 w:World
 K:PySem.W.Frag
 mg:Str→Option Value
 base:Heap
 A:Around
 N:List Str
 s₀:Shared
 H₀:Hp
 env:Env
 outer:List Env
 stack:List Env
 ex:List Addr
 fn:Str→Bool
 calm:Bool
 pn:List (Addr×Obj)
 xe:Value→Shared→Prop
abbrev jv(l:List Env):List Addr:=l.filterMap (·.frame)
@[reducible]def Cx.fs(X:Cx):List Addr:=jv X.outer
def Aa(sc:Scope)(x:Str):Prop:=sc.names.lookup x=some .local∨sc.names.lookup x=some .cell∨sc.names.lookup x=some .free
def Loc(sc:Scope)(x:Str):Prop:=sc.names.lookup x=some .local∨sc.names.lookup x=some .cell
def Look(env:Env)(h:Heap)(m:Str→Option Value)(x:Str)(u:Value):Prop :=
 (env.kindOf x=some .local∧m x=some u)∨((env.kindOf x=some .cell∨env.kindOf x=some .free)∧∃c,env.cells.lookup x=some c∧h.IsCell c (some u))
structure Cx.Ok (X:Cx):Prop where
 mod:Mod X.K X.mg X.base
 kind:X.env.scope.kind=.function
 glob:X.env.globals=mainGlobals
 blt:X.env.builtins=builtinsNs
 above:X.s₀.heap.objs.size≤X.env.locals
 inj:∀x y c,X.env.cells.lookup x=some c→X.env.cells.lookup y=some c→x=y
 has:∀x,(X.env.kindOf x=some .cell∨X.env.kindOf x=some .free)→∃c,X.env.cells.lookup x=some c
 vt:∀x c,X.fn x=true→X.env.cells.lookup x=some c→X.s₀.heap.objs.size≤c
 hd:X.calm=true→X.A.handled=none
 frames:X.A.frames=some X.stack
 Ab:X.stack=X.outer∨(X.stack=X.env::X.outer∧X.env.frame=some X.env.locals)
 P6:∀b∈X.ex,b≠X.env.locals∧∀x c,X.env.cells.lookup x=some c→c≠b
 bs:∀b o,X.base.get? b=some o→X.s₀.heap.get? b=some o∧X.H₀ b=none
 mD:X.base.objs.size≤X.s₀.heap.objs.size
 uM:∀b o,X.base.get? b=some o→b∉X.ex
 y6:∀b∈X.ex,b∉X.fs
 jM:X.s₀.heap.FunFrames X.base X.outer
 rW:∀b∈X.fs,X.H₀ b=none
structure Inv (X:Cx)(pins:List (Addr×Obj))(σ:List (Option V))(H:Hp)(s:Shared):Prop where
 ok:X.Ok
 os:s.os=X.s₀.os
 bare:AllBare s.gens
 base:Un X.fs X.ex X.H₀ H X.s₀.heap s.heap
 loc:∃m,s.heap.Ns X.env.locals m∧∀(i:Nat) (x:Str) (v:V),X.N[i]?=some x→σ[i]?=some (some v)→Aa X.env.scope x→∃u,RelV v u∧Look X.env s.heap m x u
 cell:∀x c,X.env.cells.lookup x=some c→∃v,s.heap.IsCell c v
 free:H X.env.locals=none
 iI:∀x c,X.env.cells.lookup x=some c→H c=none
 pin:∀p∈X.pn++pins,s.heap.get? p.1=some p.2∧H p.1=none∧p.1≠X.env.locals∧p.1∉X.fs∧∀v,p.2.data≠.cell v
 aH:cP X.prog X.w H s.heap
 len:σ.length=X.N.length
section
variable {X:Cx}{pins:List (Addr×Obj)}{σ:List (Option V)}{H H':Hp}{s:Shared}{h':Heap}
def Cx.Ok.acX(ok:X.Ok){b:Addr}{o:Obj}(e:X.base.get? b=some o):b∉X.fs:=λhb=>by
 have:=(ok.jM.mem hb).1;rw[e]at this;cases this
theorem Inv.bs(I:Inv X pins σ H s):∀b o,X.base.get? b=some o→s.heap.get? b=some o∧H b=none:=λb o e =>
 ⟨I.base.keep b o (I.ok.bs b o e).1 (I.ok.bs b o e).2 (I.ok.acX e) (I.ok.uM b o e),I.base.free b o (I.ok.bs b o e).1 (I.ok.bs b o e).2 (I.ok.uM b o e)⟩
def Inv.bk(I:Inv X pins σ H s):∀b o,X.base.get? b=some o→s.heap.get? b=some o:=λb o e=>(I.bs b o e).1
theorem Inv.mod(I:Inv X pins σ H s):Mod X.K X.mg X.base:=I.ok.mod
def Inv.iu(I:Inv X pins σ H s):X.K.In s.heap:=I.ok.mod.Fz.keeps I.bk
def Inv.fr(I:Inv X pins σ H s):∃m,Fr X.base X.env.locals s.heap m :=
 let ⟨m,hn,_⟩:=I.loc
 ⟨m,hn,I.bk,dC I.ok.mD I.ok.above⟩
theorem Inv.lt(I:Inv X pins σ H s):X.env.locals<s.heap.objs.size:=let ⟨_,hn,_⟩:=I.loc;hn.lt
def Inv.sz(I:Inv X pins σ H s):X.s₀.heap.objs.size≤s.heap.objs.size:=dC I.ok.above (Nat.le_of_lt I.lt)
def Inv.acY(I:Inv X pins σ H s){a:Addr}(h:s.heap.objs.size≤a):a∉X.fs:=λhb=>by
 let⟨_,o,ho,_⟩:=I.ok.jM.mem hb;exact absurd (fJ (bZ ho) (dC I.sz h)) (jX _)
def Inv.pR(I:Inv X pins σ H s):∀x c,X.env.cells.lookup x=some c→c≠X.env.locals:=λx c e z=>by
 let⟨v,o,ho,hd⟩:=I.cell x c e;let⟨m,⟨o',es,ep,gW,nU,_⟩,_⟩:=I.loc;rw[z,gW]at ho;cases ho;rw[nU]at hd;cases hd
theorem Inv.jM(I:Inv X pins σ H s):s.heap.FunFrames X.base X.outer:=by
 have all:∀(l:List Env),(∀b∈jv l,b∈X.fs)→X.s₀.heap.FunFrames X.base l→s.heap.FunFrames X.base l:=by
  intro l
  induction l with
  |nil=>intro _ _;trivial
  |cons env r ih =>
   intro hs hl;let⟨hk,⟨L,o,hf,hn,ho,hd⟩,hr⟩:=hl;have hL:L∈X.fs:=hs L (by unfold jv;rw[zF,hf];exact cg);let⟨sl,e⟩:=I.base.slot L o ho (I.ok.rW L hL) hL λz=>I.ok.y6 L z hL;exact⟨hk,⟨L,_,hf,hn,e,hd⟩,ih (λb hb=>hs b (by unfold jv;rw[zF,hf];exact cT _ hb)) hr⟩
 exact all X.outer (λ_ hb=>hb) I.ok.jM
theorem Inv.stack(I:Inv X pins σ H s):s.heap.FunFrames X.base X.stack:=by
 rcases I.ok.Ab with e|⟨e,hf⟩
 ·rw[e];exact I.jM
 ·rw[e];let⟨m,hn,_⟩:=I.loc;refine .cons (by rw[I.ok.kind];decide) hf hn ?_ I.jM;exact Heap.get?_none_of_le (dC I.ok.mD I.ok.above)
def Inv.Di(I:Inv X pins σ H s):∀b∈jv X.stack,b∈X.env.locals::X.fs:=λb hb=>by
 rcases I.ok.Ab with e|⟨e,hf⟩
 ·rw[e]at hb;exact cT _ hb
 ·rw[e]at hb;unfold jv at hb;rw[zF,hf]at hb;exact hb
def Inv.Kl(I:Inv X pins σ H s):∀b∈jv X.stack,H b=none:=λb hb=>by
 rcases dQ.mp (I.Di b hb)with e|hb
 ·rw[e];exact I.free
 ·let⟨_,o,ho,_⟩:=I.ok.jM.mem hb;exact I.base.free b o ho (I.ok.rW b hb) λz=>I.ok.y6 b z hb
def Inv.step{g':Array GenState}{t':Nat}{d':Drawn}{ch:List Addr}(I:Inv X pins σ H s)
  (lz:∀b∈ch,(b∈X.ex∨X.s₀.heap.objs.size≤b)∧b≠X.env.locals∧(∀x c,X.env.cells.lookup x=some c→c≠b)∧∀p∈X.pn++pins,p.1≠b)
  (keep:∀b o,b≠X.env.locals→b∉X.fs→b∉ch→s.heap.get? b=some o→H b=none→h'.get? b=some o)
  (slot:∀b o,b≠X.env.locals→b∈X.fs→b∉ch→s.heap.get? b=some o→H b=none→∃sl,h'.get? b=some { o with slots:=sl }) (free:∀b o,b∉ch→s.heap.get? b=some o→H b=none→H' b=none)
  (there:∀b o,b∉ch→s.heap.get? b=some o→∃o',h'.get? b=some o')
  (lV:∀b xs,H b=some (.tup xs)→H' b=some (.tup xs)) (jL:∀b o u,H b=some (.aW o u)→H' b=some (.aW o u)) (lW:∀b ps,H b=some (.mC ps)→∃more,H' b=some (.mC (ps++more)))
  (ns:∀m,s.heap.Ns X.env.locals m→h'.Ns X.env.locals m) (aH:cP X.prog X.w H' h') (hg:AllBare g') :
  Inv X pins σ H' { s with heap:=h',gens:=g',drawn:=d',toks:=t' }:=by
 have pS:∀b o,X.s₀.heap.get? b=some o→b≠X.env.locals:=λb o e=>fu (fJ (bZ e) I.ok.above);have mE:∀b o,X.s₀.heap.get? b=some o→b∉X.ex→b∉ch:=λb o e hx hb=>by
  rcases (lz b hb).1 with z|z
  ·exact hx z
  ·exact absurd (fJ (bZ e) z) (jX _)
 have cellK:∀x c,X.env.cells.lookup x=some c→∀v,s.heap.IsCell c v→h'.IsCell c v:=λx c e v ⟨o,ho,hd⟩=>by
  have vv:c∉ch:=λz=>(lz c z).2.2.1 x c e rfl;by_cases hc:c∈X.fs
  ·let⟨sl,q⟩:=slot c o (I.pR x c e) hc vv ho (I.iI x c e);exact⟨_,q,hd⟩
  ·exact⟨o,keep c o (I.pR x c e) hc vv ho (I.iI x c e),hd⟩
 refine⟨I.ok,I.os,hg,⟨λb o e n hb hx=>?_,λb o e n hb hx=>?_,λb o e n hx=>?_,λb o e hx=>?_,λb xs e=>lV b xs (I.base.lV b xs e),λb o xs e=>jL b o xs (I.base.jL b o xs e),λb ps e=>?_⟩,?_,λx c e=>?_,?_,λx c e=>?_,λp hp=>?_,aH,I.len⟩
 ·exact keep b o (pS b o e) hb (mE b o e hx) (I.base.keep b o e n hb hx) (I.base.free b o e n hx)
 ·let⟨sl,e1⟩:=I.base.slot b o e n hb hx;let⟨sl',e2⟩:=slot b _ (pS b o e) hb (mE b o e hx) e1 (I.base.free b o e n hx);exact⟨sl',e2⟩
 ·let⟨o',e1⟩:=I.base.there b o e hx;exact free b o' (mE b o e hx) e1 (I.base.free b o e n hx)
 ·let⟨o',e1⟩:=I.base.there b o e hx;exact there b o' (mE b o e hx) e1
 ·let⟨m1,e1⟩:=I.base.lW b ps e;let⟨m2,e2⟩:=lW b _ e1;exact⟨m1++m2,by rw[e2,Array.append_assoc]⟩
 ·let⟨m,hn,hl⟩:=I.loc;refine⟨m,ns m hn,λi x v e1 e2 e3=>?_⟩;let⟨u,r,l⟩:=hl i x v e1 e2 e3;refine⟨u,r,?_⟩;rcases l with l|⟨k,c,e,z⟩
  ·exact .inl l
  ·exact .inr ⟨k,c,e,cellK x c e _ z⟩
 ·let⟨v,z⟩:=I.cell x c e;exact⟨v,cellK x c e v z⟩
 ·let⟨m,⟨o,_,_,ho,_⟩,_⟩:=I.loc;exact free _ o (λz=>(lz _ z).2.1 rfl) ho I.free
 ·let⟨v,o,ho,hd⟩:=I.cell x c e;exact free c o (λz=>(lz c z).2.2.1 x c e rfl) ho (I.iI x c e)
 ·let⟨e,n,ne,nf,d⟩:=I.pin p hp;have vv:p.1∉ch:=λz=>(lz p.1 z).2.2.2 p hp rfl;exact⟨keep p.1 p.2 ne nf vv e n,free p.1 p.2 vv e n,ne,nf,d⟩
def Inv.un{t':Nat}(I:Inv X pins σ H s)(u:Un X.fs [] H H' s.heap h')(aH:cP X.prog X.w H' h'):Inv X pins σ H' { s with heap:=h',toks:=t' }:=by
 let⟨m,⟨o,es,ep,ho,r⟩,_⟩:=id I.loc;let⟨sl,hL⟩:=u.any ho I.free (by simp);exact I.step (g':=s.gens) (d':=s.drawn) (ch:=[]) (λ_ z=>nomatch z) (λb o _ hb _ e n=>u.keep b o e n hb (by simp)) (λb o _ hb _ e n=>u.slot b o e n hb (by simp)) (λb o _ e n=>u.free b o e n (by simp)) (λb o _ e=>u.there b o e (by simp)) u.lV u.jL u.lW (λm' hm=>by
  let⟨o',Ac,Ad,gW,r'⟩:=hm;rw[ho]at gW;cases gW;exact⟨_,Ac,Ad,hL,r'⟩) aH I.bare
def Inv.call{g':Array GenState}{t':Nat}{d':Drawn}{ch:List Addr}(I:Inv X pins σ H s)(u:Un (jv X.stack) ch H H' s.heap h')(aH:cP X.prog X.w H' h')(hg:AllBare g')
  (lz:∀b∈ch,(b∈X.ex∨X.s₀.heap.objs.size≤b)∧b≠X.env.locals∧(∀x c,X.env.cells.lookup x=some c→c≠b)∧∀p∈X.pn++pins,p.1≠b) :
  Inv X pins σ H' { s with heap:=h',gens:=g',drawn:=d',toks:=t' }:=by
 let⟨m,⟨o,es,ep,ho,r⟩,_⟩:=id I.loc;let⟨sl,hL⟩:=u.any ho I.free λz=>(lz _ z).2.1 rfl;exact I.step (ch:=ch) lz (λb o hL hb hc e n=>u.keep b o e n (λz=>(dQ.mp (I.Di b z)).elim hL hb) hc) (λb o _ _ hc e n=>u.any e n hc) (λb o hc e n=>u.free b o e n hc) (λb o hc e=>u.there b o e hc) u.lV u.jL u.lW (λm' hm=>by
  let⟨o',Ac,Ad,gW,r'⟩:=hm;rw[ho]at gW;cases gW;exact⟨_,Ac,Ad,hL,r'⟩) aH hg
def Inv.turned{t':Nat}{it:Addr}(I:Inv X pins σ H s)(k:∀b o,b≠it→s.heap.get? b=some o→h'.get? b=some o)(hn:H it=none)(hL:it≠X.env.locals)
  (h1:it∈X.ex∨X.s₀.heap.objs.size≤it) (h2:∀x c,X.env.cells.lookup x=some c→c≠it) (h3:∀p∈X.pn++pins,p.1≠it):Inv X pins σ H { s with heap:=h',toks:=t' }:=by
 have nV:∀b u,H b=some u→b≠it:=λb u e z=>by rw[z,hn]at e;cases e
 refine I.step (g':=s.gens) (d':=s.drawn) (ch:=[it]) (λb hb=>?_) (λb o _ _ hc e _=>k b o (λz=>hc (by simp[z])) e) (λb o _ _ hc e _=>⟨o.slots,k b o (λz=>hc (by simp[z])) e⟩) (λ_ _ _ _ n=>n)
  (λb o hc e=>⟨o,k b o (λz=>hc (by simp[z])) e⟩) (λ_ _ e=>e) (λ_ _ _ e=>e) (λb ps e=>⟨#[],by rw[e];simp⟩) (λm hm=>?_) (λb u e=>?_) I.bare
 ·have e:b=it:=by simpa using hb
  subst e;exact⟨h1,hL,h2,h3⟩
 ·let⟨o,es,ep,ho,r⟩:=hm;exact⟨o,es,ep,k _ o (ll hL) ho,r⟩
 ·refine(I.aH b u e).nr (λc v hc q=>k c v ?_ q) (λ_ q=>q) λ_ _ q=>q;rcases hc with z|z
  ·rw[z];exact nV b u e
  ·exact nV c _ z
def Inv.tok(I:Inv X pins σ H s)(t:Nat):Inv X pins σ H { s with toks:=t }:=I.un (h':=s.heap) (t':=t) Un.refl I.aH
theorem Inv.kept{t':Nat}(I:Inv X pins σ H s)(k:∀b u,s.heap.get? b=some u→h'.get? b=some u):Inv X pins σ H { s with heap:=h',toks:=t' }:=I.un (Un.kept k) (I.aH.kept k)
theorem Inv.laid{a:Addr}{o:HO}{t':Nat}(I:Inv X pins σ H s)(k:∀b u,s.heap.get? b=some u→h'.get? b=some u)(hp:s.heap.objs.size≤a)(new:cB X.prog X.w (upd H a o) h' a o) :
 Inv X pins σ (upd H a o) { s with heap:=h',toks:=t' }:=I.un (Un.laid k hp (I.aH.fresh hp)) (I.aH.laid k hp new)
theorem Inv.write{x e:Addr}{o:HO}{t':Nat}(I:Inv X pins σ H s)(mu:vq (H x))(he:e=x∨H e=some (.own x))(k:∀b u,b≠e→s.heap.get? b=some u→h'.get? b=some u)(rV:∃u,h'.get? e=some u)
 (new:cB X.prog X.w (upd H x o) h' x o):Inv X pins σ (upd H x o) { s with heap:=h',toks:=t' }:=I.un (Un.write mu he k rV) (I.aH.write mu he k rV new)
def Inv.weak{σ':List (Option V)}(I:Inv X pins σ H s)(hl:σ'.length=σ.length)(w:∀(i:Nat) v,σ'[i]?=some (some v)→σ[i]?=some (some v)):Inv X pins σ' H s :=
 ⟨I.ok,I.os,I.bare,I.base,let ⟨m,hn,hl'⟩:=I.loc;⟨m,hn,λi x v e1 e2 e3=>hl' i x v e1 (w i v e2) e3⟩,I.cell,I.free,I.iI,I.pin,I.aH,hl.trans I.len⟩
def Inv.Km{Nn:List (Addr×Obj)}(I:Inv X pins σ H s)(h:∀p∈Nn,s.heap.get? p.1=some p.2∧H p.1=none∧p.1≠X.env.locals∧p.1∉X.fs∧∀v,p.2.data≠.cell v):Inv X Nn σ H s :=
 ⟨I.ok,I.os,I.bare,I.base,I.loc,I.cell,I.free,I.iI,λp hp=>(iq.mp hp).elim (λz=>I.pin p (jn _ z)) (h p),I.aH,I.len⟩
def tO{N:List Str}(hN:N.Nodup){i j:Nat}{x:Str}(a:N[i]?=some x)(b:N[j]?=some x):i=j:=by
 let⟨h1,e1⟩:=bp.mp a;let⟨h2,e2⟩:=bp.mp b;exact(List.getElem_inj hN).mp (e1.trans e2.symm)
def IL{M:Model}{A:Around}{E:Value→Shared→Prop}{i:Nat}{x:Str}{v:V}{u:Value}{Q:Unit→Shared→Prop}(I:Inv X pins σ H s)(hN:X.N.Nodup)(hi:X.N[i]?=some x)(hx:Loc X.env.scope x)(r:RelV v u)
  (h:∀s',Inv X pins (σ.set i (some v)) H s'→(∃a,Heap.SameBut a s.heap s'.heap∧(a=X.env.locals∨X.env.cells.lookup x=some a))→Q () s') (hf:X.fn x=true∨X.env.scope.names.lookup x=some .local:=by first|exact .inl rfl|exact .inr rfl|assumption):wpAny M A (storeName X.env x u) Q E s:=by
 let⟨m,hn,hl⟩:=id I.loc;have acZ:(X.env.scope.kind==.class||(X.env.scope.kind==.module&&X.env.locals != X.env.globals))=false:=by rw[I.ok.kind];rfl
 have Oh:i<σ.length:=by rw[I.len];exact(bp.mp hi).1
 have pR:=I.pR;have tracked:∀{a:Addr}{h':Heap},(∃o,s.heap.get? a=some o∧H a=none)→Heap.SameBut a s.heap h'→cP X.prog X.w H h':=λ{a h'} ha hs b ob e=>by
  let⟨_,_,yG⟩:=ha;refine(I.aH b ob e).nr (λc w' hc q=>(hs.2 c ?_).trans q) (λ_ q=>q) λ_ _ q=>q;rintro rfl;rcases hc with rfl|hc
  ·rw[yG]at e;cases e
  ·rw[yG]at hc;cases hc
 rcases hx with hk|hk
 ·refine wpAny_storeName_local hk hn (λh' rX hs=>?_) acZ;let⟨oL,_,_,vw,_⟩:=id hn;refine h _ ⟨I.ok,I.os,I.bare,⟨λb o e n hb hx=>?_,λb o e n hb hx=>?_,I.base.free,λb o e hx=>?_,I.base.lV,I.base.jL,I.base.lW⟩,⟨_,rX,λj y v' e1 e2 e3=>?_⟩,λy c e=>?_,I.free,I.iI,λp hp=>?_,tracked ⟨oL,vw,I.free⟩ hs,by simpa using I.len⟩ ⟨_,hs,.inl rfl⟩
  ·exact(hs.2 b (fu (fJ (bZ e) I.ok.above))).trans (I.base.keep b o e n hb hx)
  ·let⟨sl,e1⟩:=I.base.slot b o e n hb hx;exact⟨sl,(hs.2 b (fu (fJ (bZ e) I.ok.above))).trans e1⟩
  ·let⟨o',e1⟩:=I.base.there b o e hx;exact⟨o',(hs.2 b (fu (fJ (bZ e) I.ok.above))).trans e1⟩
  ·by_cases hj:j=i
   ·subst hj;rw[hi]at e1;cases e1;rw[List.getElem?_set_self Oh]at e2;cases e2;exact⟨u,r,.inl ⟨hk,by simp⟩⟩
   ·rw[dY (ll hj)]at e2;let⟨u',r',q⟩:=hl j y v' e1 e2 e3;refine⟨u',r',?_⟩;rcases q with⟨k,e⟩|⟨k,c,e,z⟩
    ·refine .inl ⟨k,?_⟩;have:y≠x:=λe=>hj (tO hN e1 (e▸hi));simp[this,e]
    ·exact .inr ⟨k,c,e,z.sameBut hs (pR y c e)⟩
  ·let⟨w',z⟩:=I.cell y c e;exact⟨w',z.sameBut hs (pR y c e)⟩
  ·let⟨e,n,ne,nf,d⟩:=I.pin p hp;exact⟨(hs.2 p.1 ne).trans e,n,ne,nf,d⟩
 ·have FC:X.fn x=true:=by
   rcases hf with z|z
   ·exact z
   ·rw[z]at hk;cases hk
  let⟨c,hc⟩:=I.ok.has x (.inl hk);let⟨w',z⟩:=I.cell x c hc;refine wpAny_storeName_cell I.ok.kind hk hc z (λh' P7 hs=>?_);let⟨oc,P8,ac0⟩:=id z;refine h { s with heap:=h' } ⟨I.ok,I.os,I.bare,⟨λb o e n hb hx=>?_,λb o e n hb hx=>?_,I.base.free,λb o e hx=>?_,I.base.lV,I.base.jL,I.base.lW⟩,⟨m,hn.sameBut hs (ll (pR x c hc)),λj y v' e1 e2 e3=>?_⟩,λy c' e=>?_,I.free,I.iI,λp hp=>?_,tracked ⟨oc,P8,I.iI x c hc⟩ hs,by simpa using I.len⟩ ⟨c,hs,.inr hc⟩
  ·exact(hs.2 b (fu (fJ (bZ e) (I.ok.vt x c FC hc)))).trans (I.base.keep b o e n hb hx)
  ·let⟨sl,e1⟩:=I.base.slot b o e n hb hx;exact⟨sl,(hs.2 b (fu (fJ (bZ e) (I.ok.vt x c FC hc)))).trans e1⟩
  ·let⟨o',e1⟩:=I.base.there b o e hx;exact⟨o',(hs.2 b (fu (fJ (bZ e) (I.ok.vt x c FC hc)))).trans e1⟩
  ·by_cases hj:j=i
   ·subst hj;rw[hi]at e1;cases e1;rw[List.getElem?_set_self Oh]at e2;cases e2;exact⟨u,r,.inr ⟨.inl hk,c,hc,P7⟩⟩
   ·rw[dY (ll hj)]at e2;let⟨u',r',q⟩:=hl j y v' e1 e2 e3;refine⟨u',r',?_⟩;rcases q with q|⟨k,c',e,z'⟩
    ·exact .inl q
    ·refine .inr ⟨k,c',e,z'.sameBut hs ?_⟩;rintro rfl;exact hj (tO hN e1 (I.ok.inj _ _ _ e hc▸hi))
  ·by_cases FD:c'=c
   ·subst FD;exact⟨_,P7⟩
   ·let⟨w2,z2⟩:=I.cell y c' e;exact⟨w2,z2.sameBut hs FD⟩
  ·let⟨e,n,ne,nf,d⟩:=I.pin p hp;refine⟨(hs.2 p.1 ?_).trans e,n,ne,nf,d⟩;intro q;rw[q,P8]at e;have q':oc=p.2:=dP e;exact d w' (by rw[←q'];exact ac0)
def Jw{M:Model}{A:Around}{E:Value→Shared→Prop}{i:Nat}{x:Str}{v:V}{u:Value}{Q:Unit→Shared→Prop}(I:Inv X pins σ H s)(hN:X.N.Nodup)(hi:X.N[i]?=some x)(hx:Loc X.env.scope x)(r:RelV v u)
  (h:∀s',Inv X pins (σ.set i (some v)) H s'→Q () s') (hf:X.fn x=true∨X.env.scope.names.lookup x=some .local:=by first|exact .inl rfl|exact .inr rfl|assumption):wpAny M A (storeName X.env x u) Q E s :=
 IL I hN hi hx r (λs' I' _=>h s' I') hf
def Inv.aa7{s':Shared}{ch:List Addr}(I:Inv X pins σ H s)(ho:s'.os=s.os)(u:Un (jv X.stack) ch H H' s.heap s'.heap)(aH:cP X.prog X.w H' s'.heap)(hg:AllBare s'.gens)
  (lz:∀b∈ch,(b∈X.ex∨X.s₀.heap.objs.size≤b)∧b≠X.env.locals∧(∀x c,X.env.cells.lookup x=some c→c≠b)∧∀p∈X.pn++pins,p.1≠b):Inv X pins σ H' s':=by
 let⟨h',g',d',t',o'⟩:=s';have e:o'=s.os:=ho;subst e;exact I.call (g':=g') (t':=t') (d':=d') u aH hg lz
end
noncomputable abbrev XK:=Value→Option Addr→Hp→Prop
noncomputable abbrev St:=List (Option V)
noncomputable abbrev VK:=V→Hp→Prop
noncomputable abbrev TE:=St→Hp→VK→Prop
noncomputable abbrev TT:=St→Hp→(Bool→Hp→Prop)→Prop
noncomputable abbrev TA:=St→Hp→(List V→Hp→Prop)→Prop
structure Ends where
 nx:St→Hp→Prop
 rt:VK
 bk:St→Hp→Prop:=λ_ _=>False
 ct:St→Hp→Prop:=λ_ _=>False
noncomputable abbrev TS:=Ends→St→Hp→Prop
def EP(X:Cx)(pins:List (Addr×Obj))(σ:St)(Q:VK)(u:Value)(s':Shared):Prop:=∃v H',Inv X pins σ H' s'∧RelV v u∧Q v H'
def TP(X:Cx)(pins:List (Addr×Obj))(σ:St)(Q:Bool→Hp→Prop)(b:Bool)(s':Shared):Prop:=∃H',Inv X pins σ H' s'∧Q b H'
def AP(X:Cx)(pins:List (Addr×Obj))(σ:St)(Q:List V→Hp→Prop)(us:List Value)(s':Shared):Prop:=∃vs H',Inv X pins σ H' s'∧Vals vs us∧Q vs H'
def SP(X:Cx)(pins:List (Addr×Obj))(D:Ends)(f:Flow)(s':Shared):Prop :=
 match f with
 |.next=>∃σ' H',Inv X pins σ' H' s'∧D.nx σ' H'
 |.brk=>∃σ' H',Inv X pins σ' H' s'∧D.bk σ' H'
 |.cont=>∃σ' H',Inv X pins σ' H' s'∧D.ct σ' H'
 |.ret u=>∃v σ' H',Inv X pins σ' H' s'∧RelV v u∧D.rt v H'
def PE(X:Cx)(e:Expr)(t:TE):Prop :=
 ∀(pins:List (Addr×Obj)) (s:Shared) (σ:St) (H:Hp) (Q:VK),Inv X pins σ H s→t σ H Q→wpAny (model X.prog X.w) X.A (eval e X.env) (EP X pins σ Q) X.xe s
def PT(X:Cx)(e:Expr)(t:TT):Prop :=
 ∀(pins:List (Addr×Obj)) (s:Shared) (σ:St) (H:Hp) (Q:Bool→Hp→Prop),Inv X pins σ H s→t σ H Q→wpAny (model X.prog X.w) X.A (isTrue e X.env (eval e X.env)) (TP X pins σ Q) X.xe s
def PW(X:Cx)(e:Expr)(t:TT):Prop :=
 ∀(whole:Sem Value) (pins:List (Addr×Obj)) (s:Shared) (σ:St) (H:Hp) (Q:Bool→Hp→Prop),Inv X pins σ H s→t σ H Q→wpAny (model X.prog X.w) X.A (isTrue e X.env whole) (TP X pins σ Q) X.xe s
def PW.pt{X:Cx}{e:Expr}{t:TT}(h:PW X e t):PT X e t:=h _
def PA(X:Cx)(es:List Expr)(t:TA):Prop :=
 ∀(pos:Pos) (pins:List (Addr×Obj)) (s:Shared) (σ:St) (H:Hp) (Q:List V→Hp→Prop),Inv X pins σ H s→t σ H Q→wpAny (model X.prog X.w) X.A (spliced (backTo pos (starEach es X.env))) (AP X pins σ Q) X.xe s
def PS(X:Cx)(st:Stmt)(t:TS):Prop :=
 ∀(pins:List (Addr×Obj)) (s:Shared) (σ:St) (H:Hp) (D:Ends),Inv X pins σ H s→t D σ H→wpAny (model X.prog X.w) X.A (exec st X.env) (SP X pins D) X.xe s
def gX(X:Cx)(st:List Stmt)(t:TS):Prop :=
 ∀(pins:List (Addr×Obj)) (s:Shared) (σ:St) (H:Hp) (D:Ends),Inv X pins σ H s→t D σ H→wpAny (model X.prog X.w) X.A (execs st X.env) (SP X pins D) X.xe s
def aJ{α:Type}{t:Sem α}{Q Q':α→Shared→Prop}{M:Model}{A:Around}{E:Value→Shared→Prop}{s:Shared}(h:wpAny M A t Q E s)(hQ:∀a s,Q a s→Q' a s):wpAny M A t Q' E s:=fY h hQ λ_ _ x=>x
section
variable {X:Cx}
abbrev ik(i:Nat):TE:=λσ H Q=>∃v,σ[i]?=some (some v)∧Q v H
abbrev tC(v:V):TE:=λ_ H Q=>Q v H
def LX {i:Nat}{x:Str}{pos:Pos} (hN:X.N[i]?=some x) (hv:Aa X.env.scope x) (hd:(x==("__debug__" : Str))=false:=by decide) (iR:(x==("__classdict__" : Str))=false:=by decide):PE X (.Name x pos) (ik i):=by
 intro pins s σ H Q I h;let⟨v,e,h⟩:=h;let⟨m,hn,hl⟩:=I.loc;let⟨u,r,l⟩:=hl i x v hN e hv;have fin:EP X pins σ Q u s:=⟨v,H,I,r,h⟩;rcases l with⟨hk,hm⟩|⟨hk,c,hc,Np⟩
 ·exact wpAny_Name (wpAny_loadName_local I.ok.kind hk hn hm fin) hd
 ·rcases hk with hk|hk
  ·exact wpAny_Name (wpAny_loadName_cell I.ok.kind hk hc Np fin) hd
  ·exact wpAny_Name (wpAny_loadName_free I.ok.kind hk hc Np fin iR) hd
def Yx{i j pos}:PE X (.Constant (.int i) j pos) (tC (.int i)):=λ_ _ _ H _ I h=>wpAny_Constant_int ⟨.int i,H,I.tok _,⟨_,rfl⟩,h⟩
def aa8{b j pos}:PE X (.Constant (.bool b) j pos) (tC (.bl b)):=λ_ _ _ H _ I h=>Constant_bool ⟨.bl b,H,I,rfl,h⟩
def Yy{j pos}:PE X (.Constant .none j pos) (tC .non):=λ_ _ _ H _ I h=>Constant_none ⟨.non,H,I,rfl,h⟩
def Yz{x j pos}:PE X (.Constant (.str x) j pos) (tC (.str x)):=λ_ _ _ H _ I h=>Calls.Constant_str ⟨.str x,H,I.tok _,⟨_,rfl⟩,h⟩
def Gl(X:Cx)(x:Str):Prop:=X.env.kindOf x=some .globalImplicit
def Wy{E:Value→Shared→Prop}{pins:List (Addr×Obj)}{s:Shared}{σ:St}{H:Hp}{x:Str}{u:Value}{pos:Pos}{Q:Value→Shared→Prop}(I:Inv X pins σ H s)(hg:Gl X x)(hm:X.mg x=some u)(h:Q u s)
  (hd:(x==("__debug__" : Str))=false:=by decide):wpAny (model X.prog X.w) X.A (eval (.Name x pos) X.env) Q E s :=
 Calls.Name_function_global I.ok.kind hg (Calls.loadGlobal_global (by rw[I.ok.glob];exact I.mod.glob.keeps I.bk) hm h) hd
def kQ{E:Value→Shared→Prop}{pins:List (Addr×Obj)}{s:Shared}{σ:St}{H:Hp}{x:Str}{u:Value}{pos:Pos}{Q:Value→Shared→Prop}(I:Inv X pins σ H s)(hg:Gl X x)(hm:X.mg x=none)(hv:bootBuiltins x=some u)(h:Q u s)
  (hn:x ≠ "__name__" := by decide) (hd:(x==("__debug__" : Str))=false:=by decide):wpAny (model X.prog X.w) X.A (eval (.Name x pos) X.env) Q E s:=by
 let⟨mb,h1,h2⟩:=I.mod.blt;exact Calls.Name_function_global I.ok.kind hg (Calls.loadGlobal_builtin (by rw[I.ok.glob];exact I.mod.glob.keeps I.bk) hm (by rw[I.ok.blt];exact h1.keeps I.bk) ((h2 x hn).trans hv) h) hd
def Wz {x:Str}{v:V}{u:Value}{pos:Pos} (hg:Gl X x) (hm:X.mg x=none) (hv:bootBuiltins x=some u) (r:RelV v u) (hn:x ≠ "__name__" := by decide) (hd:(x==("__debug__" : Str))=false:=by decide):PE X (.Name x pos) (tC v) :=
 λ_ _ _ H _ I h=>kQ I hg hm hv ⟨v,H,I,r,h⟩ hn hd
variable {a b:Expr}{ta tb:TE}{pos:Pos}
def PC(X:Cx)(op:CmpOp)(a b:Expr)(t:TE):Prop :=
 ∀(pins:List (Addr×Obj)) (s:Shared) (σ:St) (H:Hp) (Q:VK),Inv X pins σ H s→t σ H Q →
  wpAny (model X.prog X.w) X.A (eval a X.env) (λv s₁=>wpAny (model X.prog X.w) X.A (eval b X.env) (λu s₂=>wpAny (model X.prog X.w) X.A (compareOp op v u) (EP X pins σ Q) X.xe s₂) X.xe s₁) X.xe s
abbrev tB(t:TE):TT:=λσ H Q=>t σ H λx H1=>∃c,x=.bl c∧Q c H1
def yj{op:CmpOp}{t:TE}(h:PC X op a b t)(h1:behindInMarks op b=false:=by first|exact adY _ (by decide) (by decide)|rfl):PT X (.Compare a [op] [b] pos) (tB t):=by
 intro pins s σ H Q I hw;refine wpAny_isTrue_Compare1 (aJ (h pins s σ H _ I hw) λv s1 h1=>aJ h1 λu s2 h2=>aJ h2 λc s3 ⟨x,H1,I1,r1,q1⟩=>?_) h1;let⟨d,rfl,q⟩:=q1;cases r1;exact nL ⟨H1,I1,q⟩
variable {tA Ae:TT}{rest:List Expr}
abbrev Oi(t u:TT):TT:=λσ H Q=>t σ H λc H1=>if c=true then u σ H1 Q else Q false H1
abbrev P9(t u:TT):TT:=λσ H Q=>t σ H λc H1=>if c=true then Q true H1 else u σ H1 Q
abbrev Oj(t:TT):TT:=λσ H Q=>t σ H λc H1=>Q (!c) H1
def WB(ha:PT X a tA):PW X (.BoolOp .And [a] pos) tA:=by
 intro wh pins s σ H Q I h;refine isTrue_and (aJ (ha pins s σ H Q I h) λc s1 e=>?_);cases c with
 |true=>exact isTrue_and_nil e
 |false=>exact e
def YB(ha:PT X a tA):PW X (.BoolOp .Or [a] pos) tA:=by
 intro wh pins s σ H Q I h;refine isTrue_or (aJ (ha pins s σ H Q I h) λc s1 e=>?_);cases c with
 |false=>exact isTrue_or_nil e
 |true=>exact e
def YC(ha:PT X a tA)(hb:PW X (.BoolOp .And (b::rest) pos) Ae):PW X (.BoolOp .And (a::b::rest) pos) (Oi tA Ae):=by
 intro wh pins s σ H Q I h;refine isTrue_and (aJ (ha pins s σ H _ I h) λc s1 ⟨H1,I1,q1⟩=>?_);cases c with
 |true=>exact hb wh pins s1 σ H1 Q I1 q1
 |false=>exact⟨H1,I1,q1⟩
def aa9(ha:PT X a tA)(hb:PW X (.BoolOp .Or (b::rest) pos) Ae):PW X (.BoolOp .Or (a::b::rest) pos) (P9 tA Ae):=by
 intro wh pins s σ H Q I h;refine isTrue_or (aJ (ha pins s σ H _ I h) λc s1 ⟨H1,I1,q1⟩=>?_);cases c with
 |true=>exact⟨H1,I1,q1⟩
 |false=>exact hb wh pins s1 σ H1 Q I1 q1
def YD(ha:PT X a tA):PT X (.UnaryOp .Not a pos) (Oj tA):=by
 intro pins s σ H Q I h;exact isTrue_not (ha pins s σ H (λc H1=>Q (!c) H1) I h)
abbrev Nq(ta tb:TE):TE:=λσ H Q=>ta σ H λx H1=>∃c,x=.bl c∧if c=true then tb σ H1 Q else Q (.bl false) H1
abbrev Ol(ta tb:TE):TE:=λσ H Q=>ta σ H λx H1=>∃c,x=.bl c∧if c=true then Q (.bl true) H1 else tb σ H1 Q
abbrev Nr(ta:TE):TE:=λσ H Q=>ta σ H λx H1=>∃c,x=.bl c∧Q (.bl (!c)) H1
def LY{op}{t:TE}(h:PE X a t):PE X (.BoolOp op [a] pos) t:=λpins s σ H Q I hw=>BoolOp_one (h pins s σ H Q I hw)
def YF(ha:PE X a ta)(hb:PE X (.BoolOp .And (b::rest) pos) tb):PE X (.BoolOp .And (a::b::rest) pos) (Nq ta tb):=by
 intro pins s σ H Q I h;refine BoolOp_and (aJ (ha pins s σ H _ I h) λv s1 ⟨x,H1,I1,r1,q1⟩=>?_);let⟨c,rfl,q1⟩:=q1;cases r1;refine nL ?_;cases c with
 |true=>exact hb pins s1 σ H1 Q I1 q1
 |false=>exact⟨.bl false,H1,I1,rfl,q1⟩
def abb(ha:PE X a ta)(hb:PE X (.BoolOp .Or (b::rest) pos) tb):PE X (.BoolOp .Or (a::b::rest) pos) (Ol ta tb):=by
 intro pins s σ H Q I h;refine BoolOp_or (aJ (ha pins s σ H _ I h) λv s1 ⟨x,H1,I1,r1,q1⟩=>?_);let⟨c,rfl,q1⟩:=q1;cases r1;refine nL ?_;cases c with
 |false=>exact hb pins s1 σ H1 Q I1 q1
 |true=>exact⟨.bl true,H1,I1,rfl,q1⟩
def YG(ha:PE X a ta):PE X (.UnaryOp .Not a pos) (Nr ta):=by
 intro pins s σ H Q I h;refine UnaryOp_ (aJ (ha pins s σ H _ I h) λv s1 ⟨x,H1,I1,r1,q1⟩=>?_);let⟨c,rfl,q1⟩:=q1;cases r1;exact not_of (nL ⟨.bl (!c),H1,I1,rfl,q1⟩)
abbrev Qa(t:TT)(ta tb:TE):TE:=λσ H Q=>t σ H λc H1=>if c=true then ta σ H1 Q else tb σ H1 Q
def Va{c:Expr}(hc:PT X c tA)(ha:PE X a ta)(hb:PE X b tb):PE X (.IfExp c a b pos) (Qa tA ta tb):=by
 intro pins s σ H Q I h;refine wpAny_IfExp (aJ (hc pins s σ H _ I h) λd s1 ⟨H1,I1,q1⟩=>?_);cases d with
 |true=>exact ha pins s1 σ H1 Q I1 q1
 |false=>exact hb pins s1 σ H1 Q I1 q1
end
def b0(K:PySem.W.Frag)(H:Hp)(a:Addr)(xs:List V):Prop :=
 Rd H a (.lst xs) ∨
  ∃(o:Obj) (its:Array Value) (n:Nat),K.lookup a=some o∧o.cls=.type "list" ∧ o.dict=none∧o.data=.seq its n∧its.size≤sizeLine∧Vals xs its.toList
def bC(K:PySem.W.Frag)(H:Hp)(a:Addr)(xs:List V):Prop :=
 H a=some (.tup xs) ∨
  ∃(o:Obj) (its:Array Value) (n:Nat),K.lookup a=some o∧o.cls=.type "tuple" ∧ o.dict=none∧o.data=.seq its n∧its.size≤sizeLine∧4≤its.size∧Vals xs its.toList
def bC.own{K:PySem.W.Frag}{H:Hp}{a:Addr}{xs:List V}(h:bC K H a xs)(hl:xs.length<4):H a=some (.tup xs):=by
 rcases h with h|⟨_,its,_,_,_,_,_,_,h4,r⟩
 ·exact h
 ·have:=r.length;simp only[Array.length_toList]at this;omega
abbrev qX:Value→Option V
 |.none=>some .non
 |.bool b=>some (.bl b)
 |.int i _=>some (.int i)
 |.str x _=>some (.str x)
 |.bytes b _=>some (.gU b)
 |.float b _=>some (.vp b)
 |.ref a=>some (.ref a)
 |.type n=>some (.ty n)
 |_=>none
def RelV.abs{x:V}{u:Value}(r:RelV x u):qX u=some x:=by
 cases x with
 |non=>cases r;rfl
 |bl _=>cases r;rfl
 |int _=>let⟨t,rfl⟩:=r;rfl
 |str _=>let⟨t,rfl⟩:=r;rfl
 |gU _=>let⟨t,rfl⟩:=r;rfl
 |vp _=>let⟨t,rfl⟩:=r;rfl
 |ref _=>cases r;rfl
 |ty _=>cases r;rfl
def RelV.inj{x y:V}{u:Value}(r:RelV x u)(q:RelV y u):x=y:=dP (r.abs.symm.trans q.abs)
theorem Vals.inj:∀{xs ys:List V}{us:List Value},Vals xs us→Vals ys us→xs=ys
 |_,_,_,.nil,.nil=>rfl
 |_,_,_,.cons r t,.cons r' t'=>by rw[r.inj r',Vals.inj t t']
section
variable {X:Cx}{pins:List (Addr×Obj)}{σ:St}{H:Hp}{s:Shared}{a:Addr}{xs ys:List V}
def bC.of{K:PySem.W.Frag}(h:H a=some (.tup xs)):bC K H a xs:=.inl h
def Inv.list(I:Inv X pins σ H s)(h:b0 X.K H a xs):∃its:List Value,Vals xs its∧PlainL s.heap a its.toArray∧xs.length≤sizeLine:=by
 rcases h with h|⟨o,its,n,hk,hc,hd,hs,hz,r⟩
 ·let⟨z,its,n,r,e⟩:=h.ok I.aH;exact⟨its,r,⟨_,n,e,rfl,rfl,rfl⟩,z⟩
 ·refine⟨its.toList,r,⟨o,n,I.iu a o hk,hc,hd,by simpa using hs⟩,?_⟩;have e:=r.length;simp only[Array.length_toList]at e;omega
def Inv.tuple(I:Inv X pins σ H s)(h:bC X.K H a xs):∃its:List Value,Vals xs its∧IsTup s.heap a its.toArray∧xs.length≤sizeLine:=by
 rcases h with h|⟨o,its,n,hk,hc,_,hs,hz,_,r⟩
 ·let⟨z,its,r,p⟩:=I.aH _ _ h;exact⟨its,r,p.tup,z⟩
 ·refine⟨its.toList,r,⟨o,I.iu a o hk,hc,n,by simpa using hs⟩,?_⟩;have e:=r.length;simp only[Array.length_toList]at e;omega
def Inv.xJ(I:Inv X pins σ H s)(h:b0 X.K H a xs)(h':b0 X.K H a ys):xs=ys:=by
 let⟨its,r,⟨o,n,e,_,_,d⟩,_⟩:=I.list h;let⟨its',r',⟨o',n',e',_,_,d'⟩,_⟩:=I.list h';rw[e]at e';cases e';rw[d]at d';injection d' with d1 _;have:its=its':=by simpa using dD Array.toList d1
 subst this;exact r.inj r'
def Inv.Cd(I:Inv X pins σ H s)(h:bC X.K H a xs)(h':bC X.K H a ys):xs=ys:=by
 let⟨its,r,⟨o,e,_,n,d⟩,_⟩:=I.tuple h;let⟨its',r',⟨o',e',_,n',d'⟩,_⟩:=I.tuple h';rw[e]at e';cases e';rw[d]at d';injection d' with d1 _;have:its=its':=by simpa using dD Array.toList d1
 subst this;exact r.inj r'
end
noncomputable abbrev Cx.wish(X:Cx)(E:Value→Shared→Prop):Cx:={ X with xe:=E }
@[reducible]def Cx.pT(X:Cx):Cx:=X.wish λ_ _=>False
theorem Cx.Ok.wish{X:Cx}(ok:X.Ok)(E:Value→Shared→Prop):(X.wish E).Ok :=
 ⟨ok.mod,ok.kind,ok.glob,ok.blt,ok.above,ok.inj,ok.has,ok.vt,ok.hd,ok.frames,ok.Ab,ok.P6,ok.bs,ok.mD,ok.uM,ok.y6,ok.jM,ok.rW⟩
def Cx.Ok.mV{X:Cx}{E:Value→Shared→Prop}(ok:(X.wish E).Ok):X.Ok :=
 ⟨ok.mod,ok.kind,ok.glob,ok.blt,ok.above,ok.inj,ok.has,ok.vt,ok.hd,ok.frames,ok.Ab,ok.P6,ok.bs,ok.mD,ok.uM,ok.y6,ok.jM,ok.rW⟩
section
variable {X:Cx}{pins:List (Addr×Obj)}{σ:St}{H:Hp}{s:Shared}{E:Value→Shared→Prop}
theorem Inv.wish(I:Inv X pins σ H s)(E:Value→Shared→Prop):Inv (X.wish E) pins σ H s:=⟨I.ok.wish E,I.os,I.bare,I.base,I.loc,I.cell,I.free,I.iI,I.pin,I.aH,I.len⟩
theorem Inv.mV(I:Inv (X.wish E) pins σ H s):Inv X pins σ H s:=⟨I.ok.mV,I.os,I.bare,I.base,I.loc,I.cell,I.free,I.iI,I.pin,I.aH,I.len⟩
theorem SP.mV{D:Ends}{f:Flow}{s':Shared}(h:SP (X.wish E) pins D f s'):SP X pins D f s':=by
 cases f with
 |next=>let⟨σ',H',I,q⟩:=h;exact⟨σ',H',I.mV,q⟩
 |brk=>let⟨σ',H',I,q⟩:=h;exact⟨σ',H',I.mV,q⟩
 |cont=>let⟨σ',H',I,q⟩:=h;exact⟨σ',H',I.mV,q⟩
 |ret u=>let⟨v,σ',H',I,r,q⟩:=h;exact⟨v,σ',H',I.mV,r,q⟩
theorem gX.pT{st:List Stmt}{t:TS}(h:gX X.pT st t):gX X st t:=λpins s σ H D I hw =>
 fY (h pins s σ H D (I.wish _) hw) (λ_ _ q=>q.mV) λ_ _ z=>False.elim z
end
section
variable {X:Cx}{st:Stmt}{rest:List Stmt}{t u:TS}{e:Expr}{te:TE}{pos:Pos}
abbrev yH:TS:=λD σ H=>D.nx σ H
abbrev ny(t u:TS):TS:=λD σ H=>t { D with nx:=u D } σ H
def WC:gX X [] yH:=λ_ _ σ H _ I h=>zG ⟨σ,H,I,h⟩
def Vb(h1:PS X st t)(h2:gX X rest u):gX X (st::rest) (ny t u):=by
 intro pins s σ H D I h;refine wpAny_execs_cons (aJ (h1 pins s σ H { D with nx:=u D } I h) λf s1 q=>?_);cases f with
 |next =>
  let⟨σ',H',I',q⟩:=q;exact h2 pins s1 σ' H' D I' q
 |ret v=>exact q
 |brk=>exact q
 |cont=>exact q
def WD(h1:PS X st t):gX X [st] t:=by
 intro pins s σ H D I h;refine wpAny_execs_cons (aJ (h1 pins s σ H D I h) λf s1 q=>?_);cases f with
 |next=>exact zG q
 |ret v=>exact q
 |brk=>exact q
 |cont=>exact q
def Inv.quiet{pins:List (Addr×Obj)}{σ:St}{H:Hp}{s:Shared}(I:Inv X pins σ H s):interactive X.env=false:=by simp[interactive,I.ok.kind]
abbrev qN(te:TE):TS:=λD σ H=>te σ H λ_ H1=>D.nx σ H1
def WG(he:PE X e te)(hs:swapsWith e none pos.line X.env=pure false:=by rfl):PS X (.Expr e pos) (qN te):=by
 intro pins s σ H D I h;exact wpAny_Expr_any (aJ (he pins s σ H _ I h) λv s1 ⟨x,H1,I1,r1,q1⟩=>⟨σ,H1,I1,q1⟩) I.quiet hs
abbrev qY(te:TE):TS:=λD σ H=>te σ H D.rt
def YH(he:PE X e te):PS X (.Return (some e) pos) (qY te):=by
 intro pins s σ H D I h;exact wpAny_Return_some (aJ (he pins s σ H _ I h) λv s1 ⟨x,H1,I1,r1,q1⟩=>⟨x,σ,H1,I1,r1,q1⟩)
abbrev y7(c:TT)(t u:TS):TS:=λD σ H=>c σ H λb H1=>if b=true then t D σ H1 else u D σ H1
def abd{c:Expr}{a b:List Stmt}{tc:TT}(hc:PT X c tc)(ha:gX X a t)(hb:gX X b u):PS X (.If c a b pos) (y7 tc t u):=by
 intro pins s σ H D I h;refine wpAny_If (aJ (hc pins s σ H _ I h) λd s1 ⟨H1,I1,q1⟩=>?_);cases d with
 |true=>exact ha pins s1 σ H1 D I1 q1
 |false=>exact hb pins s1 σ H1 D I1 q1
end
noncomputable abbrev TG:=V→St→Hp→(St→Hp→Prop)→Prop
noncomputable abbrev iT:=List V→St→Hp→(St→Hp→Prop)→Prop
def PG(X:Cx)(target:Expr)(t:TG):Prop :=
 ∀(pins:List (Addr×Obj)) (s:Shared) (σ:St) (H:Hp) (v:V) (u:Value) (Q:St→Hp→Prop),Inv X pins σ H s→RelV v u→t v σ H Q →
  wpAny (model X.prog X.w) X.A (assign target X.env u) (λ_ s'=>∃σ' H',Inv X pins σ' H' s'∧Q σ' H') X.xe s
def rY(X:Cx)(ts:List Expr)(t:iT):Prop :=
 ∀(pins:List (Addr×Obj)) (s:Shared) (σ:St) (H:Hp) (vs:List V) (us:List Value) (Q:St→Hp→Prop),Inv X pins σ H s→Vals vs us→t vs σ H Q →
  wpAny (model X.prog X.w) X.A (assignInOrder ((assignEach ts X.env).map (·.2)) us) (λ_ s'=>∃σ' H',Inv X pins σ' H' s'∧Q σ' H') X.xe s
noncomputable abbrev D5:=V→V→V→Hp→(Hp→Prop)→Prop
def Om(X:Cx)(t:D5):Prop :=
 ∀(pins:List (Addr×Obj)) (s:Shared) (σ:St) (H:Hp) (o i v:V) (ov iv u:Value) (Q:Hp→Prop),Inv X pins σ H s→RelV o ov→RelV i iv→RelV v u→t o i v H Q →
  wpAny (model X.prog X.w) X.A (setItem ov iv u) (λ_ s'=>∃H',Inv X pins σ H' s'∧Q H') X.xe s
section
variable {X:Cx}{pos:Pos}
abbrev gO(i:Nat):TG:=λv σ H Q=>Q (σ.set i (some v)) H
def Kn{i:Nat}{x:Str}(hN:X.N.Nodup)(hi:X.N[i]?=some x)(hx:Loc X.env.scope x)(hf:X.fn x=true∨X.env.scope.names.lookup x=some .local:=by first|exact .inl rfl|exact .inr rfl|assumption):PG X (.Name x pos) (gO i):=by
 intro pins s σ H v u Q I r h;exact wpAny_assign_Name (Jw I hN hi hx r (λs' I'=>⟨_,H,I',h⟩) hf)
abbrev D6:iT:=λvs σ H Q=>vs=[]∧Q σ H
abbrev yI(t:TG)(u:iT):iT:=λvs σ H Q=>∃v r,vs=v::r∧t v σ H λσ' H'=>u r σ' H' Q
def WH:rY X [] D6:=by
 intro pins s σ H vs us Q I r h;let⟨e,h⟩:=h;subst e;cases r;exact assignInOrder_nil ⟨σ,H,I,h⟩
def Vc{e:Expr}{es:List Expr}{t:TG}{u:iT}(h1:PG X e t)(h2:rY X es u)
  (hs:(assignEach (e::es) X.env).map (·.2)=assign e X.env::(assignEach es X.env).map (·.2):=by rfl):rY X (e::es) (yI t u):=by
 intro pins s σ H vs us Q I r h;let⟨v,vr,e1,h⟩:=h;subst e1;cases r with
 |cons r rr =>
  rw[hs];refine assignInOrder_cons (aJ (h1 pins s σ H _ _ _ I r h) λ_ s1 ⟨σ1,H1,I1,q1⟩=>?_);exact h2 pins s1 σ1 H1 _ _ Q I1 rr q1
abbrev D7(K:PySem.W.Frag)(n:Nat)(t:iT):TG:=λv σ H Q=>∃a xs,v=.ref a∧bC K H a xs∧xs.length=n∧t xs σ H Q
def YJ{es:List Expr}{k:Nat}{t:iT}{n:Nat}(hc:X.calm=true)(h:rY X es t)
  (hn:(assignEach es X.env).length=n:=by rfl) (iw:(assignEach es X.env).findIdx? (·.1)=none:=by rfl):PG X (.Tuple es k pos) (D7 X.K n t):=by
 intro pins s σ H v u Q I r hw;let⟨a,xs,e1,hq,hl,hw⟩:=hw;subst e1;cases r;let⟨its,rv,ht,hz⟩:=I.tuple hq;refine assign_Tuple_tuple (I.ok.hd hc) ht (by simp[hn,←hl,rv.length]) iw λh' hx=>?_;have I1:Inv X pins σ H { s with heap:=h' }:=I.kept (t':=s.toks) λb o e=>hx b o (fu (bZ e)) e;exact h pins _ σ H xs _ Q I1 (by simpa using rv) hw
abbrev Oo(to ti:TE)(t:D5):TG:=λv σ H Q=>to σ H λo H1=>ti σ H1 λi H2=>t o i v H2 λH3=>Q σ H3
def YK{o i:Expr}{to ti:TE}{t:D5}(ho:PE X o to)(hi:PE X i ti)(hs:Om X t)
  (ha:∀v,assign (.Subscript o i pos) X.env v=(do
   let ov ←holding [v] (eval o X.env)
   let iv ←holding [v,ov] (eval i X.env)
   standAt pos
   holding [v,ov,iv] (setItem ov iv v)
   release [v,ov,iv] []):=by intro _;rfl):PG X (.Subscript o i pos) (Oo to ti t):=by
 intro pins s σ H v u Q I r h;rw[ha];refine aA (jY (aJ (ho pins s σ H _ I h) λov s1 ⟨x,H1,I1,r1,q1⟩=>?_));refine aA (jY (aJ (hi pins s1 σ H1 _ I1 q1) λiv s2 ⟨y,H2,I2,r2,q2⟩=>?_));refine aA (zH (aA (jY (aJ (hs pins s2 σ H2 x y v ov iv u _ I2 r1 r2 r q2) λ_ s3 ⟨H3,I3,q3⟩=>?_))));exact wpAny_release ⟨σ,H3,I3,q3⟩
abbrev il(te:TE)(g:TG):TS:=λD σ H=>te σ H λx H1=>g x σ H1 D.nx
def YL{tg e:Expr}{te:TE}{g:TG}(he:PE X e te)(hg:PG X tg g)(hs:swapsWithSole [tg] e pos.line X.env=pure false:=by rfl)(hw:swappedStores [tg] e X.env=pure none:=by rfl)
  (h1:(assignEach [tg] X.env).map (·.2)=[assign tg X.env]:=by rfl):PS X (.Assign [tg] e pos) (il te g):=by
 intro pins s σ H D I h;refine wpAny_Assign_stores (aJ (he pins s σ H _ I h) λv s1 ⟨x,H1,I1,r1,q1⟩=>?_) hs hw;rw[h1];exact aJ (hg pins s1 σ H1 x v _ I1 r1 q1) λ_ s2 q=>q
def YM{i:Nat}{x:Str}{e:Expr}{te:TE}{pos':Pos}(hN:X.N.Nodup)(hi:X.N[i]?=some x)(hx:Loc X.env.scope x)(he:PE X e te)(hs:swapsWith e (some (.Name x pos')) pos.line X.env=pure false:=by rfl)(hf:X.fn x=true∨X.env.scope.names.lookup x=some .local:=by first|exact .inl rfl|exact .inr rfl|assumption) :
  PS X (.Assign [.Name x pos'] e pos) (il te (gO i)):=by
 intro pins s σ H D I h;refine wpAny_Assign_Name (aJ (he pins s σ H _ I h) λv s1 ⟨y,H1,I1,r1,q1⟩=>?_) hs;exact Jw I1 hN hi hx r1 (λs2 I2=>⟨_,H1,I2,q1⟩) hf
end
section
variable {X:Cx}{pos:Pos}
abbrev Dj(c:TT)(tb:TS):TS:=λD σ H=>∃W:Nat→St→Hp→Prop,(∃m,W m σ H)∧∀m σ H,W m σ H →
 c σ H λb H1=>if b=true then ∃N:St→Hp→Prop,(∀σ' H',N σ' H'→∃m',m'<m∧W m' σ' H')∧tb { D with nx:=N,ct:=N,bk:=D.nx } σ H1 else D.nx σ H1
def Vd{c:Expr}{body:List Stmt}{tc:TT}{tb:TS}(hp:PassesOwn (model X.prog X.w) X.A X.env X.xe)(hc:PT X c tc)(hb:gX X body tb):PS X (.While c body [] pos) (Dj tc tb):=by
 intro pins s σ H D I h;let⟨W,⟨m0,w0⟩,turn⟩:=h;refine wpAny_While (codeAny_whileLoop (λn s'=>∃σ' H',Inv X pins σ' H' s'∧W n σ' H') ?_ m0 ⟨σ,H,I,w0⟩);rintro n s1 ⟨σ1,H1,I1,w1⟩;refine pH hp (aJ (hc pins s1 σ1 H1 _ I1 (turn n σ1 H1 w1)) λb s2 ⟨H2,I2,q2⟩=>?_);cases b with
 |true =>
  let⟨N,hN,q2⟩:=q2;rw[if_pos rfl];refine pH hp (aJ (hb pins s2 σ1 H2 _ I2 q2) λf s3 q3=>?_);cases f with
  |next =>
   let⟨σ3,H3,I3,n3⟩:=q3;let⟨m',hm,w3⟩:=hN σ3 H3 n3;exact⟨m',hm,σ3,H3,I3,w3⟩
  |cont =>
   let⟨σ3,H3,I3,n3⟩:=q3;let⟨m',hm,w3⟩:=hN σ3 H3 n3;exact⟨m',hm,σ3,H3,I3,w3⟩
  |brk=>exact q3
  |ret v=>exact q3
 |false =>
  rw[if_neg bw];exact zG ⟨σ1,H2,I2,q2⟩
end
structure It where
 go:Nat→Hp→Prop
 j6:Nat→Hp→V→Hp→Prop
 stop:Nat→Hp→Prop
def jN(X:Cx)(pins:List (Addr×Obj))(H:Hp)(b:Addr):Prop :=
 H b=none∧b≠X.env.locals∧b∉X.fs∧(b∈X.ex∨X.s₀.heap.objs.size≤b)∧(∀x c,X.env.cells.lookup x=some c→c≠b)∧∀p∈X.pn++pins,p.1≠b
def Inv.qZ{X:Cx}{pins:List (Addr×Obj)}{σ:St}{H H':Hp}{s:Shared}{b:Addr}(I:Inv X pins σ H s)(hb:s.heap.objs.size≤b)(hn:H' b=none):jN X pins H' b:=by
 refine⟨hn,Nat.ne_of_gt (fJ I.lt hb),I.acY hb,.inr (dC I.sz hb),λx c e z=>?_,λp hp z=>?_⟩
 ·let⟨v,q⟩:=I.cell x c e;exact absurd (fJ q.lt (by rw[z];exact hb)) (jX _)
 ·exact absurd (fJ (bZ (I.pin p hp).1) (by rw[z];exact hb)) (jX _)
structure Turn (P:Program)(w:World)(K:PySem.W.Frag)(tg:Expr)(J:It)(fp:List Addr)(it:Addr)(tn:Nat→Heap→Prop):Prop where
 mem:it∈fp
 obj:∀i h,tn i h→∀b∈fp,∃o,h.get? b=some o∧∀v,o.data≠.cell v
 keep:∀i h h',tn i h→(∀b∈fp,∀o,h.get? b=some o→h'.get? b=some o)→tn i h'
 item:∀(X:Cx),X.prog=P→X.w=w→X.K=K→X.calm=true→∀(i:Nat) (pins:List (Addr×Obj)) (s:Shared) (σ:St) (H:Hp) (E:Value→Shared→Prop),Inv X pins σ H s→(∀b∈fp,jN X pins H b)→tn i s.heap→J.go i H →
  wpAny (model P w) X.A (pyNext (.ref it)) (λr s1=>∃u,r=some u ∧
   wpAny (model P w) X.A (letOwnedTupleGo tg (.ref it) u) (λ_ s2=>∃x H',Inv X pins σ H' s2∧RelV x u∧J.j6 i H x H'∧tn (i+1) s2.heap∧∀b∈fp,H' b=none) E s1) E s
 done:∀(X:Cx),X.prog=P→X.w=w→X.K=K→X.calm=true→∀(i:Nat) (pins:List (Addr×Obj)) (s:Shared) (σ:St) (H:Hp) (E:Value→Shared→Prop),Inv X pins σ H s→(∀b∈fp,jN X pins H b)→tn i s.heap→J.stop i H →
  wpAny (model P w) X.A (pyNext (.ref it)) (λr s1=>r=none∧Inv X pins σ H s1) E s
 self:∀(A:Around) (i:Nat) (s:Shared) (Q:Value→Shared→Prop) (E:Value→Shared→Prop),tn i s.heap→Q (.ref it) s→wpAny (model P w) A (pyIter (.ref it)) Q E s
noncomputable abbrev TI:=St→Hp→(It→Hp→Prop)→Prop
def Qb(X:Cx)(pins:List (Addr×Obj))(σ:St)(tg:Expr)(R:It→Hp→Prop)(Af:Value)(s2:Shared):Prop :=
 ∃(it:Addr) (fp:List Addr) (tn:Nat→Heap→Prop) (J:It) (H':Hp),Af=.ref it∧Inv X pins σ H' s2∧Turn X.prog X.w X.K tg J fp it tn∧tn 0 s2.heap∧(∀b∈fp,jN X pins H' b)∧R J H'
def PI(X:Cx)(tg iter:Expr)(wi:TI):Prop :=
 ∀(pins:List (Addr×Obj)) (s:Shared) (σ:St) (H:Hp) (R:It→Hp→Prop),Inv X pins σ H s→wi σ H R →
  wpAny (model X.prog X.w) X.A (eval iter X.env) (λv s1=>wpAny (model X.prog X.w) X.A (pyIter v) (Qb X pins σ tg R) X.xe s1) X.xe s
def uC{M:Model}{A:Around}{E:Value→Shared→Prop}{s:Shared}{tg:Expr}{it:Addr}{u:Value}{o:Obj}{n:String}{vs:Array Value}{Q:Unit→Shared→Prop}(ho:s.heap.get? it=some o)(hc:o.cls=.type n)(hd:o.data=.fields vs)
    (hn:["enumerate", "zip", "dict_itemiterator", "dict_reverseitemiterator", "odict_iterator", "itertools.zip_longest", "itertools.pairwise"].contains n=false) (hQ:Q () s):wpAny M A (letOwnedTupleGo tg (.ref it) u) Q E s:=by
  unfold letOwnedTupleGo;cases tg<;>first
    |exact aN hQ
    | (cases u<;>first
        |exact aN hQ
        | (refine aA (wpAny_load ho ?_)
           rw[hc,hd];show wpAny M A (if (["enumerate", "zip", "dict_itemiterator", "dict_reverseitemiterator", "odict_iterator", "itertools.zip_longest", "itertools.pairwise"].contains n&&vs[0]?==some (rawInt _))=true then _ else _) Q E s;rw[if_neg (by intro h;rw[hn,Bool.false_and]at h;cases h)];exact aN hQ))
abbrev FE(K:PySem.W.Frag)(a:Addr):It :=
 ⟨λi H=>∃xs x,b0 K H a xs∧xs[i]?=some x,λi H x H'=>H'=H∧∀xs,b0 K H a xs→xs[i]?=some x,λi H=>∃xs,b0 K H a xs∧xs.length≤i⟩
abbrev FG(K:PySem.W.Frag)(a:Addr):It :=
 ⟨λi H=>∃xs x,bC K H a xs∧xs[i]?=some x,λi H x H'=>H'=H∧∀xs,bC K H a xs→xs[i]?=some x,λi H=>∃xs,bC K H a xs∧xs.length≤i⟩
abbrev vx(lo:Int)(n:Nat):It:=⟨λi _=>i<n,λi H x H'=>H'=H∧x=.int (lo+i),λi _=>n≤i⟩
def Um{P:Program}{w:World}{K:PySem.W.Frag}{tg:Expr}(a it:Addr):Turn P w K tg (FE K a) [it] it (λi h=>h.IsListIter it a i) where
 mem:=by simp
 obj:=λi h st b hb=>by
  have e:b=it:=by simpa using hb
  subst e;let⟨o,e,c,d⟩:=st;exact⟨o,e,λv z=>by rw[d]at z;cases z⟩
 keep:=λi h h' st k=>st.at λo e=>k it (by simp) o e
 item:=by
  intro X hP hw hK hc i pins s σ H E I hf st hg;subst hP hw hK;let⟨xs,x,hq,hx⟩:=hg;let⟨its,rv,p,hz⟩:=I.list hq;let⟨u,hu,ru⟩:=rv.get hx;let⟨f0,f1,f2,f3,f4,f5⟩:=hf it (by simp);refine wpAny_pyNext_list_item st p.isList (x:=u) (by simpa using hu) λh' fL sb=>?_;have I1:Inv X pins σ H { s with heap:=h' }:=I.turned (t':=s.toks) (λb o hb e=>(sb.2 b hb).trans e) f0 f1 f3 f4 f5;let⟨o,e,c,d⟩:=id fL;exact⟨u,rfl,uC (s:={ s with heap:=h' }) e c d (by decide) ⟨x,H,I1,ru,⟨rfl,λys hy=>by rw[I.xJ hy hq];exact hx⟩,fL,λb hb=>(hf b hb).1⟩⟩
 done:=by
  intro X hP hw hK hc i pins s σ H E I hf st hg;subst hP hw hK;let⟨xs,hq,hx⟩:=hg;let⟨its,rv,p,hz⟩:=I.list hq;let⟨f0,f1,f2,f3,f4,f5⟩:=hf it (by simp);have hl:=rv.length;exact wpAny_pyNext_list_end (I.ok.hd hc) st p.isList (by simp;omega) λh' eb=>⟨rfl,I.turned (t':=s.toks) (λb o hb e=>eb b o hb e) f0 f1 f3 f4 f5⟩
 self:=λ_ _ _ _ _ st h=>wpAny_pyIter_listiter st h
def TL{P:Program}{w:World}{K:PySem.W.Frag}{tg:Expr}(a it:Addr):Turn P w K tg (FG K a) [it] it (λi h=>h.IsTupleIter it a i) where
 mem:=by simp
 obj:=λi h st b hb=>by
  have e:b=it:=by simpa using hb
  subst e;let⟨o,e,c,d⟩:=st;exact⟨o,e,λv z=>by rw[d]at z;cases z⟩
 keep:=λi h h' st k=>st.at λo e=>k it (by simp) o e
 item:=by
  intro X hP hw hK hc i pins s σ H E I hf st hg;subst hP hw hK;let⟨xs,x,hq,hx⟩:=hg;let⟨its,rv,p,hz⟩:=I.tuple hq;let⟨u,hu,ru⟩:=rv.get hx;let⟨f0,f1,f2,f3,f4,f5⟩:=hf it (by simp);refine wpAny_pyNext_tuple_item st (show s.heap.IsTuple a its.toArray from p) (x:=u) (by simpa using hu) λh' fL sb=>?_;have I1:Inv X pins σ H { s with heap:=h' }:=I.turned (t':=s.toks) (λb o hb e=>(sb.2 b hb).trans e) f0 f1 f3 f4 f5;let⟨o,e,c,d⟩:=id fL;exact⟨u,rfl,uC (s:={ s with heap:=h' }) e c d (by decide) ⟨x,H,I1,ru,⟨rfl,λys hy=>by rw[I.Cd hy hq];exact hx⟩,fL,λb hb=>(hf b hb).1⟩⟩
 done:=by
  intro X hP hw hK hc i pins s σ H E I hf st hg;subst hP hw hK;let⟨xs,hq,hx⟩:=hg;let⟨its,rv,p,hz⟩:=I.tuple hq;let⟨f0,f1,f2,f3,f4,f5⟩:=hf it (by simp);have hl:=rv.length;exact wpAny_pyNext_tuple_end (I.ok.hd hc) st (show s.heap.IsTuple a its.toArray from p) (by simp;omega) λh' eb=>⟨rfl,I.turned (t':=s.toks) (λb o hb e=>eb b o hb e) f0 f1 f3 f4 f5⟩
 self:=λ_ _ _ _ _ st h=>wpAny_pyIter_tupleiter st h
def TN{P:Program}{w:World}{K:PySem.W.Frag}{tg:Expr}(it:Addr)(lo:Int)(n:Nat):Turn P w K tg (vx lo n) [it] it (λi h=>IsRangeIter h it (lo+(i:Nat)*1) ((n:Int)-(i:Nat)) 1) where
 mem:=by simp
 obj:=λi h st b hb=>by
  have e:b=it:=by simpa using hb
  subst e;exact⟨_,st,λv z=>by
   have z':Data.fields _=Data.cell v:=z;cases z'⟩
 keep:=λi h h' st k=>k it (by simp) _ st
 item:=by
  intro X hP hw hK hc i pins s σ H E I hf st hg;subst hP hw hK;let⟨f0,f1,f2,f3,f4,f5⟩:=hf it (by simp);have W:=Walks.range (prog:=X.prog) (w:=X.w) (I.ok.hd hc) it lo 1 n;refine W.item i s _ _ hg st λv h' tk hv fL kk=>?_;let⟨t,rfl⟩:=hv;have I1:Inv X pins σ H { s with heap:=h',toks:=tk }:=I.turned (λb o hb e=>kk b o (by simpa using hb) e) f0 f1 f3 f4 f5;refine⟨_,rfl,uC (s:={ s with heap:=h',toks:=tk }) (n := "range_iterator") fL rfl rfl (by decide) ⟨.int (lo+i),H,I1,⟨t,?_⟩,⟨rfl,rfl⟩,fL,λb hb=>(hf b hb).1⟩⟩;rw[Int.mul_one]
 done:=by
  intro X hP hw hK hc i pins s σ H E I hf st hg;subst hP hw hK;let⟨f0,f1,f2,f3,f4,f5⟩:=hf it (by simp);exact wpAny_pyNext_range_end (I.ok.hd hc) st (by have:n≤i:=hg;omega) λh' eb=>⟨rfl,I.turned (t':=s.toks) (λb o hb e=>eb b o hb e) f0 f1 f3 f4 f5⟩
 self:=λ_ _ _ _ _ st h=>wpAny_pyIter_rangeiter st h
section
variable {X:Cx}{tg:Expr}
def DG(K:PySem.W.Frag)(tl:TE):TI:=λσ H R=>tl σ H λx H1=>∃a,x=.ref a∧(∃xs,b0 K H1 a xs)∧R (FE K a) H1
def D8(K:PySem.W.Frag)(tl:TE):TI:=λσ H R=>tl σ H λx H1=>∃a,x=.ref a∧(∃xs,bC K H1 a xs)∧R (FG K a) H1
def WK{l:Expr}{tl:TE}(hl:PE X l tl):PI X tg l (DG X.K tl):=by
 intro pins s σ H R I h;refine aJ (hl pins s σ H _ I h) λv s1 ⟨x,H1,I1,r1,q1⟩=>?_;let⟨a,e,⟨xs,hq⟩,q⟩:=q1;subst e;cases r1;let⟨its,rv,p,hz⟩:=I1.list hq;refine wpAny_pyIter_list p.isList ?_;refine⟨s1.heap.objs.size,[s1.heap.objs.size],_,_,H1,rfl,I1.kept (t':=s1.toks) λb o e=>cw _ e,Um a _,⟨_,gq _ rfl,rfl,rfl⟩,λb hb=>?_,q⟩;have e:b=s1.heap.objs.size:=by simpa using hb
 subst e;exact I1.qZ (aU _) (I1.aH.fresh (aU _))
def YN{l:Expr}{tl:TE}(hl:PE X l tl):PI X tg l (D8 X.K tl):=by
 intro pins s σ H R I h;refine aJ (hl pins s σ H _ I h) λv s1 ⟨x,H1,I1,r1,q1⟩=>?_;let⟨a,e,⟨xs,hq⟩,q⟩:=q1;subst e;cases r1;let⟨its,rv,p,hz⟩:=I1.tuple hq;refine wpAny_pyIter_tuple (show s1.heap.IsTuple a its.toArray from p) ?_;refine⟨s1.heap.objs.size,[s1.heap.objs.size],_,_,H1,rfl,I1.kept (t':=s1.toks) λb o e=>cw _ e,TL a _,⟨_,gq _ rfl,rfl,rfl⟩,λb hb=>?_,q⟩;have e:b=s1.heap.objs.size:=by simpa using hb
 subst e;exact I1.qZ (aU _) (I1.aH.fresh (aU _))
def Jx{pins:List (Addr×Obj)}{σ:St}{H:Hp}{s:Shared}{R:It→Hp→Prop}{E:Value→Shared→Prop}{lo hi:Int}{t u v:Tok}{tk:Nat}(I:Inv X pins σ H s)(h1:-(2^62)≤lo)(h2:lo<2^62)(h3:-(2^62)≤hi)(h4:hi<2^62)
  (q:R (vx lo (hi-lo).toNat) H):wpAny (model X.prog X.w) X.A (pyIter (.ref s.heap.objs.size)) (Qb X pins σ tg R) E { s with heap:=s.heap.push { cls:=.type "range",data:=.fields #[.int lo t,.int hi u,.int 1 v] },toks:=tk }:=by
 refine wpAny_pyIter_range (IsRange.new ..) (small_one h1 h2 h3 h4) ?_;have I1:Inv X pins σ H { s with heap:=s.heap.push { cls:=.type "range",data:=.fields #[.int lo t,.int hi u,.int 1 v] },toks:=tk }:=I.kept λb o e=>cw _ e;refine⟨(s.heap.push { cls:=.type "range",data:=.fields #[.int lo t,.int hi u,.int 1 v] }).objs.size,[(s.heap.push { cls:=.type "range",data:=.fields #[.int lo t,.int hi u,.int 1 v] }).objs.size],_,_,H,rfl,
  I1.kept (t':=tk) λb o e=>cw _ e,TN _ lo (hi-lo).toNat,?_,λb hb=>?_,q⟩
 ·have e1:lo+((0:Nat):Int)*1=lo:=by simp
  have e2:(((hi-lo).toNat:Nat):Int)-((0:Nat):Int)=Builtin.Range.rangeSize lo hi 1:=by rw[rangeSize_one];split<;>omega
  show IsRangeIter _ _ (lo+((0:Nat):Int)*1) ((((hi-lo).toNat:Nat):Int)-((0:Nat):Int)) 1;rw[e1,e2];exact gq _ rfl
 ·have e:b=(s.heap.push { cls:=.type "range",data:=.fields #[.int lo t,.int hi u,.int 1 v] }).objs.size:=by simpa using hb
  subst e;exact I1.qZ (aU _) (I1.aH.fresh (aU _))
def Nt(ta:TA):TI:=λσ H R=>ta σ H λvs H1=>∃j:Int,vs=[.int j]∧-(2^62)≤j∧j<2^62∧R (vx 0 j.toNat) H1
def Nu(ta:TA):TI:=λσ H R=>ta σ H λvs H1=>∃i j:Int,vs=[.int i,.int j]∧(-(2^62)≤i∧i<2^62∧-(2^62)≤j∧j<2^62)∧R (vx i (j-i).toNat) H1
def Up {a:Expr}{ta:TA}{p pos:Pos} (hg:Gl X "range") (hm:X.mg "range" = none) (ha:PA X [a] ta) (hs:starEach [a] X.env=[(false,eval a X.env)]:=by rfl):PI X tg (.Call (.Name "range" p) [a] [] pos) (Nt ta):=by
 intro pins s σ H R I h;refine Call_ (kQ I hg hm boot_range (pI (aJ (ha pos pins s σ H _ I h) λus s1 ⟨vs,H1,I1,r1,q1⟩=>?_) hs rfl));let⟨j,e,q1,q2,q⟩:=q1;subst e;cases r1 with
 |cons r rr =>
  cases rr;let⟨t,rfl⟩:=r;exact call_range_1 (Jx I1 (by omega) (by omega) q1 q2 (by simpa using q))
def Uq {a b:Expr}{ta:TA}{p pos:Pos} (hg:Gl X "range") (hm:X.mg "range" = none) (ha:PA X [a,b] ta) (hs:starEach [a,b] X.env=[(false,eval a X.env),(false,eval b X.env)]:=by rfl) (Qc:starEach [b] X.env=[(false,eval b X.env)]:=by rfl) :
  PI X tg (.Call (.Name "range" p) [a,b] [] pos) (Nu ta):=by
 intro pins s σ H R I h;refine Call_ (kQ I hg hm boot_range (pI (aJ (ha pos pins s σ H _ I h) λus s1 ⟨vs,H1,I1,r1,q1⟩=>?_) (by rw[hs,Qc]) (by rw[Qc];rfl)));let⟨i,j,e,⟨q1,q2,q3,q4⟩,q⟩:=q1;subst e;cases r1 with
 |cons r rr =>
  cases rr with
  |cons r' rr =>
   cases rr;let⟨t,rfl⟩:=r;let⟨t',rfl⟩:=r';exact call_range_2 (Jx I1 q1 q2 q3 q4 q)
abbrev oS(wi:TI)(g:TG)(tb:TS):TS:=λD σ H=>wi σ H λJ H1=>∃W:Nat→Nat→St→Hp→Prop,(∃m,W 0 m σ H1)∧∀i m σ H,W i m σ H →
 (J.stop i H∧D.nx σ H)∨(J.go i H∧∃N:St→Hp→Prop,(∀σ' H',N σ' H'→∃m',m'<m∧W (i+1) m' σ' H')∧∀x H',J.j6 i H x H'→g x σ H' λσ2 H2=>tb { D with nx:=N,ct:=N,bk:=D.nx } σ2 H2)
abbrev uf(fp:List Addr)(h:Heap):List (Addr×Obj):=fp.filterMap λb=>(h.get? b).map λo=>(b,o)
def xA{fp:List Addr}{h:Heap}{b:Addr}{o:Obj}(hb:b∈fp)(e:h.get? b=some o):(b,o)∈uf fp h:=Fd.mpr ⟨b,hb,by rw[e];rfl⟩
def Ur{fp:List Addr}{h:Heap}{p:Addr×Obj}(hp:p∈uf fp h):p.1∈fp∧h.get? p.1=some p.2:=by
 let⟨b,hb,e⟩:=Fd.mp hp;cases q:h.get? b with
 |none=>rw[q]at e;cases e
 |some o =>
  rw[q]at e;have e':(b,o)=p:=dP e;subst e';exact⟨hb,q⟩
def Inv.pinned{pins:List (Addr×Obj)}{σ:St}{H:Hp}{s:Shared}{fp:List Addr}(I:Inv X pins σ H s)(hf:∀b∈fp,jN X pins H b)(ho:∀b∈fp,∃o,s.heap.get? b=some o∧∀v,o.data≠.cell v):Inv X (pins++uf fp s.heap) σ H s :=
 I.Km λp hp=>(iq.mp hp).elim (λz=>I.pin p (jo _ z)) λz=>by
  let⟨hb,e⟩:=Ur z;let⟨f0,f1,f2,_⟩:=hf p.1 hb;let⟨o,e',d⟩:=ho p.1 hb;rw[e]at e';cases e';exact⟨e,f0,f1,f2,d⟩
def Inv.xK{pins pl:List (Addr×Obj)}{σ:St}{H:Hp}{s:Shared}(I:Inv X (pins++pl) σ H s):Inv X pins σ H s:=I.Km λp hp=>I.pin p (jo _ (jn _ hp))
def YQ{iter:Expr}{body:List Stmt}{wi:TI}{g:TG}{tb:TS}{pos:Pos}(hp:PassesOwn (model X.prog X.w) X.A X.env X.xe)(hc:X.calm=true)(hi:PI X tg iter wi)(hg:PG X tg g)(hb:gX X body tb)
  (hs:∀x,foldedSetIterable iter X.env x=pure x:=by intro _;rfl):PS X (.For tg iter body [] pos) (oS wi g tb):=by
 intro pins s σ H D I h;refine wpAny_For (aJ (hi pins s σ H _ I h) λv s1 h1=>aJ h1 λAf s2 h2=>?_) hs;let⟨it,fp,tn,J,H2,e,I2,T,bE,f2,W,⟨m0,w0⟩,turn⟩:=h2;subst e;have stat:∀{H':Hp},(∀b∈fp,H' b=none)→∀b∈fp,jN X pins H' b:=λhn b hb=>⟨hn b hb,(f2 b hb).2⟩;refine codeAny_forLoop_any (λn s'=>∃i σ' H',Inv X pins σ' H' s'∧tn i s'.heap∧(∀b∈fp,H' b=none)∧W i n σ' H') ?_ m0 ⟨0,σ,H2,I2,bE,λb hb=>(f2 b hb).1,w0⟩;rintro n s3 ⟨i,σ3,H3,I3,bH,vy,w3⟩;rcases turn i n σ3 H3 w3 with⟨stop,qn⟩|⟨go,N,hN,step⟩
 ·refine pH hp (aJ (T.done X rfl rfl rfl hc i pins s3 σ3 H3 X.xe I3 (stat vy) bH stop) λr s4 ⟨hr,I4⟩=>?_);subst hr;exact zG ⟨σ3,H3,I4,qn⟩
 ·refine pH hp (aJ (T.item X rfl rfl rfl hc i pins s3 σ3 H3 X.xe I3 (stat vy) bH go) λr s4 ⟨u,hr,h4⟩=>?_);subst hr;refine pH hp (aJ h4 λ_ s5 ⟨x,H5,I5,r5,y5,fM,FH⟩=>?_);have FI:=I5.pinned (stat FH) (T.obj _ _ fM);refine pH hp (aJ (hg _ s5 σ3 H5 x u _ FI r5 (step x H5 y5)) λ_ s6 ⟨σ6,H6,I6,q6⟩=>?_);refine pH hp (aJ (hb _ s6 σ6 H6 _ I6 q6) λf s7 q7=>?_);have again:∀{σ7:St}{H7:Hp},Inv X (pins++uf fp s5.heap) σ7 H7 s7→N σ7 H7→∃m,m<n∧∃i σ' H',Inv X pins σ' H' s7∧tn i s7.heap∧(∀b∈fp,H' b=none)∧W i m σ' H':=λ{σ7 H7} I7 n7=>by
   let⟨m',hm,w7⟩:=hN σ7 H7 n7;refine⟨m',hm,i+1,σ7,H7,I7.xK,T.keep _ _ _ fM λb hb o e=>(I7.pin (b,o) (jo _ (jo _ (xA hb e)))).1,λb hb=>?_,w7⟩;let⟨o,e,d⟩:=T.obj _ _ fM b hb;exact(I7.pin (b,o) (jo _ (jo _ (xA hb e)))).2.1
  cases f with
  |next=>let⟨σ7,H7,I7,n7⟩:=q7;exact again I7 n7
  |cont=>let⟨σ7,H7,I7,n7⟩:=q7;exact again I7 n7
  |brk=>let⟨σ7,H7,I7,q7⟩:=q7;exact⟨σ7,H7,I7.xK,q7⟩
  |ret v=>let⟨x7,σ7,H7,I7,r7,q7⟩:=q7;exact⟨x7,σ7,H7,I7.xK,r7,q7⟩
end
noncomputable abbrev R2:=V→V→Hp→VK→Prop
def bM(X:Cx)(f:Value→Value→Sem Value)(r:R2):Prop :=
 ∀(pins:List (Addr×Obj)) (s:Shared) (σ:St) (H:Hp) (x y:V) (v u:Value) (Q:VK),Inv X pins σ H s→RelV x v→RelV y u→r x y H Q →
  wpAny (model X.prog X.w) X.A (f v u) (EP X pins σ Q) X.xe s
def vz(X:Cx)(f:Value→Sem Value)(r:V→Hp→VK→Prop):Prop :=
 ∀(pins:List (Addr×Obj)) (s:Shared) (σ:St) (H:Hp) (x:V) (v:Value) (Q:VK),Inv X pins σ H s→RelV x v→r x H Q →
  wpAny (model X.prog X.w) X.A (f v) (EP X pins σ Q) X.xe s
def iJ(X:Cx)(f:Value)(r:List V→Hp→VK→Prop):Prop :=
 ∀(pins:List (Addr×Obj)) (s:Shared) (σ:St) (H:Hp) (xs:List V) (us:List Value) (Q:VK),Inv X pins σ H s→Vals xs us→r xs H Q →
  wpAny (model X.prog X.w) X.A (call f us) (EP X pins σ Q) X.xe s
def ac1(X:Cx)(r:V→Hp→(Bool→Hp→Prop)→Prop):Prop :=
 ∀(pins:List (Addr×Obj)) (s:Shared) (σ:St) (H:Hp) (x:V) (v:Value) (Q:Bool→Hp→Prop),Inv X pins σ H s→RelV x v→r x H Q →
  wpAny (model X.prog X.w) X.A (truthy v) (TP X pins σ Q) X.xe s
abbrev nW(r:R2)(ta tb:TE):TE:=λσ H Q=>ta σ H λx H1=>tb σ H1 λy H2=>r x y H2 Q
abbrev Qe(r:V→Hp→VK→Prop)(ta:TE):TE:=λσ H Q=>ta σ H λx H1=>r x H1 Q
abbrev rI(C:Int→Int→Prop)(g:Int→Int→V):R2:=λx y H Q=>∃i j,x=.int i∧y=.int j∧C i j∧Q (g i j) H
abbrev fN(g:Int→Int→V):R2:=λx y H Q=>∃i j,x=.int i∧y=.int j∧Q (g i j) H
def rU(g:Int→V):V→Hp→VK→Prop:=λx H Q=>∃i,x=.int i∧Q (g i) H
section
variable {X:Cx}{a b c:Expr}{ta tb tc:TE}{pos:Pos}
def D9(ha:PE X a ta)(hb:PE X b tb){pins:List (Addr×Obj)}{s:Shared}{σ:St}{H:Hp}{R:V→V→Hp→Prop}(I:Inv X pins σ H s)
  (h:ta σ H λx H1=>tb σ H1 λy H2=>R x y H2) {Q:Value→Shared→Prop}{f:Value→Value→Sem Value}
  (hf:∀v u s2 x y H2,Inv X pins σ H2 s2→RelV x v→RelV y u→R x y H2→wpAny (model X.prog X.w) X.A (f v u) Q X.xe s2) :
  wpAny (model X.prog X.w) X.A (eval a X.env) (λv s₁=>wpAny (model X.prog X.w) X.A (eval b X.env) (λu s₂=>wpAny (model X.prog X.w) X.A (f v u) Q X.xe s₂) X.xe s₁) X.xe s:=by
 refine aJ (ha pins s σ H _ I h) λv s1 ⟨x,H1,I1,r1,q1⟩=>?_;refine aJ (hb pins s1 σ H1 _ I1 q1) λu s2 ⟨y,H2,I2,r2,q2⟩=>?_;exact hf v u s2 x y H2 I2 r1 r2 q2
def abe{op:Operator}{r:R2}(ho:bM X (binaryOp op) r)(ha:PE X a ta)(hb:PE X b tb):PE X (.BinOp a op b pos) (nW r ta tb):=by
 intro pins s σ H Q I h;exact wpAny_BinOp (D9 ha hb I h λv u s2 x y H2 I2 rx ry q=>ho pins s2 σ H2 x y v u Q I2 rx ry q)
def abf{op:UnaryOp}{r:V→Hp→VK→Prop}(ho:vz X (unaryOp op) r)(ha:PE X a ta):PE X (.UnaryOp op a pos) (Qe r ta):=by
 intro pins s σ H Q I h;exact UnaryOp_ (aJ (ha pins s σ H _ I h) λv s1 ⟨x,H1,I1,r1,q1⟩=>ho pins s1 σ H1 x v Q I1 r1 q1)
def rZ{f:Value→Value→Sem Value}{C:Int→Int→Prop}{g:Int→Int→Int}
  (rule:∀(i j:Int) (t u:Tok) (s:Shared) (Q:Value→Shared→Prop) (E:Value→Shared→Prop),C i j→Q (.int (g i j) s.toks) { s with toks:=s.toks+1 }→wpAny (model X.prog X.w) X.A (f (.int i t) (.int j u)) Q E s) :
  bM X f (rI C λi j=>.int (g i j)):=by
 intro pins s σ H x y v u Q I rx ry h;let⟨i,j,rfl,rfl,hc,q⟩:=h;let⟨t,rfl⟩:=rx;let⟨t',rfl⟩:=ry;exact rule i j t t' s _ _ hc ⟨.int (g i j),H,I.tok _,⟨_,rfl⟩,q⟩
def y8{f:Value→Value→Sem Value}{g:Int→Int→Int}
  (rule:∀(i j:Int) (t u:Tok) (s:Shared) (Q:Value→Shared→Prop) (E:Value→Shared→Prop),Q (.int (g i j) s.toks) { s with toks:=s.toks+1 }→wpAny (model X.prog X.w) X.A (f (.int i t) (.int j u)) Q E s) :
  bM X f (fN λi j=>.int (g i j)):=by
 intro pins s σ H x y v u Q I rx ry h;let⟨i,j,rfl,rfl,q⟩:=h;let⟨t,rfl⟩:=rx;let⟨t',rfl⟩:=ry;exact rule i j t t' s _ _ ⟨.int (g i j),H,I.tok _,⟨_,rfl⟩,q⟩
def Ea{f:Value→Value→Sem Value}{g:Int→Int→Bool}
  (rule:∀(i j:Int) (t u:Tok) (s:Shared) (Q:Value→Shared→Prop) (E:Value→Shared→Prop),Q (.bool (g i j)) s→wpAny (model X.prog X.w) X.A (f (.int i t) (.int j u)) Q E s) :
  bM X f (fN λi j=>.bl (g i j)):=by
 intro pins s σ H x y v u Q I rx ry h;let⟨i,j,rfl,rfl,q⟩:=h;let⟨t,rfl⟩:=rx;let⟨t',rfl⟩:=ry;exact rule i j t t' s _ _ ⟨.bl (g i j),H,I,rfl,q⟩
def y9(i j:Int):Prop:=0≤j∧j≤1000000∧i.natAbs<2^64
def uN(i j:Int):Prop:=(-(2^64)<i∧i<2^64)∨(-(2^64)<j∧j<2^64)
def uN.ok{i j:Int}(h:uN i j):IntMulOk i j:=by
 rcases h with⟨h1,h2⟩|⟨h1,h2⟩
 ·exact .of_left (intBits_le_64 h1 h2)
 ·exact .of_right (intBits_le_64 h1 h2)
def TQ(k:Nat):(0:Int)≤2^k:=by
 rw[two_pow_cast];exact zI _
def YR:bM X (binaryOp .Add) (fN λi j=>.int (i+j)):=y8 λ_ _ _ _ _ _ _ q=>add_int q
def YS:bM X (binaryOp .Sub) (fN λi j=>.int (i-j)):=y8 λ_ _ _ _ _ _ _ q=>sub_int q
def YT:bM X (binaryOp .Mult) (rI uN λi j=>.int (i*j)):=rZ λ_ _ _ _ _ _ _ hc q=>mul_int q hc.ok
def YV:bM X (binaryOp .Mod) (rI (λ_ j=>0<j) λi j=>.int (i%j)):=rZ λi j _ _ _ _ _ hc q=>by
 have h1:(0:Int)<j:=hc;exact mod_int' (by omega) (by rw[Int.fmod_eq_emod_of_nonneg i (by omega)];exact q)
def YW:bM X (binaryOp .Pow) (rI y9 λi j=>.int (i^j.toNat)):=rZ λ_ _ _ _ _ _ _ hc q=>pow_int_small hc.1 hc.2.1 hc.2.2 q
def YX:bM X (binaryOp .LShift) (rI y9 λi j=>.int (i*2^j.toNat)):=rZ λ_ _ _ _ _ _ _ hc q=>lshift_int_small hc.1 hc.2.1 hc.2.2 q
def YY:bM X (binaryOp .RShift) (rI (λ_ j=>0≤j) λi j=>.int (i/2^j.toNat)):=rZ λi j _ _ _ _ _ hc q =>
 rshift_int hc (by rw[PN i (TQ _)];exact q)
def YZ:bM X (binaryOp .BitAnd) (fN λi j=>.int (Builtin.bitAnd i j)):=y8 λ_ _ _ _ _ _ _ q=>and_int q
def abg:bM X (binaryOp .BitOr) (fN λi j=>.int (Builtin.bitOr i j)):=y8 λ_ _ _ _ _ _ _ q=>or_int q
def Qf{f:Value→Sem Value}{g:Int→Int}
  (rule:∀(i:Int) (t:Tok) (s:Shared) (Q:Value→Shared→Prop) (E:Value→Shared→Prop),Q (.int (g i) s.toks) { s with toks:=s.toks+1 }→wpAny (model X.prog X.w) X.A (f (.int i t)) Q E s) :
  vz X f (rU λi=>.int (g i)):=by
 intro pins s σ H x v Q I rx h;let⟨i,rfl,q⟩:=h;let⟨t,rfl⟩:=rx;exact rule i t s _ _ ⟨.int (g i),H,I.tok _,⟨_,rfl⟩,q⟩
def Y0:vz X (unaryOp .USub) (rU λi=>.int (-i)):=Qf λ_ _ _ _ _ q=>neg_int q
def Y1:vz X (unaryOp .Invert) (rU λi=>.int (Builtin.bitNot i)):=Qf λ_ _ _ _ _ q=>invert_int q
end
abbrev za:V→V→Bool
 |.non,.non=>true|.non,.int _=>true|.int _,.non=>true|.non,.bl _=>true|.bl _,.non=>true|.non,.str _=>true|.str _,.non=>true
 |.int _,.int _=>true|.bl _,.bl _=>true|.str _,.str _=>true|.gU _,.gU _=>true
 |.int _,.str _=>true|.str _,.int _=>true|.bl _,.str _=>true|.str _,.bl _=>true
 |_,_=>false
def Qg:R2:=λx y H Q=>za x y=true∧Q (.bl (decide (x=y))) H
def Qh:R2:=λx y H Q=>za x y=true∧Q (.bl (!decide (x=y))) H
def Kp{i j:Int}:decide (V.int i=V.int j)=(i==j):=by
 rw[mv];simp
def LZ{i j:Bool}:decide (V.bl i=V.bl j)=(i==j):=by
 rw[mv];simp
def Kq{i j:Str}:decide (V.str i=V.str j)=(i==j):=by
 rw[mv];simp
def Kr{i j:Array UInt8}:decide (V.gU i=V.gU j)=(i.toList==j.toList):=by
 rw[mv];cases i;cases j;simp
section
variable {X:Cx}{a b c:Expr}{ta tb tc:TE}{pos:Pos}
def cH{pins:List (Addr×Obj)}{σ:St}{H:Hp}{s:Shared}{Q:VK}{k k':Bool}(I:Inv X pins σ H s)(q:Q (.bl k) H)(e:k=k'):EP X pins σ Q (.bool k') s:=by
 subst e;exact⟨.bl k,H,I,rfl,q⟩
def abh:bM X (compareOp .Eq) Qg:=by
 intro pins s σ H x y v u Q I rx ry h;let⟨hs,q⟩:=h;cases x with
 |non =>
  cases rx;cases y with
  |non=>cases ry;exact PySem.EqNone.eq_none_none (cH I q (by simp))
  |bl j=>cases ry;exact PySem.EqNone.eq_none_bool (cH I q (by simp))
  |int j=>let⟨t',rfl⟩:=ry;exact PySem.EqNone.eq_none_int (cH I q (by simp))
  |str j=>let⟨t',rfl⟩:=ry;exact PySem.EqNone.eq_none_str (cH I q (by simp))
  |_=>exact absurd (show false=true from hs) bw
 |bl i =>
  cases rx;cases y with
  |non=>cases ry;exact PySem.EqNone.eq_bool_none (cH I q (by simp))
  |bl j=>cases ry;exact eq_bool (cH I q LZ)
  |str j=>let⟨t',rfl⟩:=ry;exact PySem.EqMixed.eq_bool_str (cH I q (by simp))
  |_=>exact absurd (show false=true from hs) bw
 |int i =>
  let⟨t,rfl⟩:=rx;cases y with
  |non=>cases ry;exact PySem.EqNone.eq_int_none (cH I q (by simp))
  |int j=>let⟨t',rfl⟩:=ry;exact eq_int (cH I q Kp)
  |str j=>let⟨t',rfl⟩:=ry;exact PySem.EqMixed.eq_int_str (cH I q (by simp))
  |_=>exact absurd (show false=true from hs) bw
 |str i =>
  let⟨t,rfl⟩:=rx;cases y with
  |non=>cases ry;exact PySem.EqNone.eq_str_none (cH I q (by simp))
  |bl j=>cases ry;exact PySem.EqMixed.eq_str_bool (cH I q (by simp))
  |int j=>let⟨t',rfl⟩:=ry;exact PySem.EqMixed.eq_str_int (cH I q (by simp))
  |str j=>let⟨t',rfl⟩:=ry;exact eq_str (cH I q Kq)
  |_=>exact absurd (show false=true from hs) bw
 |gU i =>
  let⟨t,rfl⟩:=rx;cases y with
  |gU j=>let⟨t',rfl⟩:=ry;exact PySem.W.eq_bytes (cH I q Kr)
  |_=>exact absurd (show false=true from hs) bw
 |_=>cases y<;>exact absurd (show false=true from hs) bw
def abi:bM X (compareOp .NotEq) Qh:=by
 intro pins s σ H x y v u Q I rx ry h;let⟨hs,q⟩:=h;cases x with
 |non =>
  cases rx;cases y with
  |non=>cases ry;exact PySem.EqNone.ne_none_none (cH I q (by simp))
  |bl j=>cases ry;exact PySem.EqNone.ne_none_bool (cH I q (by simp))
  |int j=>let⟨t',rfl⟩:=ry;exact PySem.EqNone.ne_none_int (cH I q (by simp))
  |str j=>let⟨t',rfl⟩:=ry;exact PySem.EqNone.ne_none_str (cH I q (by simp))
  |_=>exact absurd (show false=true from hs) bw
 |bl i =>
  cases rx;cases y with
  |non=>cases ry;exact PySem.EqNone.ne_bool_none (cH I q (by simp))
  |bl j=>cases ry;exact ne_bool (cH I q (dD not LZ))
  |str j=>let⟨t',rfl⟩:=ry;exact PySem.EqMixed.ne_bool_str (cH I q (by simp))
  |_=>exact absurd (show false=true from hs) bw
 |int i =>
  let⟨t,rfl⟩:=rx;cases y with
  |non=>cases ry;exact PySem.EqNone.ne_int_none (cH I q (by simp))
  |int j=>let⟨t',rfl⟩:=ry;exact ne_int (cH I q (dD not Kp))
  |str j=>let⟨t',rfl⟩:=ry;exact PySem.EqMixed.ne_int_str (cH I q (by simp))
  |_=>exact absurd (show false=true from hs) bw
 |str i =>
  let⟨t,rfl⟩:=rx;cases y with
  |non=>cases ry;exact PySem.EqNone.ne_str_none (cH I q (by simp))
  |bl j=>cases ry;exact PySem.EqMixed.ne_str_bool (cH I q (by simp))
  |int j=>let⟨t',rfl⟩:=ry;exact PySem.EqMixed.ne_str_int (cH I q (by simp))
  |str j=>let⟨t',rfl⟩:=ry;exact ne_str (cH I q (dD not Kq))
  |_=>exact absurd (show false=true from hs) bw
 |gU i =>
  let⟨t,rfl⟩:=rx;cases y with
  |gU j=>let⟨t',rfl⟩:=ry;exact PySem.W.ne_bytes (cH I q (dD not Kr))
  |_=>exact absurd (show false=true from hs) bw
 |_=>cases y<;>exact absurd (show false=true from hs) bw
def abj:bM X (compareOp .Lt) (fN λi j=>.bl (decide (i<j))):=Ea λ_ _ _ _ _ _ _ q=>lt_int q
def abk:bM X (compareOp .LtE) (fN λi j=>.bl (decide (i≤j))):=Ea λ_ _ _ _ _ _ _ q=>le_int q
def abl:bM X (compareOp .Gt) (fN λi j=>.bl (decide (j<i))):=Ea λ_ _ _ _ _ _ _ q=>gt_int q
def WL:bM X (compareOp .IsNot) (λx y H Q=>y=.non∧Q (.bl (!decide (x=.non))) H):=by
 intro pins s σ H x y v u Q I rx ry h;let⟨rfl,q⟩:=h;cases ry;refine isnot_none_gen (cH I q ?_);cases x<;>first
  | (cases rx;rfl)
  | (let⟨t,rfl⟩:=rx;rfl)
def WM{op:CmpOp}{r:R2}(ho:bM X (compareOp op) r)(ha:PE X a ta)(hb:PE X b tb)(hm:behindInMarks op b=false):PE X (.Compare a [op] [b] pos) (nW r ta tb):=by
 intro pins s σ H Q I h;exact wpAny_Compare1 (D9 ha hb I h λv u s2 x y H2 I2 rx ry q=>ho pins s2 σ H2 x y v u Q I2 rx ry q) hm
abbrev DH(t:TE):TT:=λσ H Q=>t σ H λx H'=>∃k,x=.bl k∧Q k H'
def WN{op:CmpOp}{r:R2}(ho:bM X (compareOp op) r)(ha:PE X a ta)(hb:PE X b tb)(hm:behindInMarks op b=false):PT X (.Compare a [op] [b] pos) (DH (nW r ta tb)):=by
 intro pins s σ H Q I h;refine wpAny_isTrue_Compare1 (aJ (ha pins s σ H _ I h) λv s1 ⟨x,H1,I1,r1,q1⟩=>aJ (hb pins s1 σ H1 _ I1 q1) λu s2 ⟨y,H2,I2,r2,q2⟩ =>
  aJ (ho pins s2 σ H2 x y v u _ I2 r1 r2 q2) λc s3 ⟨z,H3,I3,r3,k,e,q3⟩=>?_) hm
 subst e;cases r3;exact nL ⟨H3,I3,q3⟩
abbrev L0(r r':R2)(ta tb tc:TE):TE:=λσ H Q=>ta σ H λx H1=>tb σ H1 λy H2=>r x y H2 λz H3=>∃k,z=.bl k ∧
 (if k=true then tc σ H3 λw' H4=>r' y w' H4 Q else Q (.bl false) H3)
def Ve{op op':CmpOp}{r r':R2}(ho:bM X (compareOp op) r)(gW:bM X (compareOp op') r')(ha:PE X a ta)(hb:PE X b tb)(hc:PE X c tc)
  (hm:lastMarks [op,op'] [b,c]=false:=by with_unfolding_all rfl):PT X (.Compare a [op,op'] [b,c] pos) (DH (L0 r r' ta tb tc)):=by
 intro pins s σ H Q I h;refine isTrue_chain (aJ (ha pins s σ H _ I h) λv s1 ⟨x,H1,I1,r1,q1⟩=>test_link (aJ (hb pins s1 σ H1 _ I1 q1) λu s2 ⟨y,H2,I2,r2,q2⟩ =>
  aJ (ho pins s2 σ H2 x y v u _ I2 r1 r2 q2) λd s3 ⟨z,H3,I3,r3,k,e,q3⟩=>?_)) hm
 subst e;cases r3;refine nL ?_;cases k with
 |false =>
  let⟨k',e',q'⟩:=q3;cases e';exact ite_ff ⟨H3,I3,q'⟩
 |true =>
  refine ite_tt (test_last (aJ (hc pins s3 σ H3 _ I3 q3) λw' s4 ⟨z',H4,I4,r4,q4⟩=>aJ (gW pins s4 σ H4 y z' u w' _ I4 r2 r4 q4) λd' s5 ⟨z2,H5,I5,r5,k2,e2,q5⟩=>?_));subst e2;cases r5;exact nL ⟨H5,I5,q5⟩
def zb(K:PySem.W.Frag)(x:V)(H:Hp)(k:Bool):Prop :=
 match x with
 |.non=>k=false
 |.bl b=>k=b
 |.int i=>k=(i != 0)
 |.str y=>y.length≤sizeLine∧k=((y.length:Int) != 0)
 |.gU y=>y.size≤sizeLine∧k=((y.size:Int) != 0)
 |.ref p=>(∃xs,b0 K H p xs∧k=!xs.isEmpty)∨(∃xs,bC K H p xs∧k=!xs.isEmpty)∨∃aj,H p=some (.dK aj)∧k=!aj.isEmpty
 |_=>False
def TR{κ:Type}{aj:List (κ×V)}{vs:List (κ×Value)}(r:KV aj vs):(!vs.isEmpty)=!aj.isEmpty:=by
 cases r<;>rfl
def Ie{xs:List V}{its:List Value}(r:Vals xs its):(!its.toArray.isEmpty)=!xs.isEmpty:=by
 cases r<;>simp
def qA:(sizeLine:Nat)<2^63:=by rw[pJ];decide
def Y2:ac1 X (λx H Q=>∃k,zb X.K x H k∧Q k H):=by
 intro pins s σ H x v Q I rx h;let⟨k,e,q⟩:=h;have hl:=qA;have hs:sizeLine=16777216:=pJ;cases x with
 |non =>
  cases rx;have e':k=false:=e;subst e';exact truthy_none ⟨H,I,q⟩
 |bl b =>
  cases rx;have e':k=b:=e;subst e';exact nL ⟨H,I,q⟩
 |int i =>
  let⟨t,rfl⟩:=rx;have e':k=(i != 0):=e;subst e';exact PySem.P.truthy_int ⟨H,I,q⟩
 |str y =>
  let⟨t,rfl⟩:=rx;obtain⟨hy,e'⟩:y.length≤sizeLine∧k=((y.length:Int) != 0):=e;subst e';exact PySem.P.truthy_str (by omega) ⟨H,I.tok _,q⟩
 |gU y =>
  let⟨t,rfl⟩:=rx;obtain⟨hy,e'⟩:y.size≤sizeLine∧k=((y.size:Int) != 0):=e;subst e';exact PySem.W.truthy_bytes (by omega) ⟨H,I.tok _,q⟩
 |ref p =>
  cases rx;have e':(∃xs,b0 X.K H p xs∧k=!xs.isEmpty)∨(∃xs,bC X.K H p xs∧k=!xs.isEmpty)∨∃aj,H p=some (.dK aj)∧k=!aj.isEmpty:=e;rcases e' with⟨xs,hx,e'⟩|⟨xs,hx,e'⟩|⟨aj,hx,e'⟩
  ·subst e';let⟨its,r,pl,hz⟩:=I.list hx;have hlen:=r.length;exact wpAny_truthy_list pl.isList (by simp only[List.size_toArray];omega) ⟨H,I.tok _,by rw[Ie r];exact q⟩
  ·subst e';let⟨its,r,pl,hz⟩:=I.tuple hx;have hlen:=r.length;exact truthy_tuple pl (by simp only[List.size_toArray];omega) ⟨H,I.tok _,by rw[Ie r];exact q⟩
  ·subst e';obtain⟨hz,hS,vs,r,m⟩:aj.length≤sizeLine∧(p==sysModules)=false∧∃vs,KV aj vs∧s.heap.DictOf (cG X.prog X.w) p vs:=I.aH p _ hx;have hlen:aj.length=vs.length:=cE r;exact wpAny_truthy_dict hS m (by omega) ⟨H,I.tok _,by rw[TR r];exact q⟩
 |_=>exact(show False from e).elim
def Vf(ha:PE X a ta)(he:∀whole,isTrue a X.env whole=(do let v ←whole;standAt a.pos;holding [v] (truthy v))) :
  PT X a (λσ H Q=>ta σ H λx H'=>∃k,zb X.K x H' k∧Q k H'):=by
 intro pins s σ H Q I h;exact isTrue_plain (aJ (ha pins s σ H _ I h) λv s1 ⟨x,H1,I1,r1,q1⟩=>Y2 pins s1 σ H1 x v Q I1 r1 q1) (he _)
def TV:bM X (binaryOp .Add) (λx y H Q=>∃i j,x=.str i∧y=.str j∧i.length+j.length≤sizeLine∧Q (.str (i++j)) H):=by
 intro pins s σ H x y v u Q I rx ry h;let⟨i,j,rfl,rfl,hz,q⟩:=h;let⟨t,rfl⟩:=rx;let⟨t',rfl⟩:=ry;exact add_str (λt' tk=>⟨.str (i++j),H,I.tok _,⟨_,rfl⟩,q⟩) hz
def vals1{x:V}{us:List Value}(r:Vals [x] us):∃u,us=[u]∧RelV x u:=by
 cases r with
 |cons r1 r2=>cases r2;exact⟨_,rfl,r1⟩
def vals2{x y:V}{us:List Value}(r:Vals [x,y] us):∃u w',us=[u,w']∧RelV x u∧RelV y w':=by
 cases r with
 |cons r1 r2 =>
  cases r2 with
  |cons r3 r4=>cases r4;exact⟨_,_,rfl,r1,r3⟩
def Us(hc:X.calm=true):iJ X (.builtin "max") (λxs H Q=>∃i j,xs=[.int i,.int j]∧Q (.int (if j>i then j else i)) H):=by
 intro pins s σ H xs us Q I r h;let⟨i,j,rfl,q⟩:=h;let⟨u,w',rfl,⟨t,rfl⟩,⟨t',rfl⟩⟩:=vals2 r;refine max_two_ints (I.ok.hd hc) λh' tk k=>⟨_,H,I.kept k,?_,q⟩;by_cases hj:j>i
 ·rw[if_pos hj,if_pos hj];exact⟨_,rfl⟩
 ·rw[if_neg hj,if_neg hj];exact⟨_,rfl⟩
def Ut:iJ X (.type "int") (λxs H Q=>(∃i,xs=[.int i]∧Q (.int i) H)∨∃k,xs=[.bl k]∧Q (.int (if k then 1 else 0)) H):=by
 intro pins s σ H xs us Q I r h;rcases h with⟨i,rfl,q⟩|⟨k,rfl,q⟩
 ·let⟨u,rfl,t,rfl⟩:=vals1 r;exact call_int_int ⟨.int i,H,I,⟨_,rfl⟩,q⟩
 ·let⟨u,rfl,r1⟩:=vals1 r;cases r1;exact call_int_bool ⟨.int (if k then 1 else 0),H,I.tok _,⟨_,rfl⟩,q⟩
def Eb(K:PySem.W.Frag)(x:V)(H:Hp)(n:Nat):Prop :=
 match x with
 |.str y=>y.length≤sizeLine∧n=y.length
 |.gU y=>y.size≤sizeLine∧n=y.size
 |.ref p=>(∃xs,b0 K H p xs∧n=xs.length)∨∃xs,bC K H p xs∧n=xs.length
 |_=>False
def Vg:iJ X (.builtin "len") (λxs H Q=>∃x n,xs=[x]∧Eb X.K x H n∧Q (.int n) H):=by
 intro pins s σ H xs us Q I r h;let⟨x,n,rfl,e,q⟩:=h;let⟨u,rfl,rx⟩:=vals1 r;have hl:=qA;have hs:sizeLine=16777216:=pJ;cases x with
 |str y =>
  let⟨t,rfl⟩:=rx;obtain⟨hy,e'⟩:y.length≤sizeLine∧n=y.length:=e;subst e';exact len_str (by omega) ⟨.int _,H,I.tok _,⟨_,rfl⟩,q⟩
 |gU y =>
  let⟨t,rfl⟩:=rx;obtain⟨hy,e'⟩:y.size≤sizeLine∧n=y.size:=e;subst e';exact PySem.W.len_bytes (by omega) ⟨.int _,H,I.tok _,⟨_,rfl⟩,q⟩
 |ref p =>
  cases rx;have e':(∃xs,b0 X.K H p xs∧n=xs.length)∨∃xs,bC X.K H p xs∧n=xs.length:=e;rcases e' with⟨xs,hx,e'⟩|⟨xs,hx,e'⟩
  ·subst e';let⟨its,r',pl,hz⟩:=I.list hx;have hlen:=r'.length;exact Calls.call_len_list pl.isList (by simp only[List.size_toArray];omega) ⟨.int xs.length,H,I.tok _,⟨_,by simp only[List.size_toArray];rw[hlen]⟩,q⟩
  ·subst e';let⟨its,r',pl,hz⟩:=I.tuple hx;have hlen:=r'.length;exact len_tuple pl (by simp only[List.size_toArray];omega) ⟨.int xs.length,H,I.tok _,⟨_,by simp only[List.size_toArray];rw[hlen]⟩,q⟩
 |_=>exact(show False from e).elim
end
structure ad3 (h:Heap)(x dx C:Addr)(mA:Str→Option Value):Prop where
 obj:h.get? x=some (PySem.W.instObj C dx)
 ns:h.Ns1 dx mA
 ne:dx≠x
section
variable {prog:Program}{w:World}{A:Around}{E:Value→Shared→Prop}{s:Shared}{K:PySem.W.Frag}{x dx C f:Addr}{mA:Str→Option Value}{name:Str}{v:Value}
end
def i7.some_of{v:V}{o:Option Value}(r:i7 (some v) o):∃u,o=some u∧RelV v u:=by
 cases o with
 |none=>exact(show False from r).elim
 |some u=>exact⟨u,rfl,r⟩
section
variable {P:Program}{w:World}{H H':Hp}{h h':Heap}{a C dx:Addr}{fs fs':List (Str×V)}
end
structure Cls (K:PySem.W.Frag)(C:Addr):Prop where
 pg:PySem.W.plainGet K C Str.empty=true
 hd:PySem.W.hasDictIn K C=true
 po:PySem.W.plainOver K C=true
 sa:PySem.W.findIn K (.ref C) "__setattr__" = some (some (.builtin "object.__setattr__"))
structure Con (K:PySem.W.Frag)(C:Addr)(f:Str)(v:V)(u:Value):Prop where
 at_:PySem.W.findIn K (.ref C) f=some (some u)
 rel:RelV v u
 get:PySem.W.specialIn K u "__get__" = some none
 cp:PySem.W.copiedNames.contains f=false
structure Meth (K:PySem.W.Frag)(C:Addr)(m:Str)(f:Addr):Prop where
 at_:PySem.W.findIn K (.ref C) m=some (some (.ref f))
 fn:PySem.W.isFn K (.ref f)=true
 kp:PySem.W.keepIn K (.ref f)=true
section
variable {X:Cx}{pins:List (Addr×Obj)}{σ:St}{H:Hp}{s:Shared}{a C dx:Addr}{fs:List (Str×V)}{f:Str}{v:V}{A:Around}{E:Value→Shared→Prop}
end
section
variable {X:Cx}{o e value:Expr}{f:Str}{pos pos' ac2:Pos}{ta tv:TE}
def Ec:V→V→Hp→VK→Prop:=λx y H Q=>∃i j,x=.int i∧y=.int j∧Q (.int (i+j)) H
end
section
variable {X:Cx}{pins:List (Addr×Obj)}{σ:St}{H:Hp}{s:Shared}{A:Around}{E:Value→Shared→Prop}{Q:Value→Shared→Prop}{c:Value}{b:Bool}
inductive jO (K:PySem.W.Frag)(H:Hp):V→Value→Prop where
 |non:jO K H .non (.type "NoneType")
 |bl (x:Bool):jO K H (.bl x) (.type "bool")
 |int (i:Int):jO K H (.int i) (.type "int")
 |str (x:Str):jO K H (.str x) (.type "str")
 |vp (x:UInt64):jO K H (.vp x) (.type "float")
 |lst {a:Addr}{xs:List V} (e:H a=some (.lst xs)):jO K H (.ref a) (.type "list")
 |aW {a:Addr}{o:Obj}{xs:List V} (e:H a=some (.aW o (.lst xs))):jO K H (.ref a) (.type "list")
 |tup {a:Addr}{xs:List V} (e:H a=some (.tup xs)):jO K H (.ref a) (.type "tuple")
 |dK {a:Addr}{aj:List (Key×V)} (e:H a=some (.dK aj)):jO K H (.ref a) (.type "dict")
 |dT {a:Addr}{aj:List (List Key×V)} (e:H a=some (.dT aj)):jO K H (.ref a) (.type "dict")
 |ins {a C dx:Addr}{fs:List (Str×V)} (e:H a=some (.ins C dx fs)) (cl:Cls K C) (ha:PySem.W.findIn K (.ref C) "__class__" = some (some (.builtin "object.__class__")))
  (hn:PySem.W.specialIn K (.builtin "object.__class__") "__get__" = some (some (.builtin "getset_descriptor.__get__"))) (htk:PySem.W.takesIn K (.builtin "object.__class__")=some true)
  (hm:PySem.W.mroIn K C (.type "object")=some true):jO K H (.ref a) (.ref C)
end
structure eU (k:Nat)(A:Around):Prop where
 hd:A.handled=none
 dp:A.depth+3*k+5<recursionLimit
 un:A.units+16*k+200<cLine
def eU.mono{j k:Nat}{A:Around}(r:eU k A)(h:j≤k):eU j A:=⟨r.hd,by have:=r.dp;omega,by have:=r.un;omega⟩
theorem eU.deeper{k:Nat}{A:Around}(r:eU (k+1) A)(env:Env):eU k (A.deeper env) :=
 ⟨r.hd,by have:=r.dp;show A.depth+1+3*k+5<_;omega,by have:=r.un;show A.units+3+16*k+200<_;omega⟩
theorem eU.depth{k:Nat}{A:Around}(r:eU k A):A.depth<recursionLimit:=by have:=r.dp;omega
theorem eU.units{k:Nat}{A:Around}(r:eU k A):A.units+64<cLine:=by have:=r.un;omega
abbrev lY:TA:=λ_ H Q=>Q [] H
abbrev mZ(ta:TE)(tr:TA):TA:=λσ H Q=>ta σ H λx H1=>tr σ H1 λxs H2=>Q (x::xs) H2
section
variable {X:Cx}{e:Expr}{es:List Expr}{te:TE}{t:TA}{pos:Pos}
def ug:PA X [] lY:=λ_ _ _ _ H Q I h=>Calls.spliced_nil ⟨[],H,I,.nil,h⟩
def xX(ha:PE X e te)(hr:PA X es t)(hs:starEach (e::es) X.env=(false,eval e X.env)::starEach es X.env:=by rfl):PA X (e::es) (mZ te t):=by
 intro pos pins s σ H Q I h;rw[hs];show wpAny _ _ (spliced ((false,eval e X.env)::backTo pos (starEach es X.env))) _ _ s;refine vb (aJ (ha pins s σ H _ I h) λu s1 ⟨x,H1,I1,r1,q1⟩=>?_);exact aJ (hr pos pins s1 σ H1 _ I1 q1) λus s2 ⟨xs,H2,I2,r2,q2⟩=>⟨x::xs,H2,I2,.cons r1 r2,q2⟩
def Ed(t:TA):TE:=λσ H Q=>t σ H λxs H1=>xs.length≤sizeLine∧∀p,H1 p=none→Q (.ref p) (upd H1 p (.tup xs))
def zc(t:TA):TE:=λσ H Q=>t σ H λxs H1=>xs.length≤sizeLine∧∀p,H1 p=none→Q (.ref p) (upd H1 p (.lst xs))
def L1{x1}(h:PA X es t):PE X (.Tuple es x1 pos) (Ed t):=by
 intro pins s σ H Q I hq;refine wpAny_Tuple_spliced (aJ (h pos pins s σ H _ I hq) λus s1 ⟨xs,H1,I1,r,z,q⟩=>⟨by rw[←r.length];exact z,?_⟩);have hf:H1 s1.heap.objs.size=none:=I1.aH.fresh (aU _);refine⟨.ref s1.heap.objs.size,upd H1 s1.heap.objs.size (.tup xs),I1.laid (t':=s1.toks) (λb u e=>cw _ e) (aU _) ?_,rfl,q _ hf⟩;exact⟨z,us,r,⟨_,gq _ rfl,rfl,rfl,_,rfl⟩⟩
def Dk(h:PA X es t):PE X (.List es pos) (zc t):=by
 intro pins s σ H Q I hq;refine wpAny_List_spliced (aJ (h pos pins s σ H _ I hq) λus s1 ⟨xs,H1,I1,r,z,q⟩=>⟨by rw[←r.length];exact z,?_⟩);have hf:H1 s1.heap.objs.size=none:=I1.aH.fresh (aU _);refine⟨.ref s1.heap.objs.size,upd H1 s1.heap.objs.size (.lst xs),I1.laid (t':=s1.toks) (λb u e=>cw _ e) (aU _) ?_,rfl,q _ hf⟩;exact⟨z,us,0,r,gq _ rfl⟩
end
noncomputable abbrev Sp:=List V→Hp→VK→XK→Prop
noncomputable abbrev j7:=List Env→Hp→Shared→XK→Value→Shared→Prop
structure zf (P:Program)(w:World)(K:PySem.W.Frag)(mg:Str→Option Value)(base:Heap)(A:Around)(outer:List Env)(s:Shared)(H:Hp):Prop where
 frames:A.frames=some outer
 mod:Mod K mg base
 bs:∀b o,base.get? b=some o→s.heap.get? b=some o∧H b=none
 mD:base.objs.size≤s.heap.objs.size
 jM:s.heap.FunFrames base outer
 rW:∀b∈jv outer,H b=none
 aH:cP P w H s.heap
 bare:AllBare s.gens
def CE(outer:List Env)(P:Program)(w:World)(H:Hp)(s:Shared)(Q:VK)(u:Value)(s':Shared):Prop :=
 ∃v H',s'.os=s.os∧AllBare s'.gens∧Un (jv outer) [] H H' s.heap s'.heap∧cP P w H' s'.heap∧RelV v u∧Q v H'
def CR(CX:j7)(outer:List Env)(P:Program)(w:World)(H:Hp)(s:Shared)(Q:VK)(E:XK)(r:Result)(s':Shared):Prop :=
 match r with
 |.ok (.ret u)=>CE outer P w H s Q u s'
 |.ok _=>False
 |.error e=>CX outer H s E e s'
structure lZ (P:Program)(w:World)(K:PySem.W.Frag)(mg:Str→Option Value)(base:Heap)(CX:j7)(k:Nat)(f:Addr)(fd:FuncData)(ps:List Str)(sp:Sp):Prop where
 len:∀vs H Q E,sp vs H Q E→vs.length=ps.length
 run:∀(A:Around) (outer:List Env) (s:Shared) (H:Hp) (args:Args) (us:List Value) (vs:List V) (Q:VK) (E:XK),eU k A→zf P w K mg base A outer s H→BindsTo s fd args (ps.zip us)→Vals vs us→sp vs H Q E →
  codeAny (model P w) A (.call (.ref f) args) (CR CX outer P w H s Q E) s
section
variable {X:Cx}{pins:List (Addr×Obj)}{σ:St}{H:Hp}{s s':Shared}
def Inv.ac3(I:Inv X pins σ H s):zf X.prog X.w X.K X.mg X.base X.A X.stack s H :=
 ⟨I.ok.frames,I.ok.mod,I.bs,dC I.ok.mD I.sz,I.stack,I.Kl,I.aH,I.bare⟩
def Inv.after{Q:VK}{u:Value}(I:Inv X pins σ H s)(h:CE X.stack X.prog X.w H s Q u s'):EP X pins σ Q u s':=by
 let⟨v,H',os,bare,un,aH,r,q⟩:=h;let⟨hh,g,d,t,os'⟩:=s';obtain rfl:os'=s.os:=os;exact⟨v,H',I.call (h':=hh) (g':=g) (d':=d) (t':=t) (ch:=[]) un aH bare (λb z=>absurd z (by simp)),r,q⟩
end
abbrev m3(sp:Sp)(nX:List V)(E:XK)(t:TA):TE:=λσ H Q=>t σ H λvs H1=>sp (vs++nX) H1 Q E
def Binds(K:PySem.W.Frag)(fd:FuncData)(ps:List Str)(ds:List Value):Prop :=
 ∀(s:Shared) (us:List Value),K.In s.heap→(us++ds).length=ps.length→BindsTo s fd ⟨us,[]⟩ (ps.zip (us++ds))
def Binds.all{K:PySem.W.Frag}{fd:FuncData}{ps:List Str}(h:∀us:List Value,us.length=ps.length→bindArgs fd ⟨us,[]⟩=pure (ps.zip us)):Binds K fd ps []:=λs us _ hl=>by
 rw[rJ]at hl ⊢;exact .of_eq (h us hl)
def Passes(CX:j7)(X:Cx)(E:XK):Prop:=∀(pins:List (Addr×Obj)) (σ:St) (H:Hp) (s:Shared) (e:Value) (s':Shared),Inv X pins σ H s→CX X.stack H s E e s'→X.xe e s'
section
variable {X:Cx}{CX:j7}{k:Nat}{f C:Addr}{fd:FuncData}{ps:List Str}{sp:Sp}{nX:List V}{ds:List Value}{E:XK}{x m:Str}{p pos apos:Pos}{e o:Expr}{es:List Expr}{ta:TE}{t:TA}
def Y3{pins:List (Addr×Obj)}{σ:St}{H:Hp}{s:Shared}{Q:VK}{us:List Value}{vs:List V}(F:lZ X.prog X.w X.K X.mg X.base CX k f fd ps sp)(hr:eU k X.A)(hb:Binds X.K fd ps ds)(hd:Vals nX ds)(hx:Passes CX X E)
  (I:Inv X pins σ H s) (r:Vals vs us) (h:sp (vs++nX) H Q E):wpAny (model X.prog X.w) X.A (call (.ref f) us) (EP X pins σ Q) X.xe s:=by
 have r2:Vals (vs++nX) (us++ds):=r.append hd;have hl:(us++ds).length=ps.length:=by rw[←r2.length];exact F.len _ _ _ _ h
 refine wpAny_call (codeAny_mono (F.run X.A X.stack s H ⟨us,[]⟩ (us++ds) (vs++nX) Q E hr I.ac3 (hb s us I.iu hl) r2 h) λr s' hq=>?_);cases r with
 |error e=>exact hx pins σ H s e s' I hq
 |ok fl =>
  cases fl with
  |ret u=>exact I.after hq
  |next=>exact False.elim hq
  |brk=>exact False.elim hq
  |cont=>exact False.elim hq
def CF(F:lZ X.prog X.w X.K X.mg X.base CX k f fd ps sp)(hr:eU k X.A)(hg:Gl X x)(hm:X.mg x=some (.ref f))(hk:PySem.W.keepIn X.K (.ref f)=true)(hb:Binds X.K fd ps ds)(hd:Vals nX ds)(hx:Passes CX X E)
  (ha:PA X (e::es) t) (vA:(x==("__debug__" : Str))=false:=by decide) (he:starEach (e::es) X.env=(false,eval e X.env)::starEach es X.env:=by rfl) (pU:(backTo pos (starEach es X.env)).any (·.1)=false:=by rfl) :
  PE X (.Call (.Name x p) (e::es) [] pos) (m3 sp nX E t):=by
 intro pins s σ H Q I h;refine Fe (Wy I hg hm ?_ vA);refine PySem.W.callWith_K (h₀:=X.base) I.ok.mod.Fz hk (aJ (ha pos pins s σ H _ I h) λus s1 ⟨vs,H1,I1,r,q⟩=>⟨I1.iu,?_⟩) he pU;exact Y3 F hr hb hd hx I1 r q
structure Mk (K:PySem.W.Frag)(C f:Addr):Prop where
 makes:PySem.W.makesIn K C=true
 init:PySem.W.findIn K (.ref C) "__init__" = some (some (.ref f))
 fn:PySem.W.isFn K (.ref f)=true
 kp:PySem.W.keepIn K (.ref C)=true
end
section
variable {X:Cx}{CX:j7}{k:Nat}{f C:Addr}{fd:FuncData}{ps ks:List Str}{sp:Sp}{E:XK}{x m:Str}{p pos apos ad4:Pos}{e o:Expr}{es:List Expr}{kws:List Keyword}{te ta:TE}{t tk:TA}{nm:Option Str}
structure adZ (K:PySem.W.Frag)(fd:FuncData)(ps ks:List Str)(g:List Value→List Value→List Value)(gV:List V→List V→List V):Prop where
 to:∀(s:Shared) (us ws:List Value),K.In s.heap→(g us ws).length=ps.length→BindsTo s fd ⟨us,ks.zip ws⟩ (ps.zip (g us ws))
 rel:∀{vs:List V}{us:List Value}{zs:List V}{ws:List Value},Vals vs us→Vals zs ws→Vals (gV vs zs) (g us ws)
variable {g:List Value→List Value→List Value}{gV:List V→List V→List V}
end
structure tX (N P:List Str)(sc:Scope):Prop where
 kind:sc.kind=.function
 co:sc.isCoroutine=false
 gen:sc.isGenerator=false
 nd:N.Nodup
 pre:N.take P.length=P
 par:∀x∈P,sc.names.lookup x=some .local∨sc.names.lookup x=some .cell
 Y4:∀y∈sc.names,y.2≠.free
theorem IQ{kindOf:Str→Option NameKind}{x:Str}:∀{binds:List (Str×Value)}{m:Str→Option Value},(∀v,(x,v)∉binds)→bindL kindOf binds m x=m x
  |[],_,_=>rfl
  | (n,v)::r,m,h=>by
    unfold bindL;rw[IQ λw hw=>h w (cT _ hw)];split
    · have:x≠n:=by rintro rfl;exact h v cg
      simp[this]
    · rfl
theorem IU{kindOf:Str→Option NameKind}{x:Str}:∀{binds:List (Str×Value)}{m:Str→Option Value},(∀v,(x,v)∉binds)→bindC kindOf binds m x=m x
  |[],_,_=>rfl
  | (n,v)::r,m,h=>by
    unfold bindC;rw[IU λw hw=>h w (cT _ hw)];split
    · rfl
    · have:x≠n:=by rintro rfl;exact h v cg
      simp[this]
theorem IV{kindOf:Str→Option NameKind}{x:Str}{v:Value}:∀{P:List Str}{vs:List Value}{i:Nat}{m:Str→Option Value},P.Nodup→P[i]?=some x→vs[i]?=some v→kindOf x=some .local →
  bindL kindOf (P.zip vs) m x=some v
 |[],_,_,_,_,h,_,_=>by simp at h
 |_::_,[],_,_,_,_,h,_=>by simp at h
 |p::P,w::vs,0,m,nd,h1,h2,hk=>by
  simp at h1 h2;subst h1;subst h2;show bindL kindOf ((p,w)::P.zip vs) m p=_;unfold bindL;rw[IQ λv hv=>(jZ.mp nd).1 (Ff hv).1,if_pos hk];simp
 |p::P,w::vs,i+1,m,nd,h1,h2,hk=>by
  show bindL kindOf ((p,w)::P.zip vs) m x=_;unfold bindL;exact IV (i:=i) (jZ.mp nd).2 (by simpa using h1) (by simpa using h2) hk
theorem IW{kindOf:Str→Option NameKind}{x:Str}{v:Value}:∀{P:List Str}{vs:List Value}{i:Nat}{m:Str→Option Value},P.Nodup→P[i]?=some x→vs[i]?=some v→kindOf x≠some .local →
  bindC kindOf (P.zip vs) m x=some v
 |[],_,_,_,_,h,_,_=>by simp at h
 |_::_,[],_,_,_,_,h,_=>by simp at h
 |p::P,w::vs,0,m,nd,h1,h2,hk=>by
  simp at h1 h2;subst h1;subst h2;show bindC kindOf ((p,w)::P.zip vs) m p=_;unfold bindC;rw[IU λv hv=>(jZ.mp nd).1 (Ff hv).1,if_neg hk];simp
 |p::P,w::vs,i+1,m,nd,h1,h2,hk=>by
  show bindC kindOf ((p,w)::P.zip vs) m x=_;unfold bindC;exact IW (i:=i) (jZ.mp nd).2 (by simpa using h1) (by simpa using h2) hk
abbrev start(N:List Str)(vs:List V):St:=vs.map some++List.replicate (N.length-vs.length) none
abbrev nA(CX:j7)(P:Program)(w:World)(K:PySem.W.Frag)(mg:Str→Option Value)(base:Heap)(N:List Str)(qual:Str)(scope:Scope)(f:Addr)(cd:Value)(A:Around)(outer:List Env)(s:Shared)(H:Hp)(E:XK):Cx where
 prog:=P
 w:=w
 K:=K
 mg:=mg
 base:=base
 A:=A.deeper (envOfC qual scope s.heap.objs.size f cd)
 N:=N
 s₀:=s
 H₀:=H
 env:=envOfC qual scope s.heap.objs.size f cd
 outer:=outer
 stack:=envOfC qual scope s.heap.objs.size f cd::outer
 ex:=[]
 calm:=true
 fn:=λ_=>true
 pn:=[]
 xe:=λe s'=>wpAny (model P w) (A.deeper (envOfC qual scope s.heap.objs.size f cd)) (leaving (envOfC qual scope s.heap.objs.size f cd) e) (λ_ FJ=>CX outer H s E e FJ) (λe' FJ=>CX outer H s E e' FJ) s'
def Jy{sc:Scope}{n:Nat}{x:Str}(h:sc.names.lookup x=some .cell):∃c,(cellsFrom n sc.names []).lookup x=some c:=by
 have q:=PySem.W.cellsFrom_some sc.names n [] (.inl h);exact Option.isSome_iff_exists.mp q
def Uu{CX:j7}{P:Program}{w:World}{K:PySem.W.Frag}{mg:Str→Option Value}{base:Heap}{N ps:List Str}{qual:Str}{scope:Scope}{f:Addr}{cd:Value}{A:Around}{outer:List Env}{s s1:Shared}{H:Hp}{E:XK}{us:List Value}{vs:List V}
  (S:tX N ps scope) (hd:A.handled=none) (e0:zf P w K mg base A outer s H) (hl:vs.length=ps.length) (r:Vals vs us)
  (x:InCallC s s.heap.objs.size (bindL (envOfC qual scope s.heap.objs.size f cd).kindOf (ps.zip us) λ_=>none) (cellsFrom (s.heap.objs.size+1) scope.names []) (bindC (envOfC qual scope s.heap.objs.size f cd).kindOf (ps.zip us) λ_=>none) s1) :
  Inv (nA CX P w K mg base N qual scope f cd A outer s H E) [] (start N vs) H s1:=by
 have pU:ps.length≤N.length:=by have:=dD List.length S.pre;rw[mw]at this;omega
 let⟨h1,tk,rfl,hk⟩:=x.done;have vB:∀b:Addr,b∉(nA CX P w K mg base N qual scope f cd A outer s H E).ex:=λb z=>absurd (show b∈([]:List Addr)from z) (by simp);refine⟨⟨e0.mod,S.kind,rfl,rfl,aU _,λy z c h1 h2=>?_,λy hy=>?_,λy c _ h=>?_,λ_=>hd,Around.frames_deeper e0.frames,.inr ⟨rfl,rfl⟩,λb z=>absurd z (vB b),e0.bs,e0.mD,λb _ _=>vB b,λb z=>absurd z (vB b),e0.jM,e0.rW⟩,
  rfl,e0.bare,Un.kept hk,⟨_,x.toInCall.ns,λi y v h1 h2 h3=>?_⟩,λy c h=>⟨_,x.cell y c h⟩,e0.aH.fresh (aU _),λy c h=>?_,λp hp=>absurd (show p∈([]:List (Addr×Obj))from hp) (by simp),e0.aH.kept hk,?_⟩
 ·exact name_of_addr x.apart (nM h1) (nM h2)
 ·have hy:scope.names.lookup y=some .cell∨scope.names.lookup y=some .free:=hy;rcases hy with hy|hy
  ·exact Jy hy
  ·exact absurd rfl (S.Y4 _ (nM hy))
 ·exact Nat.le_of_lt (x.above y c (nM h))
 ·have hi:i<vs.length:=by
   unfold start at h2;by_cases hi:i<vs.length
   ·exact hi
   ·rw[List.getElem?_append_right (by simpa using hi)]at h2;rw[vd]at h2;split at h2<;>cases h2
  have ha:vs[i]?=some v:=by
   unfold start at h2;rw[pL (by simpa using hi),cF]at h2;cases e:vs[i]? with
   |none=>rw[e]at h2;cases h2
   |some a=>rw[e]at h2;cases h2;rfl
  let⟨u,hu,rv⟩:=r.get ha;have hp:ps[i]?=some y:=by
   rw[←S.pre,List.getElem?_take_of_lt (by omega)];exact h1
  have Qi:ps.Nodup:=by rw[←S.pre];exact S.nd.sublist (List.take_sublist _ _)
  refine⟨u,rv,?_⟩;rcases S.par y (dH hp)with k|k
  ·exact .inl ⟨k,IV Qi hp hu k⟩
  ·let⟨c,e⟩:=Jy (n:=s.heap.objs.size+1) k;refine .inr ⟨.inl k,c,e,?_⟩;have q:=x.cell y c e;rw[IW Qi hp hu (by show scope.names.lookup y≠_;rw[k];decide)]at q;exact q
 ·exact e0.aH.fresh (Nat.le_of_lt (x.above y c (nM h)))
 ·unfold start;show _=N.length;rw[fw,dZ,zJ];omega
def Nv{CX:j7}{P:Program}{w:World}{K:PySem.W.Frag}{mg:Str→Option Value}{base:Heap}{k:Nat}{f:Addr}{name qual:Str}{params:Arguments}{body:List Stmt}{scope:Scope}{dV kV doc pm bX ct oc:Value}{an od:Option Addr}
  {j8:Array (Option Value)}{N ps:List Str}{sp:Sp} (lk:K.lookup f=some ⟨oc,od,.func (PySem.W.fnOf name qual params body scope dV kV doc pm an bX ct),j8⟩) (iR:PySem.W.codeIn K bX qual=true) (S:tX N ps scope)
  (len:∀vs H Q E,sp vs H Q E→vs.length=ps.length)
  (uD:∀(A:Around) (outer:List Env) (s:Shared) (H:Hp) (vs:List V) (Q:VK) (E:XK),eU k (A.deeper (envOfC qual scope s.heap.objs.size f bX))→sp vs H Q E →
   ∃t,gX (nA CX P w K mg base N qual scope f bX A outer s H E) body t∧t { nx:=λ_ H'=>Q .non H',rt:=Q } (start N vs) H) :
  lZ P w K mg base CX (k+1) f (PySem.W.fnOf name qual params body scope dV kV doc pm an bX ct) ps sp:=by
 refine⟨len,λA outer s H args us vs Q E hr e0 hb r lA=>?_⟩;have hl:=len _ _ _ _ lA;have KX:K.In s.heap:=e0.mod.Fz.keeps λb o e=>(e0.bs b o e).1;have lim:s.heap.NoLimit:=e0.mod.nolimit.keeps λb o e=>(e0.bs b o e).1;have abm:∀y∈ps.zip us,scope.names.lookup y.1=some .local∨(scope.names.lookup y.1=some .cell∧((cellsFrom (s.heap.objs.size+1) scope.names []).lookup y.1).isSome=true):=λ⟨n,v⟩ hy=>by
  rcases S.par n (Ff hy).1 with q|q
  ·exact .inl q
  ·exact .inr ⟨q,PySem.W.cellsFrom_some _ _ _ (.inl q)⟩
 refine codeAny_call_function hr.depth (KX _ _ lk) rfl S.co S.gen rfl (PySem.W.codeRec_of KX iR) (hb _ _ _ _ ?_);refine wpAny_newFunctionEnv_cells S.kind abm λenv he s1 x=>?_;subst he;refine⟨lim.keeps x.toInCall.keep,codeAny_func ?_⟩;let⟨t,ht,hq⟩:=uD A outer s H vs Q E (hr.deeper _) lA;have I:Inv (nA CX P w K mg base N qual scope f bX A outer s H E) [] (start N vs) H s1:=Uu S hr.hd e0 hl r x;refine fY (ht [] s1 (start N vs) H _ I hq) (λfl s' hs=>?_) λe s' hs=>hs;have fin:∀{σ':St}{H':Hp}{v:V}{u:Value},Inv (nA CX P w K mg base N qual scope f bX A outer s H E) [] σ' H' s'→RelV v u→Q v H'→CE outer P w H s Q u s' :=
  λ{σ' H' v u} J rv q=>⟨v,H',J.os,J.bare,J.base,J.aH,rv,q⟩
 cases fl with
 |ret u =>
  let⟨v,σ',H',J,rv,q⟩:=hs;exact fin J rv q
 |next =>
  let⟨σ',H',J,q⟩:=hs;exact fin (v:=V.non) (u:=Value.none) J rfl q
 |brk =>
  let⟨_,_,_,q⟩:=hs;exact False.elim q
 |cont =>
  let⟨_,_,_,q⟩:=hs;exact False.elim q
section
variable {X:Cx}{x:Str}{p pos:Pos}{e:Expr}{es:List Expr}{t:TA}{id T:String}{r:List V→Hp→VK→Prop}
abbrev Ag(r:List V→Hp→VK→Prop)(t:TA):TE:=λσ H Q=>t σ H λvs H1=>r vs H1 Q
def tP (hc:iJ X (.builtin id) r) (hg:Gl X x) (hm:X.mg x=none) (hv:bootBuiltins x=some (.builtin id)) (ha:PA X (e::es) t) (hn:x ≠ "__name__" := by decide) (vA:(x==("__debug__" : Str))=false:=by decide)
  (he:starEach (e::es) X.env=(false,eval e X.env)::starEach es X.env:=by rfl) (pU:(backTo pos (starEach es X.env)).any (·.1)=false:=by rfl):PE X (.Call (.Name x p) (e::es) [] pos) (Ag r t):=by
 intro pins s σ H Q I h;refine Fe (kQ I hg hm hv ?_ hn vA);exact PyProof.Rows.callWith_builtin1 (aJ (ha pos pins s σ H _ I h) λus s1 ⟨vs,H1,I1,r1,q1⟩=>hc pins s1 σ H1 vs us Q I1 r1 q1) he pU
def Ce (hc:iJ X (.type T) r) (hg:Gl X x) (hm:X.mg x=none) (hv:bootBuiltins x=some (.type T)) (ha:PA X (e::es) t) (hn:x ≠ "__name__" := by decide) (vA:(x==("__debug__" : Str))=false:=by decide)
  (he:starEach (e::es) X.env=(false,eval e X.env)::starEach es X.env:=by rfl) (pU:(backTo pos (starEach es X.env)).any (·.1)=false:=by rfl):PE X (.Call (.Name x p) (e::es) [] pos) (Ag r t):=by
 intro pins s σ H Q I h;refine Fe (kQ I hg hm hv ?_ hn vA);exact pI (aJ (ha pos pins s σ H _ I h) λus s1 ⟨vs,H1,I1,r1,q1⟩=>hc pins s1 σ H1 vs us Q I1 r1 q1) he pU
end
end L2
namespace HT
open PySem PyProof.Rows
section
open PySem.SeqAt
open PySem.AutoSeq1 (wpAny_loadPart')
open PySem.MeetsSeq PySem.MeetsSeq2 PySem.MeetsSeq3
end
section
variable {prog:Program}{w:World}{A:Around}{E:Value→Shared→Prop}{s:Shared}
def WO{t b:Addr}{vs ws:List Value}{Q:Value→Shared→Prop}(ht:IsTup s.heap t vs.toArray)(hb:IsTup s.heap b ws.toArray)(hv:vs≠[])
  (h1:ws=[]→Q (.ref t) s) (h2:ws≠[]→Q (.ref s.heap.objs.size) { s with heap:=s.heap.push { cls:=.type "tuple",data:=.seq (vs++ws).toArray } })
  (hsz:vs.length+ws.length≤sizeLine):wpAny (model prog w) A (binaryOp .Add (.ref t) (.ref b)) Q E s:=by
 let⟨⟨cls,dd,data,sl⟩,ho,hc,n,hd⟩:=id ht;let⟨⟨ac4,Ah,data2,r6⟩,j9,iy,n2,hd2⟩:=id hb;simp only at hc hd iy hd2;subst hc hd iy hd2;have e:vs.toArray++ws.toArray=(vs++ws).toArray:=by simp
 by_cases hw:ws=[]
 ·exact zK ⟨_,ho,rfl⟩ ⟨_,j9,rfl⟩ Fg seq_tuple_add Fh Fm (Fn _ _)
   (tuple_addW1 t b vs.toArray ws.toArray n n2 dd Ah sl r6 (by simpa using hv) (by simp[hw])) ⟨ho,j9,h1 hw⟩
 ·refine zK ⟨_,ho,rfl⟩ ⟨_,j9,rfl⟩ Fg seq_tuple_add Fh Fm (Fn _ _)
   (tuple_addW2 t b vs.toArray ws.toArray n n2 dd Ah sl r6 (by simpa using hv) (by simpa using hw) (by rw[List.size_toArray,List.size_toArray];exact hsz)) ⟨ho,j9,?_⟩
  rw[e];exact h2 hw
abbrev bh(n d:Nat):Option Int→Nat
 |none=>d
 |some v=>if v<0 then (v+(n:Int)).toNat else min v.toNat n
def Y5(n d:Nat)(hd:d≤n)(o:Option Int):bh n d o≤n:=by
 cases o with
 |none=>exact hd
 |some v =>
  show(if v<0 then (v+(n:Int)).toNat else min v.toNat n)≤n;by_cases hv:v<0
  ·rw[if_pos hv];omega
  ·rw[if_neg hv];exact Nat.min_le_right _ _
def Ks(v:Int)(n d:Nat):(if v<0 then max (v+(n:Int)) 0 else min v (n:Int))=((bh n d (some v):Nat):Int):=by
 show(if v<0 then max (v+(n:Int)) 0 else min v (n:Int))=(((if v<0 then (v+(n:Int)).toNat else min v.toNat n):Nat):Int);by_cases hv:v<0
 ·simp only[if_pos hv];omega
 ·simp only[if_neg hv];omega
def TX(lo hi:Option Int)(n:Nat):Builtin.Slice.sliceAdjust lo hi 1 (n:Int)=(((bh n 0 lo:Nat):Int),((bh n n hi:Nat):Int)):=by
 have h1:¬((1:Int)<0):=by omega
 unfold Builtin.Slice.sliceAdjust;simp only[h1,if_false];refine Prod.ext ?_ ?_
 ·cases lo with
  |none=>rfl
  |some v=>exact Ks v n 0
 ·cases hi with
  |none=>rfl
  |some v=>exact Ks v n n
def TY(i j:Nat):Builtin.Slice.slicePlaces (i:Int) (j:Int) 1=j-i:=by
 unfold Builtin.Slice.slicePlaces;have h1:(1:Int)>0:=by omega
 simp only[h1,if_true,Int.ediv_one];split<;>omega
def Ig{v:Value}{o:Option Int}{Q:Option Int→Shared→Prop}(p:IsPart v o)(h:Q o s):wpAny (model prog w) A (Builtin.Slice.slicePartIndex v) Q E s:=by
 cases p with
 |none=>exact slicePart_none h
 |int i t=>exact slicePart_int h
def Hi{sl:Addr}{vl vu:Value}{lo hi:Option Int}{n:Nat}{Q:Int×Int×Nat→Shared→Prop}(hs:s.heap.IsSliceOf sl vl vu .none)(pl:IsPart vl lo)(pu:IsPart vu hi)
  (h:Q (((bh n 0 lo:Nat):Int),1,bh n n hi-bh n 0 lo) s):wpAny (model prog w) A (Builtin.Slice.sliceApplied (.ref sl) (pure (n:Int))) Q E s:=by
 let⟨os,pV,gH,mF⟩:=id hs;unfold Builtin.Slice.sliceApplied Builtin.Slice.sliceFields;refine aA (aA (wpAny_field pV mF (x:=vl) rfl (aA (wpAny_field pV mF (x:=vu) rfl (aA (wpAny_field pV mF (x:=.none) rfl (aN ?_)))))));refine aA (slicePart_none ?_);show wpAny _ _ (if ((1:Int)==0)=true then _ else _) _ _ s;rw[if_neg (by decide)];refine aA (Ig pl (aA (Ig pu (aA (aN ?_)))));show wpAny _ _ (match Builtin.Slice.sliceAdjust lo hi 1 (n:Int)with | (lo,hi)=>pure (lo,(1:Int),Builtin.Slice.slicePlaces lo hi 1)) _ _ s
 rw[TX lo hi n];show wpAny _ _ (pure (((bh n 0 lo:Nat):Int),(1:Int),Builtin.Slice.slicePlaces ((bh n 0 lo:Nat):Int) ((bh n n hi:Nat):Int) 1)) _ _ s;rw[TY];exact aN h
def Vh(xs:Array Value)(i k:Nat):((List.range k).filterMap λ(m:Nat)=>xs[((i:Int)+(m:Int)*1).toNat]?).toArray=((xs.toList.drop i).take k).toArray:=by
 have e:(λ(m:Nat)=>xs[((i:Int)+(m:Int)*1).toNat]?)=λm=>xs[i+m]?:=by
  funext m;have:((i:Int)+(m:Int)*1).toNat=i+m:=by omega
  rw[this]
 rw[e];have:=pick_run xs i k;rw[List.filterMap_map]at this;have e2:((λx=>xs[x]?)∘λx=>i+x)=λm=>xs[i+m]?:=rfl;rw[e2]at this;rw[this]
def Ta{t sl:Addr}{items:Array Value}{vl vu:Value}{lo hi:Option Int}{Q:Value→Shared→Prop}(ht:IsTup s.heap t items)(hs:s.heap.IsSliceOf sl vl vu .none)(pl:IsPart vl lo)(pu:IsPart vu hi)
  (hw:¬(bh items.size 0 lo=0∧bh items.size items.size hi=items.size))
  (h:Q (.ref s.heap.objs.size) { s with heap:=s.heap.push { cls:=.type "tuple",data:=.seq ((items.toList.drop (bh items.size 0 lo)).take (bh items.size items.size hi-bh items.size 0 lo)).toArray } })
  (hsz:items.size≤sizeLine):wpAny (model prog w) A (getItem (.ref t) (.ref sl)) Q E s:=by
 have yJ:sizeOk (.seq ((items.toList.drop (bh items.size 0 lo)).take (bh items.size items.size hi-bh items.size 0 lo)).toArray):=by
  show((items.toList.drop (bh items.size 0 lo)).take (bh items.size items.size hi-bh items.size 0 lo)).toArray.size≤sizeLine;rw[gu,mw,List.length_drop,nP];omega
 have hj:bh items.size items.size hi≤items.size:=Y5 _ _ (aU _) hi;let⟨os,pV,gH,mF⟩:=id hs;have FK:s.TypeIs (.ref sl) "slice" := ⟨os,pV,gH⟩;unfold getItem
 try with_reducible refine jY ?_
 first|refine aA (aN ?_)|skip
 refine aA (wpAny_sequenceKey ht.typeIs (by decide) ?_);refine aA (zL (name:=Str.ofString "__getitem__") ht.typeIs rK
  (pG rK ht.typeIs entry_tuple_getitem ?_ (args_tuple_getitem _ _)))
 show wpAny _ _ (Builtin.Tuple.tupleItemsOf (.ref t) >>= _) _ _ s;refine aA (tupleItemsOf_ ht ?_);refine aA (wpAny_typeOf FK ?_);rw[if_pos (by decide)];refine aA (Hi hs pl pu ?_);have hno:¬((((bh items.size 0 lo:Nat):Int)==0&&(1:Int)==1&&(bh items.size items.size hi-bh items.size 0 lo)==items.size)=true):=by
  intro q;rw[lq,lq]at q;have q1:((bh items.size 0 lo:Nat):Int)=0:=eq_of_beq q.1.1;have q2:bh items.size items.size hi-bh items.size 0 lo=items.size:=eq_of_beq q.2;exact hw ⟨by omega,by omega⟩
 show wpAny _ _ (if (((bh items.size 0 lo:Nat):Int)==0&&(1:Int)==1&&(bh items.size items.size hi-bh items.size 0 lo)==items.size)=true then _ else _) _ _ s;rw[if_neg hno,Vh]
 first
  |exact aA (m:=Builtin.Tuple.tupleExact _) (nQ (aN ⟨_,rfl,aN h⟩) yJ)
  |exact aA (m:=Builtin.Tuple.tupleExact _) (nQ (aA (aN (aN ⟨_,rfl,aN h⟩))) yJ)
  |exact aA (aA (m:=Builtin.Tuple.tupleExact _) (nQ (aN (aN ⟨_,rfl,aN h⟩)) yJ))
  |exact aA (aA (m:=Builtin.Tuple.tupleExact _) (nQ (aN ⟨_,rfl,aN h⟩) yJ))
end
end HT
namespace L2
open PySem PySem.Spec PyProof.Rows
noncomputable abbrev TO:=St→Hp→(Option Int→Hp→Prop)→Prop
def PO(X:Cx)(e:Option Expr)(t:TO):Prop :=
 ∀(pins:List (Addr×Obj)) (s:Shared) (σ:St) (H:Hp) (Q:Option Int→Hp→Prop),Inv X pins σ H s→t σ H Q →
  wpAny (model X.prog X.w) X.A (evalPart e X.env) (λu s'=>∃o H',Inv X pins σ H' s'∧IsPart u o∧Q o H') X.xe s
abbrev Kt:TO:=λ_ H Q=>Q none H
abbrev Nw(t:TE):TO:=λσ H Q=>t σ H λx H1=>∃i,x=.int i∧Q (some i) H1
section
variable {X:Cx}{e:Expr}{te:TE}{lo hi:Option Expr}{tl th:TO}{pos p2:Pos}
def WQ:PO X none Kt:=by
 intro pins s σ H Q I h;rw[evalPart_none];exact aN ⟨none,H,I,.none,h⟩
def WR(h:PE X e te):PO X (some e) (Nw te):=by
 intro pins s σ H Q I hw;rw[evalPart_some];refine aJ (h pins s σ H _ I hw) λu s1 ⟨x,H1,I1,r1,q1⟩=>?_;let⟨i,rfl,q⟩:=q1;let⟨t,rfl⟩:=r1;exact⟨some i,H1,I1,.int i t,q⟩
def mG(X:Cx)(r:V→Option Int→Option Int→Hp→VK→Prop):Prop :=
 ∀(pins:List (Addr×Obj)) (s:Shared) (σ:St) (H:Hp) (x:V) (v vl vu:Value) (lo hi:Option Int) (sl:Addr) (Q:VK),Inv X pins σ H s→RelV x v→s.heap.IsSliceOf sl vl vu .none→IsPart vl lo→IsPart vu hi→r x lo hi H Q →
  ∃T id,typeLookup (.type T) "__getitem__" = pure (some (.builtin id))∧s.TypeIs v T∧wpAny (model X.prog X.w) X.A (getItem v (.ref sl)) (EP X pins σ Q) X.xe s
abbrev Qj(r:V→Option Int→Option Int→Hp→VK→Prop)(te:TE)(tl th:TO):TE:=λσ H Q=>te σ H λx H1=>tl σ H1 λl H2=>th σ H2 λu H3=>r x l u H3 Q
def Vi{r:V→Option Int→Option Int→Hp→VK→Prop}(hr:mG X r)(he:PE X e te)(hl:PO X lo tl)(hu:PO X hi th):PE X (.Subscript e (.Slice lo hi none p2) pos) (Qj r te tl th):=by
 intro pins s σ H Q I h;refine Subscript_ (aJ (he pins s σ H _ I h) λv s1 ⟨x,H1,I1,r1,q1⟩=>?_);refine wpAny_Slice (aJ (hl pins s1 σ H1 _ I1 q1) λvl s2 ⟨l,H2,I2,pl,q2⟩=>aJ (hu pins s2 σ H2 _ I2 q2) λvu s3 ⟨u,H3,I3,pu,q3⟩=>?_);rw[evalPart_none];refine aN ?_;have I4:Inv X pins σ H3 { s3 with heap:=s3.heap.push { cls:=.type "slice",data:=.fields #[vl,vu,.none] } }:=I3.kept (t':=s3.toks) λb ob q=>cw _ q;let⟨T,id,hT,ht,hg⟩:=hr pins { s3 with heap:=s3.heap.push { cls:=.type "slice",data:=.fields #[vl,vu,.none] } } σ H3 x v vl vu l u s3.heap.objs.size Q I4 r1 (Heap.IsSliceOf.new ..) pl pu q3;show wpAny (model X.prog X.w) X.A (subscriptTail e (.Slice lo hi none p2) v (.ref s3.heap.objs.size)) (EP X pins σ Q) X.xe { s3 with heap:=s3.heap.push { cls:=.type "slice",data:=.fields #[vl,vu,.none] } };exact tail_any (ops:=[.ref s3.heap.objs.size,v]) ht hT hg (by with_unfolding_all rfl)
def jP(xs:List V)(lo hi:Option Int):List V:=(xs.drop (HT.bh xs.length 0 lo)).take (HT.bh xs.length xs.length hi-HT.bh xs.length 0 lo)
def HQ(xs:List V)(lo hi:Option Int):(jP xs lo hi).length≤xs.length:=by
 unfold jP;rw[mw,List.length_drop];omega
def ac5(K:PySem.W.Frag):V→Option Int→Option Int→Hp→VK→Prop:=λx lo hi H Q=>∃a xs,x=.ref a∧bC K H a xs ∧
 ¬(HT.bh xs.length 0 lo=0∧HT.bh xs.length xs.length hi=xs.length)∧∀p,H p=none→Q (.ref p) (upd H p (.tup (jP xs lo hi)))
def Y6:mG X (ac5 X.K):=by
 intro pins s σ H x v vl vu lo hi sl Q I rx hs pl pu h;let⟨a,xs,rfl,hx,hw,q⟩:=h;cases rx;let⟨its,r,ht,hz⟩:=I.tuple hx;have hlen:its.toArray.size=xs.length:=by rw[gu];exact r.length.symm
 refine⟨"tuple",_,rK.lookup,ht.typeIs,?_⟩;refine HT.Ta ht hs pl pu (by rw[hlen];exact hw) ?_ (by rw[hlen];exact hz);rw[hlen];refine⟨.ref s.heap.objs.size,_,I.laid (t':=s.toks) (o:=.tup (jP xs lo hi)) (λb ob q=>cw _ q) (aU _) ?_,rfl,q _ (I.aH.fresh (aU _))⟩;exact⟨dC (HQ xs lo hi) hz,_,(r.drop (HT.bh xs.length 0 lo)).take (HT.bh xs.length xs.length hi-HT.bh xs.length 0 lo),oR.new _ _⟩
def abn(K:PySem.W.Frag):R2:=λx y H Q=>∃a b xs ys,x=.ref a∧y=.ref b∧bC K H a xs∧bC K H b ys∧xs≠[]∧xs.length+ys.length≤sizeLine ∧
 (ys=[]→Q (.ref a) H)∧(ys≠[]→∀p,H p=none→Q (.ref p) (upd H p (.tup (xs++ys))))
def Vals.CG{xs:List V}{us:List Value}(r:Vals xs us):us=[]↔xs=[]:=by
 cases r with
 |nil=>simp
 |cons _ _=>simp
def WT:bM X (binaryOp .Add) (abn X.K):=by
 intro pins s σ H x y v u Q I rx ry h;let⟨a,b,xs,ys,rfl,rfl,ha,hb,hx,hz,q1,q2⟩:=h;cases rx;cases ry;let⟨its,r1,p1,_⟩:=I.tuple ha;let⟨uO,r2,p2,_⟩:=I.tuple hb;refine HT.WO p1 p2 (λz=>hx (r1.CG.mp z)) (λz=>⟨.ref a,H,I,rfl,q1 (r2.CG.mp z)⟩) (λz=>?_) (by rw[←r1.length,←r2.length];exact hz);refine⟨.ref s.heap.objs.size,_,I.laid (t':=s.toks) (o:=.tup (xs++ys)) (λb ob q=>cw _ q) (aU _) ?_,rfl,q2 (λw=>z (r2.CG.mpr w)) _ (I.aH.fresh (aU _))⟩;exact⟨by rw[fw];exact hz,_,r1.append r2,oR.new _ _⟩
end
abbrev dR(n:Nat)(i:Int):Option Nat:=if 0≤i then (if i<n then some i.toNat else none)else if -(n:Int)≤i then some (i+n).toNat else none
def bz{α:Type}(xs:List α)(i:Int):Option α:=(dR xs.length i).bind λj=>xs[j]?
def Ku{n:Nat}{i:Int}{j:Nat}(h:dR n i=some j):seqIndex? i n=some j∧j<n∧-(n:Int)≤i∧i<n:=by
 unfold dR at h;by_cases h0:0≤i
 ·rw[if_pos h0]at h;by_cases h1:i<n
  ·rw[if_pos h1]at h;have e:i.toNat=j:=dP h;exact⟨by rw[seqIndex_of h0 h1,e],by omega,by omega,h1⟩
  ·rw[if_neg h1]at h;cases h
 ·rw[if_neg h0]at h;by_cases h1:-(n:Int)≤i
  ·rw[if_pos h1]at h;have e:(i+n).toNat=j:=dP h;exact⟨by rw[seqIndex_neg (by omega) h1,e],by omega,h1,by omega⟩
  ·rw[if_neg h1]at h;cases h
def iZ{α:Type}{xs:List α}{i:Int}{v:α}(h:bz xs i=some v):∃j,seqIndex? i xs.length=some j∧xs[j]?=some v∧j<xs.length∧-(xs.length:Int)≤i∧i<xs.length:=by
 unfold bz at h;cases e:dR xs.length i with
 |none=>rw[e]at h;cases h
 |some j =>
  rw[e]at h;let⟨h1,h2,h3,h4⟩:=Ku e;exact⟨j,h1,h,h2,h3,h4⟩
def kE{α:Type}{xs:List α}{j:Nat}{v:α}(h:xs[j]?=some v):bz xs (j:Int)=some v:=by
 have hj:j<xs.length:=(bp.mp h).1;have e:dR xs.length (j:Int)=some j:=by
  unfold dR;rw[if_pos (by omega),if_pos (by omega)];simp
 unfold bz;rw[e];exact h
def Kv(b:Expr):Prop:=∀o i,subscripted b false o i=operate [o,i] (getItem o i)
def lB(X:Cx)(r:R2):Prop :=
 ∀(value slice:Expr) (pins:List (Addr×Obj)) (s:Shared) (σ:St) (H:Hp) (x y:V) (v u:Value) (Q:VK),Inv X pins σ H s→RelV x v→RelV y u→r x y H Q →
  subscripted slice false v u=operate [v,u] (getItem v u)→wpAny (model X.prog X.w) X.A (subscriptTail value slice v u) (EP X pins σ Q) X.xe s
def FL(X:Cx)(id:String)(r:V→List V→Hp→VK→Prop):Prop :=
 ∀(pins:List (Addr×Obj)) (s:Shared) (σ:St) (H:Hp) (x:V) (xs:List V) (v:Value) (us:List Value) (Q:VK),Inv X pins σ H s→RelV x v→Vals xs us→r x xs H Q →
  wpAny (model X.prog X.w) X.A (call (.builtin id) (v::us)) (EP X pins σ Q) X.xe s
section
variable {X:Cx}{a b:Expr}{ta tb:TE}{pos:Pos}
def lB.or{r r':R2}(h:lB X r)(h':lB X r'):lB X (λx y H Q=>r x y H Q∨r' x y H Q):=by
 intro value slice pins s σ H x y v u Q I rx ry q hs;rcases q with q|q
 ·exact h value slice pins s σ H x y v u Q I rx ry q hs
 ·exact h' value slice pins s σ H x y v u Q I rx ry q hs
def yK{r:R2}(hr:lB X r)(ha:PE X a ta)(hb:PE X b tb)(hs:Kv b):PE X (.Subscript a b pos) (nW r ta tb):=by
 intro pins s σ H Q I h;exact Subscript_ (D9 ha hb I h λv u s2 x y H2 I2 rx ry q=>hr a b pins s2 σ H2 x y v u Q I2 rx ry q (hs _ _))
def Oq(K:PySem.W.Frag):R2:=λx y H Q=>∃p xs i v,x=.ref p∧y=.int i∧b0 K H p xs∧bz xs i=some v∧Q v H
def Ot(K:PySem.W.Frag):R2:=λx y H Q=>∃p xs i v,x=.ref p∧y=.int i∧bC K H p xs∧bz xs i=some v∧Q v H
def Ou:R2:=λx y H Q=>∃z i c,x=.str z∧y=.int i∧z.length≤sizeLine∧bz z.cps.toList i=some c∧Q (.str ⟨#[c]⟩) H
def WU:lB X (Oq X.K):=by
 intro value slice pins s σ H x y v u Q I rx ry h hs;let⟨p,xs,i,z,rfl,rfl,hq,he,q⟩:=h;cases rx;let⟨t,rfl⟩:=ry;let⟨its,r,pl,hz⟩:=I.list hq;let⟨j,h1,h2,h3,h4,h5⟩:=iZ he;let⟨w,ew,kc⟩:=r.get h2;have hl:=r.length;have hn:=qA;have fin:EP X pins σ Q w s:=⟨z,H,I,kc,q⟩;by_cases h0:0≤i
 ·have hj:i.toNat=j:=by
   rw[seqIndex_of h0 h5]at h1;exact dP h1
  exact item_listR pl.isList h0 (by omega) (by rw[hj];simpa using ew) fin hs
 ·have hj:(i+(its.toArray.size:Int)).toNat=j:=by
   rw[seqIndex_neg (by omega) h4]at h1;rw[gu,←hl];exact dP h1
  exact subscriptTail_builtinR (x:=w) pl.isList.typeIs slot_list_getitem.lookup
   (wpAny_getItem_list_neg (Q:=λr s'=>r=w∧EP X pins σ Q r s') pl.isList (by omega) (by rw[gu]<;>omega) (by omega) (by rw[hj];simpa using ew) ⟨rfl,fin⟩) hs
def Y7:lB X (Ot X.K):=by
 intro value slice pins s σ H x y v u Q I rx ry h hs;let⟨p,xs,i,z,rfl,rfl,hq,he,q⟩:=h;cases rx;let⟨t,rfl⟩:=ry;let⟨its,r,pl,hz⟩:=I.tuple hq;let⟨j,h1,h2,h3,h4,h5⟩:=iZ he;let⟨w,ew,kc⟩:=r.get h2;have hl:=r.length;have hn:=qA;have fin:EP X pins σ Q w s:=⟨z,H,I,kc,q⟩;exact subscriptTail_builtinR (x:=w) pl.typeIs slot_tuple_getitem.lookup
  (getItem_tuple (j:=j) (Q:=λr s'=>r=w∧EP X pins σ Q r s') pl (by omega) (by omega) (by rw[gu,←hl];exact h1) (by simpa using ew) ⟨rfl,fin⟩) hs
def Y8:lB X Ou:=by
 intro value slice pins s σ H x y v u Q I rx ry h hs;let⟨z,i,c,rfl,rfl,hz,he,q⟩:=h;let⟨t,rfl⟩:=rx;let⟨t',rfl⟩:=ry;let⟨j,h1,h2,h3,h4,h5⟩:=iZ he;have hl:z.cps.toList.length=z.length:=by simp[Str.length]
 rw[hl]at h1 h4 h5;have hn:=qA;exact tail_any (typeIs_str s z t) slot_str_getitem.lookup (getItem_str (c:=c) (by
  have e1:decide (i < -(2^63:Int))=false:=fI (by omega);have e2:decide (i≥2^63)=false:=fI (by omega);rw[e1,e2,zM]) (by rw[h1];simpa using h2) ⟨.str ⟨#[c]⟩,H,I.tok _,⟨_,rfl⟩,q⟩) hs
def r9(K:PySem.W.Frag):R2:=λx y H Q=>Oq K x y H Q∨Ot K x y H Q∨Ou x y H Q
def Y9:lB X (r9 X.K):=WU.or (Y7.or Y8)
def T4(its:List Value)(n j:Nat)(u:Value):Obj.mapSeq (·.setIfInBounds j u) { cls:=.type "list",data:=.seq its.toArray n }={ cls:=.type "list",data:=.seq (its.set j u).toArray n }:=by
 simp[Obj.mapSeq]
theorem Inv.lst{pins:List (Addr×Obj)}{σ:St}{H:Hp}{s:Shared}{p:Addr}{xs:List V}(I:Inv X pins σ H s)(h:H p=some (.lst xs)) :
  ∃(its:List Value) (n:Nat),Vals xs its∧s.heap.get? p=some { cls:=.type "list",data:=.seq its.toArray n }∧xs.length≤sizeLine:=by
 let⟨z,its,n,r,e⟩:=I.aH p _ h;exact⟨its,n,r,e,z⟩
def Inv.Za{pins:List (Addr×Obj)}{σ:St}{H:Hp}{s:Shared}{p:Addr}{xs ys:List V}{its its':List Value}{n n':Nat}{f:Obj→Obj}(I:Inv X pins σ H s)(h:H p=some (.lst xs))
  (ho:s.heap.get? p=some { cls:=.type "list",data:=.seq its.toArray n }) (hf:f { cls:=.type "list",data:=.seq its.toArray n }={ cls:=.type "list",data:=.seq its'.toArray n' }) (r:Vals ys its') (hz:ys.length≤sizeLine) (t:Nat) :
  Inv X pins σ (upd H p (.lst ys)) { s with heap:=s.heap.update p f,toks:=t }:=by
 have e:(s.heap.update p f).get? p=some { cls:=.type "list",data:=.seq its'.toArray n' }:=by
  rw[Heap.get?_update_self f ho (by rw[hf]<;>rfl),hf]
 refine I.write (x:=p) (e:=p) (by rw[h];trivial) (.inl rfl) (λb u hb q=>(Heap.get?_update_other _ _ (ll hb)).trans q) ⟨_,e⟩ ?_;exact⟨hz,its',n',r,e⟩
def Nx:V→V→V→Hp→(Hp→Prop)→Prop:=λo i v H Q=>∃p xs k j,o=.ref p∧i=.int k∧H p=some (.lst xs)∧dR xs.length k=some j∧Q (upd H p (.lst (xs.set j v)))
def set_list:Om X Nx:=by
 intro pins s σ H o i v ov iv u Q I ro ri rv h;let⟨p,xs,k,j,rfl,rfl,hp,hj,q⟩:=h;cases ro;let⟨t,rfl⟩:=ri;let⟨its,n,r,ho,hz⟩:=I.lst hp;let⟨h1,h2,h3,h4⟩:=Ku hj;have hl:=r.length;have hn:=qA;have I':Inv X pins σ (upd H p (.lst (xs.set j v))) { s with heap:=s.heap.update p (Obj.mapSeq (·.setIfInBounds j u)) } :=
  I.Za hp ho (T4 its n j u) (r.set rv j) (by rw[fZ];exact hz) s.toks
 by_cases h0:0≤k
 ·have hk:k.toNat=j:=by
   rw[seqIndex_of h0 h4]at h1;exact dP h1
  exact PySem.W.ki_setAt ho h0 (by omega) (by rw[gu,←hl];exact h4) (by rw[hk];exact⟨_,I',q⟩)
 ·have hk:(k+(its.toArray.size:Int)).toNat=j:=by
   rw[seqIndex_neg (by omega) h3]at h1;rw[gu,←hl];exact dP h1
  exact PySem.W.ki_setBack ho (by omega) (by rw[gu,←hl];exact h3) (by omega) (by rw[hk];exact⟨_,I',q⟩)
def Tj(lo hi:Option Int)(n:Nat):(sliceBounds lo hi none n).1=((HT.bh n 0 lo:Nat):Int)∧(sliceBounds lo hi none n).2.1=((HT.bh n n hi:Nat):Int)∧(sliceBounds lo hi none n).2.2=1:=by
 refine⟨?_,?_,rfl⟩
 ·cases lo with
  |none=>simp[sliceBounds,HT.bh]
  |some i =>
   simp only[sliceBounds,HT.bh,Option.getD_none,show(1:Int)>0 by decide,if_true];by_cases h:i<0
   ·simp only[h,if_true]<;>omega
   ·simp only[h,if_false]<;>omega
 ·cases hi with
  |none=>simp[sliceBounds,HT.bh]
  |some i =>
   simp only[sliceBounds,HT.bh,Option.getD_none,show(1:Int)>0 by decide,if_true];by_cases h:i<0
   ·simp only[h,if_true]<;>omega
   ·simp only[h,if_false]<;>omega
def Te(its:List Value)(lo hi:Option Int):slicePick its.toArray lo hi none=((its.drop (HT.bh its.length 0 lo)).take (HT.bh its.length its.length hi-HT.bh its.length 0 lo)).toArray:=by
 let⟨h1,h2,h3⟩:=Tj lo hi its.toArray.size;unfold slicePick;rw[h1,h2,h3];simp only[sliceRange_one,pick_run,List.size_toArray]<;>rfl
def Ee(K:PySem.W.Frag):V→Option Int→Option Int→Hp→VK→Prop:=λx lo hi H Q=>∃a xs,x=.ref a∧b0 K H a xs∧∀p,H p=none→Q (.ref p) (upd H p (.lst (jP xs lo hi)))
def WV:mG X (Ee X.K):=by
 intro pins s σ H x v vl vu lo hi sl Q I rx hs pl pu h;let⟨a,xs,rfl,hx,q⟩:=h;cases rx;let⟨its,r,ht,hz⟩:=I.list hx;have hlen:=r.length;refine⟨"list",_,slot_list_getitem.lookup,ht.isList.typeIs,?_⟩;refine wpAny_getItem_list_slice ht.isList hs pl pu .none (by simp) ?_ (by rw[List.size_toArray]<;>omega);rw[Te,←hlen];refine⟨.ref s.heap.objs.size,_,I.laid (t':=s.toks) (o:=.lst (jP xs lo hi)) (λb ob q=>cw _ q) (aU _) ?_,rfl,q _ (I.aH.fresh (aU _))⟩;exact⟨dC (HQ xs lo hi) hz,_,0,(r.drop (HT.bh xs.length 0 lo)).take (HT.bh xs.length xs.length hi-HT.bh xs.length 0 lo),gq _ rfl⟩
abbrev kU:V→Bool
 |.non=>true
 |.bl _=>true
 |.int _=>true
 |.str _=>true
 |_=>false
abbrev kf:V→V→Bool
 |.non,.non=>true
 |.bl a,.bl b=>a==b
 |.bl a,.int b=>(if a then 1 else 0)==b
 |.int a,.bl b=>a==(if b then 1 else 0)
 |.int a,.int b=>a==b
 |.str a,.str b=>a==b
 |_,_=>false
def Zb{A:Around}{s:Shared}{y x:V}{u v:Value}(ry:RelV y u)(rx:RelV x v)(fy:kU y=true)(fx:kU x=true):SeqAt.EqAt A s u v (kf y x):=by
 cases y with
 |non =>
  cases ry;cases x with
  |non=>cases rx;exact u9 _
  |bl b=>cases rx;exact SeqAt.EqAt.none_bool b
  |int b=>let⟨t,rfl⟩:=rx;exact E9 b t
  |str b=>let⟨t,rfl⟩:=rx;exact Fc b t
  |_=>exact absurd (show false=true from fx) bw
 |bl a =>
  cases ry;cases x with
  |non=>cases rx;exact SeqAt.EqAt.bool_none a
  |bl b=>cases rx;exact SeqAt.EqAt.bool_bool a b
  |int b=>let⟨t,rfl⟩:=rx;exact SeqAt.EqAt.bool_int a b t
  |str b=>let⟨t,rfl⟩:=rx;exact SeqAt.EqAt.bool_str a b t
  |_=>exact absurd (show false=true from fx) bw
 |int a =>
  let⟨t',rfl⟩:=ry;cases x with
  |non=>cases rx;exact E6 a t'
  |bl b=>cases rx;exact SeqAt.EqAt.int_bool a t' b
  |int b=>let⟨t,rfl⟩:=rx;exact SeqAt.EqAt.int_int a t' b t
  |str b=>let⟨t,rfl⟩:=rx;exact E5 a t' b t
  |_=>exact absurd (show false=true from fx) bw
 |str a =>
  let⟨t',rfl⟩:=ry;cases x with
  |non=>cases rx;exact E8 a t'
  |bl b=>cases rx;exact SeqAt.EqAt.str_bool a t' b
  |int b=>let⟨t,rfl⟩:=rx;exact E7 a t' b t
  |str b=>let⟨t,rfl⟩:=rx;exact SeqAt.EqAt.str_str a t' b t
  |_=>exact absurd (show false=true from fx) bw
 |_=>exact absurd (show false=true from fy) bw
def gY(x:V)(u:Value):Bool:=match u with
 |.none=>kf .non x
 |.bool b=>kf (.bl b) x
 |.int i _=>kf (.int i) x
 |.str z _=>kf (.str z) x
 |_=>false
def L3{x y:V}{u:Value}(r:RelV y u)(f:kU y=true):gY x u=kf y x:=by
 cases y with
 |non=>cases r;rfl
 |bl b=>cases r;rfl
 |int i=>let⟨t,rfl⟩:=r;rfl
 |str z=>let⟨t,rfl⟩:=r;rfl
 |_=>exact absurd (show false=true from f) bw
theorem tY{x:V}:∀{xs:List V}{us:List Value},Vals xs us→xs.all kU=true→us.any (gY x)=xs.any λy=>kf y x
 |_,_,.nil,_=>rfl
 |y::xs,u::us,.cons r t,f=>by
  rw[pM,lq]at f;rw[pN,pN,L3 r f.1,tY t f.2]
theorem tQ{A:Around}{s:Shared}{x:V}{v:Value}(rx:RelV x v)(fx:kU x=true):∀{xs:List V}{us:List Value},Vals xs us→xs.all kU=true→∀u∈us,SeqAt.EqAt A s u v (gY x u)
 |_,_,.nil,_=>λu hu=>by cases hu
 |y::xs,u::us,.cons r t,f=>λu' hu=>by
  rw[pM,lq]at f;rcases dQ.mp hu with rfl|hu
  ·rw[L3 r f.1];exact Zb r rx f.1 fx
  ·exact tQ rx fx t f.2 u' hu
def dS(x:V)(xs:List V):Bool:=xs.any λy=>kf y x
def vC(K:PySem.W.Frag)(neg:Bool):R2:=λx y H Q=>∃p xs,y=.ref p∧(b0 K H p xs∨bC K H p xs)∧kU x=true∧xs.all kU=true∧Q (.bl (if neg then !dS x xs else dS x xs)) H
def Uv:bM X (compareOp .In) (vC X.K false):=by
 intro pins s σ H x y v u Q I rx ry h;let⟨p,xs,rfl,hq,fx,fs,q⟩:=h;cases ry;rcases hq with hq|hq
 ·let⟨its,r,pl,hz⟩:=I.list hq;refine SeqAt.in_listAt (gY x) pl.isList (λw hw=>tQ rx fx r fs w (by simpa using hw)) ⟨.bl _,H,I,rfl,?_⟩;rw[show its.toArray.any (gY x)=its.any (gY x) by simp,tY r fs];exact q
 ·let⟨its,r,pl,hz⟩:=I.tuple hq;refine SeqAt.in_tupleAt (gY x) pl (λw hw=>tQ rx fx r fs w (by simpa using hw)) ⟨.bl _,H,I,rfl,?_⟩;rw[show its.toArray.any (gY x)=its.any (gY x) by simp,tY r fs];exact q
def Tn:bM X (compareOp .NotIn) (vC X.K true):=by
 intro pins s σ H x y v u Q I rx ry h;let⟨p,xs,rfl,hq,fx,fs,q⟩:=h;cases ry;rcases hq with hq|hq
 ·let⟨its,r,pl,hz⟩:=I.list hq;refine SeqAt.notIn_listAt (gY x) pl.isList (λw hw=>tQ rx fx r fs w (by simpa using hw)) ⟨.bl _,H,I,rfl,?_⟩;rw[show its.toArray.any (gY x)=its.any (gY x) by simp,tY r fs];exact q
 ·let⟨its,r,pl,hz⟩:=I.tuple hq;refine SeqAt.notIn_tupleAt (gY x) pl (λw hw=>tQ rx fx r fs w (by simpa using hw)) ⟨.bl _,H,I,rfl,?_⟩;rw[show its.toArray.any (gY x)=its.any (gY x) by simp,tY r fs];exact q
def Tp:iJ X (.type "list") (λxs H Q=>∃p ys,xs=[.ref p]∧(b0 X.K H p ys∨bC X.K H p ys)∧∀l,H l=none→Q (.ref l) (upd H l (.lst ys))):=by
 intro pins s σ H xs us Q I r h;let⟨p,ys,rfl,hq,q⟩:=h;let⟨u,rfl,rx⟩:=vals1 r;cases rx;have fin:∀(its:List Value),Vals ys its→ys.length≤sizeLine→∀(h':Heap) (c':Nat),(∀b o',s.heap.get? b=some o'→h'.get? b=some o') →
   h'.get? s.heap.objs.size=some { cls:=.type "list",dict:=none,data:=.seq its.toArray c',slots:=#[] }→EP X pins σ Q (.ref s.heap.objs.size) { s with heap:=h' }:=λits r' hz h' c' kp e =>
  ⟨.ref s.heap.objs.size,_,I.laid (t':=s.toks) kp (aU _) (show cB X.prog X.w _ h' _ (.lst ys) from⟨hz,its,c',r',e⟩),rfl,q _ (I.aH.fresh (aU _))⟩
 rcases hq with hq|hq
 ·let⟨its,r',pl,hz⟩:=I.list hq;have hlen:=r'.length;let⟨o,ho,hc,n,hd⟩:=pl.isList;exact call_list_seq p (.inl rfl) ho hc hd (λh' c' kp e=>fin its r' hz h' c' kp e) (by simp only[List.size_toArray]<;>omega)
 ·let⟨its,r',pl,hz⟩:=I.tuple hq;have hlen:=r'.length;let⟨o,ho,hc,n,hd⟩:=pl;exact call_list_seq p (.inr rfl) ho hc hd (λh' c' kp e=>fin its r' hz h' c' kp e) (by simp only[List.size_toArray]<;>omega)
def FN(K:PySem.W.Frag)(T:String)(x:V)(H:Hp):Prop:=match x with
 |.str _=>T = "str"
 |.int _=>T = "int"
 |.ref p=>(T = "list" ∧ ∃xs,b0 K H p xs)∨(T = "tuple" ∧ ∃o,K.lookup p=some o∧o.cls=.type "tuple" ∧ o.dict=none) ∨
  (T = "dict" ∧ ((∃aj,H p=some (.dK aj))∨∃aj,H p=some (.dT aj)))∨(T = "set" ∧ ∃S n,H p=some (.set S n))
 |_=>False
def L4{pins:List (Addr×Obj)}{σ:St}{H:Hp}{s:Shared}{T:String}{x:V}{v:Value}(I:Inv X pins σ H s)(r:RelV x v)(ty:FN X.K T x H) :
  s.TypeIs v T∧∀a,v=.ref a→∃ob,s.heap.get? a=some ob∧ob.dict=none:=by
 cases x with
 |str z =>
  let⟨t,rfl⟩:=r;cases (show T = "str" from ty);exact⟨typeIs_str s z t,λ_ e=>nomatch e⟩
 |int i =>
  let⟨t,rfl⟩:=r;cases (show T = "int" from ty);exact⟨typeIs_int s i t,λ_ e=>nomatch e⟩
 |ref p =>
  cases r;rcases ty with⟨rfl,xs,hq⟩|⟨rfl,o,hk,hc,hd⟩|⟨rfl,hk⟩|⟨rfl,S,n,hk⟩
  ·let⟨its,_,pl,_⟩:=I.list hq;refine⟨pl.isList.typeIs,λa e=>?_⟩;cases e;let⟨o,n,e,c,hd,_⟩:=pl;exact⟨o,e,hd⟩
  ·refine⟨⟨o,I.iu p o hk,hc⟩,λa e=>?_⟩;cases e;exact⟨o,I.iu _ o hk,hd⟩
  ·have z:∃o,s.heap.get? p=some o∧o.ExactDict:=by
    rcases hk with⟨aj,hk⟩|⟨aj,hk⟩
    ·let⟨_,_,_,_,o,_,_,e,ex,_⟩:=I.aH p _ hk;exact⟨o,e,ex⟩
    ·let⟨_,_,_,_,o,_,_,e,ex,_⟩:=I.aH p _ hk;exact⟨o,e,ex⟩
   let⟨o,e,ex⟩:=z;refine⟨⟨o,e,ex.1⟩,λa e2=>?_⟩;cases e2;exact⟨o,e,ex.2.1⟩
  ·let⟨o,_,_,_,e,ex,_⟩:=I.aH p _ hk;refine⟨⟨o,e,ex.1⟩,λa e2=>?_⟩;cases e2;exact⟨o,e,ex.2.1⟩
 |_=>exact False.elim ty
abbrev zg(K:PySem.W.Frag)(T:String)(r:V→List V→Hp→VK→Prop)(to:TE):TE:=λσ H Q=>to σ H λx H1=>FN K T x H1∧r x [] H1 Q
abbrev vD(K:PySem.W.Frag)(T:String)(r:V→List V→Hp→VK→Prop)(to:TE)(t:TA):TE:=λσ H Q=>to σ H λx H1=>FN K T x H1∧t σ H1 λxs H2=>r x xs H2 Q
variable {o e:Expr}{es:List Expr}{to:TE}{t:TA}{name:Str}{apos di:Pos}{T id:String}{r:V→List V→Hp→VK→Prop}
def Zc (pa:PlainAttrs T) (slot:Slot T name id) (lC:typeOf (.builtin id)=pure (.type "method_descriptor")) (hm:FL X id r) (ho:PE X o to)
  (DI:attributeBase o name X.env (eval o X.env)=eval o X.env:=by rfl) (hline:(apos.endLine==di.line)=true:=by rfl):PE X (.Call (.Attribute o name apos) [] [] di) (zg X.K T r to):=by
 intro pins s σ H Q I h;refine wpAny_Call_method0_late DI hline (aJ (ho pins s σ H _ I h) λv s1 ⟨x,H1,I1,r1,ty,q1⟩=>?_);let⟨h1,h2⟩:=L4 I1 r1 ty;exact⟨T,id,pa,slot,lC,h1,h2,Fo rfl (PySem.evalArgs_none (hm pins s1 σ H1 x [] v [] Q I1 r1 .nil q1))⟩
def abo (pa:PlainAttrs T) (slot:Slot T name id) (lC:typeOf (.builtin id)=pure (.type "method_descriptor")) (hm:FL X id r) (ho:PE X o to) (ha:PA X (e::es) t)
  (DI:attributeBase o name X.env (eval o X.env)=eval o X.env:=by rfl)
  (ac6:((backTo di (starEach (e::es) X.env)).all (λx=>!x.1)&&(backToKw di (keywordEach [] X.env)).all (λx=>x.1.isSome)
   && decide ((e::es).length+([]:List Keyword).length+(if ([]:List Keyword).isEmpty then 0 else 1)<30))=true:=by rfl)
  (hline:(apos.endLine==di.line)=true:=by rfl) (hs:starEach (e::es) X.env=(false,eval e X.env)::starEach es X.env:=by rfl) (Zd:(backTo di (starEach es X.env)).any (·.1)=false:=by rfl) :
  PE X (.Call (.Attribute o name apos) (e::es) [] di) (vD X.K T r to t):=by
 intro pins s σ H Q I h;refine wpAny_Call_method_late DI ac6 hline rfl (aJ (ho pins s σ H _ I h) λv s1 ⟨x,H1,I1,r1,ty,q1⟩=>?_);let⟨h1,h2⟩:=L4 I1 r1 ty;refine⟨T,id,pa,slot,lC,h1,h2,?_⟩;have hA:=ha di pins s1 σ H1 _ I1 q1;rw[hs]at hA ⊢;refine Fo (by show(false||(backTo di (starEach es X.env)).any (·.1))=false;rw[Zd]<;>rfl) (Calls.evalArgs_plain ?_);exact aJ hA λus s2 ⟨vs,H2,I2,r2,q2⟩=>hm pins s2 σ H2 x vs v us Q I2 r1 r2 q2
end
def FP(X:Cx)(id:String)(r:V→List V→Hp→VK→Prop):Prop :=
 ∀(pins:List (Addr×Obj)) (s:Shared) (σ:St) (H:Hp) (x:V) (xs:List V) (v:Value) (us:List Value) (Q:VK),Inv X pins σ H s→RelV x v→Vals xs us→r x xs H Q →
  wpAny (model X.prog X.w) X.A (call (.builtin id) (v::us)) (EP X pins σ Q) X.xe s
def Vals.zero{us:List Value}(h:Vals [] us):us=[]:=by cases h;rfl
def Vals.one{x:V}{us:List Value}(h:Vals [x] us):∃u,us=[u]∧RelV x u:=by
 cases h with|cons r t=>cases t;exact⟨_,rfl,r⟩
def Vals.two{x y:V}{us:List Value}(h:Vals [x,y] us):∃u v,us=[u,v]∧RelV x u∧RelV y v:=by
 cases h with|cons r t=>let⟨v,rfl,q⟩:=Vals.one t;exact⟨_,_,rfl,r,q⟩
theorem Vals.dropLast{xs:List V}{us:List Value}(h:Vals xs us):Vals xs.dropLast us.dropLast:=by
 induction h with
 |nil=>exact .nil
 |cons r t ih =>
  cases t with
  |nil=>exact .nil
  |cons q t'=>exact .cons r ih
theorem Vals.reverse{xs:List V}{us:List Value}(h:Vals xs us):Vals xs.reverse us.reverse:=by
 induction h with
 |nil=>exact .nil
 |cons r t ih=>rw[zN,zN];exact Vals.append ih (.cons r .nil)
theorem Vals.rep{xs:List V}{us:List Value}(h:Vals xs us):∀k:Nat,Vals (List.replicate k xs).flatten (List.replicate k us).flatten
 |0=>.nil
 |k+1=>by
  rw[zO,zO,zP,zP];exact Vals.append h (Vals.rep h k)
def T5{α:Type}(l:List α):l.eraseIdx (l.length-1)=l.dropLast:=by
 induction l with
 |nil=>rfl
 |cons a r ih =>
  cases r with
  |nil=>rfl
  |cons b r =>
   have e:(a::b::r).length-1=((b::r).length-1)+1:=by
    have h1:(a::b::r).length=r.length+2:=rfl;have h2:(b::r).length=r.length+1:=rfl;omega
   rw[e,List.eraseIdx_cons_succ,ih]
   all_goals rfl
section
variable {X:Cx}{pins:List (Addr×Obj)}{σ:St}{H:Hp}{s:Shared}{l b:Addr}{xs ys zs:List V}
def Inv.Ef{its its':List Value}{n:Nat}{f:Array Value→Array Value}{t':Nat}(I:Inv X pins σ H s)(hH:H l=some (.lst xs))
  (e:s.heap.get? l=some { cls:=.type "list",data:=.seq its.toArray n }) (hf:f its.toArray=its'.toArray) (hv:Vals ys its') (hz:ys.length≤sizeLine) :
  Inv X pins σ (upd H l (.lst ys)) { s with heap:=s.heap.update l (Obj.mapSeq f),toks:=t' }:=by
 have q:=PySem.IsL.update e f;rw[hf]at q;refine I.write (x:=l) (e:=l) (by rw[hH];exact trivial) (.inl rfl) (λb' u hb hu=>(Heap.get?_update_other s.heap (Obj.mapSeq f) (ll hb)).trans hu) ⟨_,q⟩ ?_;exact⟨hz,its',_,hv,q⟩
def Inv.ac7{its:List Value}{t':Nat}(I:Inv X pins σ H s)(hv:Vals ys its)(hz:ys.length≤sizeLine) :
  Inv X pins σ (upd H s.heap.objs.size (.lst ys)) { s with heap:=s.heap.push { cls:=.type "list",data:=.seq its.toArray },toks:=t' } :=
 I.laid (λ_ _ q=>cw _ q) (aU _) ⟨hz,its,0,hv,gq _ rfl⟩
theorem Inv.fresh(I:Inv X pins σ H s):H s.heap.objs.size=none:=I.aH.fresh (aU _)
def Inv.Eg(I:Inv X pins σ H s)(hH:H l=some (.lst xs)):xs.length≤sizeLine∧∃(its:List Value) (n:Nat),Vals xs its∧xs.length=its.length∧s.heap.get? l=some { cls:=.type "list",data:=.seq its.toArray n }:=by
 let⟨z,its,n,r,e⟩:=I.aH l _ hH;exact⟨z,its,n,r,r.length,e⟩
end
section
variable {X:Cx}
def tZ:V→List V→Hp→VK→Prop:=λx vs H Q=>∃l xs y,x=.ref l∧vs=[y]∧H l=some (.lst xs)∧xs.length<sizeLine∧Q .non (upd H l (.lst (xs++[y])))
def IX:FP X "list.append" tZ:=by
 intro pins s σ H x vs v us Q I rx rv h;let⟨l,xs,y,rfl,rfl,hH,hz,q⟩:=h;cases rx;let⟨u,rfl,ru⟩:=rv.one;let⟨z,its,n,r,hl,e⟩:=I.Eg hH;refine call_meets F.slot_list_append ⟨_,e,rfl⟩ F.entry_list_append (F.args_list_append_2 _ _) (PySem.list_append l its.toArray n u (by rw[gu];omega)) ⟨e,?_⟩;refine⟨.non,_,I.Ef (its':=its++[u]) hH e (by simp) (r.append (.cons ru .nil)) ?_,rfl,q⟩;rw[fw,List.length_singleton];omega
def Ov:V→List V→Hp→VK→Prop:=λx vs H Q=>∃l xs y,x=.ref l∧vs=[]∧H l=some (.lst xs)∧xs[xs.length-1]?=some y∧Q y (upd H l (.lst xs.dropLast))
def Ze:FP X "list.pop" Ov:=by
 intro pins s σ H x vs v us Q I rx rv h;let⟨l,xs,y,rfl,rfl,hH,hy,q⟩:=h;cases rx;have FQ:=rv.zero;subst FQ;let⟨z,its,n,r,hl,e⟩:=I.Eg hH;let⟨u,hu,ru⟩:=r.get hy;have FU:its.toArray[its.toArray.size-1]?=some u:=by
  show its.toArray[its.length-1]?=some u;rw[←nR,←hl];exact hu
 refine call_meets F.slot_list_pop ⟨_,e,rfl⟩ F.entry_list_pop (F.args_list_pop_1 _) (MeetsSeq.list_pop_last l its.toArray n u FU (by rw[gu];omega)) ⟨e,?_⟩;refine⟨y,_,I.Ef (its':=its.dropLast) hH e ?_ r.dropLast ?_,ru,q⟩
 ·show its.toArray.eraseIdxIfInBounds (its.toArray.size-1)=its.dropLast.toArray;rw[gu,List.eraseIdxIfInBounds_toArray,T5]
 ·rw[List.length_dropLast];omega
def Jz:V→List V→Hp→VK→Prop:=λx vs H Q=>∃l xs,x=.ref l∧vs=[]∧H l=some (.lst xs)∧Q .non (upd H l (.lst xs.reverse))
def T6:FP X "list.reverse" Jz:=by
 intro pins s σ H x vs v us Q I rx rv h;let⟨l,xs,rfl,rfl,hH,q⟩:=h;cases rx;have FQ:=rv.zero;subst FQ;let⟨z,its,n,r,hl,e⟩:=I.Eg hH;refine call_meets F.slot_list_reverse ⟨_,e,rfl⟩ F.entry_list_reverse (F.args_list_reverse_1 _) (AutoSeq1.list_reverse_list_0 l its.toArray n (by rw[gu];omega)) ⟨e,?_⟩;refine⟨.non,_,I.Ef (its':=its.reverse) hH e (by simp) r.reverse ?_,rfl,q⟩;rw[List.length_reverse];omega
end
section
variable {prog:Program}{w:World}{A:Around}{E:Value→Shared→Prop}{s:Shared}
end
section
variable {X:Cx}
end
section
variable {κ:Type}[DecidableEq κ]
abbrev fq(aj:List (κ×V))(k:κ):Option V:=(aj.find? λkv=>decide (kv.1=k)).map (·.2)
abbrev putK(aj:List (κ×V))(k:κ)(v:V):List (κ×V) :=
 if (aj.any λkv=>decide (kv.1=k))=true then aj.map (λkv=>if kv.1=k then (kv.1,v)else kv)else aj++[(k,v)]
abbrev ad1(aj:List (κ×V))(k:κ):List (κ×V):=aj.filter λkv=>decide (kv.1≠k)
def xM{p:κ×V}{r:List (κ×V)}{k:κ}(e:p.1=k):fq (p::r) k=some p.2:=by simp[fq,List.find?_cons,e]
def xN{p:κ×V}{r:List (κ×V)}{k:κ}(e:¬p.1=k):fq (p::r) k=fq r k:=by simp[fq,List.find?_cons,e]
theorem JA(k:κ):∀aj:List (κ×V),(aj.any λkv=>decide (kv.1=k))=(fq aj k).isSome
 |[]=>rfl
 |p::r=>by
  rw[pN];by_cases e:p.1=k
  ·simp only[xM e,decide_eq_true e,Bool.true_or,Option.isSome_some]
  ·rw[xN e,fI e,Bool.false_or];exact JA k r
def xr(aj:List (κ×V))(k:κ)(v:V):(putK aj k v).length≤aj.length+1:=by
 unfold putK;split
 ·rw[dZ];omega
 ·rw[fw,f6,List.length_nil];omega
def i7.tK{o:Option V}{u:Option Value}(r:i7 o u):o.isSome=u.isSome:=by
 cases o with
 |none=>cases u with
  |none=>rfl
  |some _=>exact(show False from r).elim
 |some _=>cases u with
  |none=>exact(show False from r).elim
  |some _=>rfl
theorem i7.getD{o:Option V}{u:Option Value}{d:V}{d':Value}(r:i7 o u)(rd:RelV d d'):RelV (o.getD d) (u.getD d'):=by
 cases o with
 |none=>cases u with
  |none=>exact rd
  |some _=>exact(show False from r).elim
 |some _=>cases u with
  |none=>exact(show False from r).elim
  |some _=>exact r
def KV.val{aj:List (κ×V)}{vs:List (κ×Value)}(r:KV aj vs)(k:κ):i7 (fq aj k) (valueAt vs k):=by
 unfold KV at r
 induction r with
 |nil=>exact True.intro
 |@cons p q ps qs h t ih =>
  let⟨h1,h2⟩:=h;by_cases e:p.1=k
  ·have e':q.1=k:=h1.symm.trans e;have b:valueAt (q::qs) k=some q.2:=by simp[valueAt,List.find?_cons,e']
   rw[xM e,b];exact h2
  ·have e':¬q.1=k:=λz=>e (h1.trans z);have b:valueAt (q::qs) k=valueAt qs k:=by simp[valueAt,List.find?_cons,e']
   rw[xN e,b];exact ih
theorem KV.any{aj:List (κ×V)}{vs:List (κ×Value)}(r:KV aj vs)(k:κ):(aj.any λkv=>decide (kv.1=k))=vs.any λkv=>decide (kv.1=k):=by
 unfold KV at r
 induction r with
 |nil=>rfl
 |cons h t ih=>rw[pN,pN,ih,h.1]
def KV.repl{aj:List (κ×V)}{vs:List (κ×Value)}(r:KV aj vs)(k:κ){y:V}{u:Value}(ry:RelV y u) :
  KV (aj.map λkv=>if kv.1=k then (kv.1,y)else kv) (vs.map λkv=>if kv.1=k then (kv.1,u)else kv):=by
 unfold KV at r ⊢
 induction r with
 |nil=>exact .nil
 |@cons p q ps qs h t ih =>
  rw[cY,cY];refine .cons ?_ ih;let⟨h1,h2⟩:=h;by_cases e:p.1=k
  ·rw[if_pos e,if_pos (h1.symm.trans e)];exact⟨h1,ry⟩
  ·rw[if_neg e,if_neg (λz=>e (h1.trans z))];exact⟨h1,h2⟩
def KV.put{aj:List (κ×V)}{vs:List (κ×Value)}(r:KV aj vs)(k:κ){y:V}{u:Value}(ry:RelV y u):KV (putK aj k y) (stored vs k u):=by
 unfold putK stored;rw[r.any k];by_cases e:(vs.any λkv=>decide (kv.1=k))=true
 ·rw[if_pos e,if_pos e];exact r.repl k ry
 ·rw[if_neg e,if_neg e];exact Paired.snoc r ⟨rfl,ry⟩
def KV.keys{aj:List (κ×V)}{vs:List (κ×Value)}(r:KV aj vs):aj.map (·.1)=vs.map (·.1):=by
 unfold KV at r
 induction r with
 |nil=>rfl
 |cons h t ih=>rw[cY,cY,ih,h.1]
theorem KV.length{aj:List (κ×V)}{vs:List (κ×Value)}(r:KV aj vs):aj.length=vs.length:=cE r
end
def oJ{P:Program}{w:World}{k:Key}{u:Value}(r:RelV (kV k) u):(cG P w).is k u=true:=by
 cases k with
 |inl i=>let⟨t,e⟩:=(show ∃t,u=Value.int i t from r);subst e;exact Ts P w i t
 |inr x=>let⟨t,e⟩:=(show ∃t,u=Value.str x t from r);subst e;exact Tt P w x t
 |non=>rw[show u=Value.none from r];exact Tv P w
theorem IY{P:Program}{w:World}:∀{ks:List Key}{us:List Value},Vals (ks.map kV) us→ItemsAre (cG P w) ks us
 |[],_,r=>by rw[Fp]at r;cases r;exact .nil
 |k::ks,_,r=>by
  rw[cY]at r;cases r with
  |cons h t=>exact .cons (oJ h) (IY t)
@[reducible]def KT(H:Hp):List (List Key×V)→List (List Key×Addr×Value)→Prop:=Paired λp q=>p.1=q.1∧H q.2.1=some (.tup (p.1.map kV))∧RelV p.2 q.2.2
def KT.val{H:Hp}{aj:List (List Key×V)}{xs:List (List Key×Addr×Value)}(r:KT H aj xs)(k:List Key):i7 (fq aj k) ((atKey xs k).map (·.2)):=by
 induction r with
 |nil=>exact True.intro
 |@cons p q ps qs h t ih =>
  let⟨h1,_,h2⟩:=h;by_cases e:p.1=k
  ·have e':q.1=k:=h1.symm.trans e;have b:atKey (q::qs) k=some q.2:=by simp[atKey,List.find?_cons,e']
   rw[xM e,b];exact h2
  ·have e':¬q.1=k:=λz=>e (h1.trans z);have b:atKey (q::qs) k=atKey qs k:=by simp[atKey,List.find?_cons,e']
   rw[xN e,b];exact ih
def KT.repl{H:Hp}{aj:List (List Key×V)}{xs:List (List Key×Addr×Value)}(r:KT H aj xs)(k:List Key){y:V}{u:Value}(ry:RelV y u) :
  KT H (aj.map λkv=>if kv.1=k then (kv.1,y)else kv) (xs.map (putAt k u)):=by
 induction r with
 |nil=>exact .nil
 |@cons p q ps qs h t ih =>
  rw[cY,cY];refine .cons ?_ ih;let⟨h1,h2,h3⟩:=h;unfold putAt;by_cases e:p.1=k
  ·rw[if_pos e,if_pos (h1.symm.trans e)];exact⟨h1,h2,ry⟩
  ·rw[if_neg e,if_neg (λz=>e (h1.trans z))];exact⟨h1,h2,h3⟩
def KT.put{H:Hp}{aj:List (List Key×V)}{xs:List (List Key×Addr×Value)}(r:KT H aj xs)(k:List Key){b:Addr}{y:V}{u:Value}(hb:H b=some (.tup (k.map kV)))(ry:RelV y u) :
  KT H (putK aj k y) (storedH xs k b u):=by
 have e:(aj.any λkv=>decide (kv.1=k))=(atKey xs k).isSome:=by
  rw[JA,(r.val k).tK,zQ]
 unfold putK storedH;rw[e];by_cases q:(atKey xs k).isSome=true
 ·rw[if_pos q,if_pos q];exact r.repl k ry
 ·rw[if_neg q,if_neg q];exact Paired.snoc r ⟨rfl,hb,ry⟩
def KT.keeps{H H':Hp}{aj:List (List Key×V)}{xs:List (List Key×Addr×Value)}(r:KT H aj xs)(ht:∀b ys,H b=some (.tup ys)→H' b=some (.tup ys)):KT H' aj xs :=
 Paired.lU r λ_ _ z=>⟨z.1,ht _ _ z.2.1,z.2.2⟩
section
variable {P:Program}{w:World}{H:Hp}{h:Heap}{a:Addr}
def Ny{u:HO}(ok:cP P w H h)(e:Rd H a u):cB P w H h a u:=e.ok ok
def oK{aj:List (Key×V)}(ok:cP P w H h)(e:Rd H a (.dK aj)):aj.length≤sizeLine∧(a==sysModules)=false∧∃vs,KV aj vs∧h.DictOf (cG P w) a vs :=
 show cB P w H h a (.dK aj)from Ny ok e
def Nz{aj:List (Key×V)}(ok:cP P w H h)(e:H a=some (.dK aj)):aj.length≤sizeLine∧(a==sysModules)=false∧∃vs,KV aj vs∧h.DictOf (cG P w) a vs:=oK ok (.inl e)
def qB{ks:List Key}(ok:cP P w H h)(e:H a=some (.tup (ks.map kV))):(tupleKind (cG P w)).is h ks a:=by
 let⟨_,its,r,o,h1,h2,_,n,h3⟩:=(show cB P w H h a (.tup (ks.map kV))from ok a _ e);exact⟨o,its.toArray,n,h1,h2,h3,by simpa using IY r⟩
def m6{aj:List (List Key×V)}(ok:cP P w H h)(e:Rd H a (.dT aj)):aj.length≤sizeLine∧(a==sysModules)=false ∧
  ∃xs,KT H aj xs∧h.DictOfH (tupleKind (cG P w)) a xs:=by
 let⟨z,y,xs,r,o,es,ep,h1,h2,h3,h4,h5⟩:=(show cB P w H h a (.dT aj)from Ny ok e);refine⟨z,y,xs,r,o,es,ep,h1,h2,h3,h4,λx hx=>?_,h5⟩;have all:∀{l:List (List Key×V)}{m:List (List Key×Addr×Value)},KT H l m→∀x∈m,(tupleKind (cG P w)).is h x.1 x.2.1:=by
  intro l m q
  induction q with
  |nil=>intro x hx;exact nomatch hx
  |@cons p q ps qs hq t ih =>
   intro x hx;rcases dQ.mp hx with e|hx
   ·subst e;exact qB ok (by rw[←hq.1];exact hq.2.1)
   ·exact ih x hx
 exact all r x hx
def abp{aj:List (List Key×V)}(ok:cP P w H h)(e:H a=some (.dT aj)):aj.length≤sizeLine∧(a==sysModules)=false ∧
 ∃xs,KT H aj xs∧h.DictOfH (tupleKind (cG P w)) a xs:=m6 ok (.inl e)
end
def iN(H:Hp)(a:Addr)(y:V)(r:Option V):Prop :=
 (∃aj k,Rd H a (.dK aj)∧y=kV k∧r=fq aj k)∨∃aj k b,Rd H a (.dT aj)∧y=.ref b∧H b=some (.tup (k.map kV))∧r=fq aj k
def q8(H:Hp)(a:Addr)(y v:V)(H':Hp):Prop :=
 (∃aj k,H a=some (.dK aj)∧y=kV k∧aj.length<sizeLine∧H'=upd H a (.dK (putK aj k v))) ∨
 ∃aj k b,H a=some (.dT aj)∧y=.ref b∧H b=some (.tup (k.map kV))∧aj.length<sizeLine∧H'=upd H a (.dT (putK aj k v))
theorem iN.k{H:Hp}{a:Addr}{aj:List (Key×V)}{k:Key}(e:H a=some (.dK aj)):iN H a (kV k) (fq aj k):=.inl ⟨aj,k,.inl e,rfl,rfl⟩
def iN.t{H:Hp}{a b:Addr}{aj:List (List Key×V)}{k:List Key}(e:H a=some (.dT aj))(eb:H b=some (.tup (k.map kV))):iN H a (.ref b) (fq aj k):=.inr ⟨aj,k,b,.inl e,rfl,eb,rfl⟩
theorem q8.k{H:Hp}{a:Addr}{aj:List (Key×V)}{k:Key}{v:V}(e:H a=some (.dK aj))(hl:aj.length<sizeLine):q8 H a (kV k) v (upd H a (.dK (putK aj k v))):=.inl ⟨aj,k,e,rfl,hl,rfl⟩
def q8.t{H:Hp}{a b:Addr}{aj:List (List Key×V)}{k:List Key}{v:V}(e:H a=some (.dT aj))(eb:H b=some (.tup (k.map kV)))(hl:aj.length<sizeLine) :
 q8 H a (.ref b) v (upd H a (.dT (putK aj k v))):=.inr ⟨aj,k,b,e,rfl,eb,hl,rfl⟩
section
variable {X:Cx}{pins:List (Addr×Obj)}{σ:St}{H:Hp}{s:Shared}{a:Addr}{y v:V}{u r:Value}{o:Option V}{A:Around}{E:Value→Shared→Prop}
def Inv.big(I:Inv X pins σ H s):sysModules<s.heap.objs.size:=by
 have h:mainGlobals<s.heap.objs.size:=(I.mod.glob.keeps I.bk).lt;exact Nat.lt_trans (by decide) h
def Uw{Q:Value→Shared→Prop}(hu:A.units+1<cLine)(I:Inv X pins σ H s)(g:iN H a y (some v))(ry:RelV y u)(h:∀w' s',Inv X pins σ H s'→RelV v w'→Q w' s') :
  wpAny (model X.prog X.w) A (getItem (.ref a) u) Q E s:=by
 rcases g with⟨aj,k,e,ey,l⟩|⟨aj,k,b,e,ey,eb,l⟩
 ·subst ey;let⟨z,hd,vs,rel,dd⟩:=oK I.aH e;let⟨w',hw,kc⟩:=i7.some_of (v:=v) (o:=valueAt vs k) (by rw[l];exact rel.val k);exact wpAny_getItem_of (oJ ry) dd.mapOf hw (h w' _ (I.tok _) kc)
 ·subst ey;cases (show u=Value.ref b from ry);let⟨z,hd,xs,rel,dd⟩:=m6 I.aH e;let⟨w',hw,kc⟩:=i7.some_of (v:=v) (o:=(atKey xs k).map (·.2)) (by rw[l];exact rel.val k);let⟨p,hp,pW⟩:=Option.map_eq_some_iff.mp hw;refine wpAny_getItem_heap (ve hu) (qB I.aH eb) dd hp ?_;rw[pW];exact h w' _ (I.tok _) kc
def ac8{Q:Value→Shared→Prop}(hu:A.units+1<cLine)(I:Inv X pins σ H s)(g:iN H a y o)(ry:RelV y u)(h:∀s',Inv X pins σ H s'→Q (.bool o.isSome) s') :
  wpAny (model X.prog X.w) A (compareOp .In u (.ref a)) Q E s:=by
 rcases g with⟨aj,k,e,ey,l⟩|⟨aj,k,b,e,ey,eb,l⟩
 ·subst ey;let⟨z,hd,vs,rel,dd⟩:=oK I.aH e;refine wpAny_in_of (oJ ry) hd dd.mapOf ?_;rw[←(rel.val k).tK,←l];exact h _ (I.tok _)
 ·subst ey;cases (show u=Value.ref b from ry);let⟨z,hd,xs,rel,dd⟩:=m6 I.aH e;refine wpAny_in_heap (ve hu) (qB I.aH eb) hd dd ?_;have q:=(rel.val k).tK;rw[zQ]at q;rw[←q,←l];exact h _ (I.tok _)
def WW{Q:Value→Shared→Prop}(hu:A.units+1<cLine)(I:Inv X pins σ H s)(g:iN H a y o)(ry:RelV y u)(h:∀s',Inv X pins σ H s'→Q (.bool (!o.isSome)) s') :
  wpAny (model X.prog X.w) A (compareOp .NotIn u (.ref a)) Q E s:=by
 rcases g with⟨aj,k,e,ey,l⟩|⟨aj,k,b,e,ey,eb,l⟩
 ·subst ey;let⟨z,hd,vs,rel,dd⟩:=oK I.aH e;refine wpAny_notIn_of (oJ ry) hd dd.mapOf ?_;rw[←(rel.val k).tK,←l];exact h _ (I.tok _)
 ·subst ey;cases (show u=Value.ref b from ry);let⟨z,hd,xs,rel,dd⟩:=m6 I.aH e;refine wpAny_notIn_heap (ve hu) (qB I.aH eb) hd dd ?_;have q:=(rel.val k).tK;rw[zQ]at q;rw[←q,←l];exact h _ (I.tok _)
def CH{h':Heap}{t':Nat}{ob:HO}(I:Inv X pins σ H s)(mu:vq (H a))(hs:Heap.SameBut a s.heap h')(he:∃q,h'.get? a=some q)(new:cB X.prog X.w (upd H a ob) h' a ob) :
  Inv X pins σ (upd H a ob) { s with heap:=h',toks:=t' } :=
 I.write (x:=a) (e:=a) mu (.inl rfl) (λb q hb z=>(hs.2 b hb).trans z) he new
def L5{P:Program}{w:World}{H':Hp}{h':Heap}{aj:List (Key×V)}{vs:List (Key×Value)}(z:aj.length≤sizeLine)(hd:(a==sysModules)=false)(rel:KV aj vs)(dd:h'.DictOf (cG P w) a vs) :
 cB P w H' h' a (.dK aj):=⟨z,hd,vs,rel,dd⟩
def Ux{H':Hp}{Q:Unit→Shared→Prop}(hu:A.units+1<cLine)(I:Inv X pins σ H s)(g:q8 H a y v H')(ry:RelV y u)(rv:RelV v r)(h:∀s',Inv X pins σ H' s'→Q () s') :
  wpAny (model X.prog X.w) A (setItem (.ref a) u r) Q E s:=by
 rcases g with⟨aj,k,e,ey,l,eH⟩|⟨aj,k,b,e,ey,eb,l,eH⟩
 ·subst ey eH;let⟨z,hd,vs,rel,dd⟩:=Nz I.aH e;have hz:vs.length≤sizeLine:=by rw[←rel.length];exact z
  have hl:(putK aj k v).length≤sizeLine:=by have:=xr aj k v;omega
  refine wpAny_setItem_pairs (hsz:=hz) (oJ ry) dd λh' pX hs=>h _ ?_;have he:∃q,h'.get? a=some q:=let ⟨q,_,_,hq,_⟩:=pX;⟨q,hq⟩
  exact CH I (by rw[e];exact True.intro) hs he (L5 hl hd (rel.put k rv) pX)
 ·subst ey eH;cases (show u=Value.ref b from ry);let⟨z,hd,xs,rel,dd⟩:=abp I.aH e;have hz:xs.length≤sizeLine:=by rw[←cE rel];exact z
  have hl:(putK aj k v).length≤sizeLine:=by have:=xr aj k v;omega
  refine wpAny_setItem_heap (hsz:=hz) (ve hu) (qB I.aH eb) dd λh' pX hs=>h _ ?_;let⟨q,es,ep,hq,h2,h3,h4,_,h5⟩:=pX;refine CH I (by rw[e];exact True.intro) hs ⟨q,hq⟩ ⟨hl,hd,_,(rel.put k eb rv).keeps λc ys ec=>?_,q,es,ep,hq,h2,h3,h4,h5⟩;rw[aI (qM ec e (λz=>nomatch z))];exact ec
end
section
variable {X:Cx}{pins:List (Addr×Obj)}{σ:St}{H:Hp}{s:Shared}{a:Addr}{aj:List (Key×V)}{k:Key}{u:Value}{A:Around}{E:Value→Shared→Prop}
end
def Eh(i:Expr):Prop:=∀ov iv,subscripted i false ov iv=operate [ov,iv] (getItem ov iv)
def WX{prog:Program}{w:World}{A:Around}{E:Value→Shared→Prop}{s:Shared}{env:Env}{value slice:Expr}{pos:Pos}{T id:String}{Q:Value→Shared→Prop}
  (hl:typeLookup (.type T) "__getitem__" = pure (some (.builtin id))) (hs:Eh slice)
  (h:wpAny (model prog w) A (eval value env) (λo s₁=>wpAny (model prog w) A (eval slice env) (λi s₂=>s₂.TypeIs o T∧wpAny (model prog w) A (getItem o i) Q E s₂) E s₁) E s) :
  wpAny (model prog w) A (eval (.Subscript value slice pos) env) Q E s:=by
 refine Subscript_ (fY h (λo s₁ h₁=>fY h₁ (λi s₂ h₂=>?_) λ_ _ x=>x) λ_ _ x=>x);let⟨hT,h₂⟩:=h₂;unfold subscriptTail;refine aA ?_;rw[getitemInPython_of_ne hT.not_modules];refine aA (E4 hT hl ?_);have fin:wpAny (model prog w) A (subscripted slice false o i) (λr s₃=>wpAny (model prog w) A (letTemporaryGo value o r >>= λ_=>pure r) Q E s₃) E s₂:=by
  rw[hs o i];exact wpAny_operating (fY h₂ (λr s₃ h₃=>aA (wpAny_letTemporaryGo (aN h₃))) λ_ _ x=>x)
 first
  |exact aN (aA fin)
  |exact aA (aN (aA fin))
  |exact aA fin
def Tw{X:Cx}{pins:List (Addr×Obj)}{σ:St}{H:Hp}{s:Shared}{a:Addr}{y:V}{o:Option V}(I:Inv X pins σ H s)(g:iN H a y o):s.TypeIs (.ref a) "dict" := by
 rcases g with⟨aj,k,e,_,_⟩|⟨aj,k,b,e,_,_,_⟩
 ·let⟨_,_,vs,_,dd⟩:=oK I.aH e;exact dd.typeIs
 ·let⟨_,_,xs,_,dd⟩:=m6 I.aH e;exact dd.typeIs
abbrev DJ(td ty:TE):TE:=λσ H Q=>td σ H λx H1=>ty σ H1 λy H2=>∃a v,x=.ref a∧iN H2 a y (some v)∧Q v H2
abbrev Ei(ty td:TE):TE:=λσ H Q=>ty σ H λy H1=>td σ H1 λx H2=>∃a o,x=.ref a∧iN H2 a y o∧Q (.bl o.isSome) H2
abbrev CJ(ty td:TE):TE:=λσ H Q=>ty σ H λy H1=>td σ H1 λx H2=>∃a o,x=.ref a∧iN H2 a y o∧Q (.bl (!o.isSome)) H2
abbrev uE(td ty tv:TE):TS:=λD σ H=>tv σ H λv H1=>td σ H1 λx H2=>ty σ H2 λy H3=>∃a H4,x=.ref a∧q8 H3 a y v H4∧D.nx σ H4
section
variable {X:Cx}{o i e value:Expr}{pos pos' ac2:Pos}{td ty tv:TE}
def Kw(hu:X.A.units+1<cLine)(ho:PE X o td)(hi:PE X i ty)(hs:Eh i):PE X (.Subscript o i pos) (DJ td ty):=by
 intro pins s σ H Q I h;refine WX PySem.F.slot_dict_getitem.lookup hs (aJ (ho pins s σ H _ I h) λu s1 ⟨x,H1,I1,rx,q1⟩=>aJ (hi pins s1 σ H1 _ I1 q1) λiv s2 ⟨y,H2,I2,ry,a,v,ex,g,q2⟩=>?_);subst ex;obtain rfl:u=Value.ref a:=rx;exact⟨Tw I2 g,Uw hu I2 g ry λw' s3 I3 kc=>⟨v,H2,I3,kc,q2⟩⟩
def L6(hu:X.A.units+1<cLine)(hi:PE X i ty)(ho:PE X o td):PC X .In i o (Ei ty td):=by
 intro pins s σ H Q I h;refine aJ (hi pins s σ H _ I h) λiv s1 ⟨y,H1,I1,ry,q1⟩=>aJ (ho pins s1 σ H1 _ I1 q1) λu s2 ⟨x,H2,I2,rx,a,ov,ex,g,q2⟩=>?_;subst ex;obtain rfl:u=Value.ref a:=rx;exact ac8 hu I2 g ry λs3 I3=>⟨.bl ov.isSome,H2,I3,rfl,q2⟩
def IZ(hu:X.A.units+1<cLine)(hi:PE X i ty)(ho:PE X o td):PC X .NotIn i o (CJ ty td):=by
 intro pins s σ H Q I h;refine aJ (hi pins s σ H _ I h) λiv s1 ⟨y,H1,I1,ry,q1⟩=>aJ (ho pins s1 σ H1 _ I1 q1) λu s2 ⟨x,H2,I2,rx,a,ov,ex,g,q2⟩=>?_;subst ex;obtain rfl:u=Value.ref a:=rx;exact WW hu I2 g ry λs3 I3=>⟨.bl (!ov.isSome),H2,I3,rfl,q2⟩
def WY(hu:X.A.units+1<cLine)(ho:PE X o td)(hi:PE X i ty)(hv:PE X value tv)(hs:swapsWith value (some (.Subscript o i pos')) pos.line X.env=pure false) :
  PS X (.Assign [.Subscript o i pos'] value pos) (uE td ty tv):=by
 intro pins s σ H D I h;refine wpAny_Assign_Subscript (aJ (hv pins s σ H _ I h) λr s1 ⟨v,H1,I1,rv,q1⟩=>aJ (ho pins s1 σ H1 _ I1 q1) λu s2 ⟨x,H2,I2,rx,q2⟩=>aJ (hi pins s2 σ H2 _ I2 q2) λiv s3 ⟨y,H3,I3,ry,a,H4,ex,g,q3⟩=>?_) hs;subst ex;obtain rfl:u=Value.ref a:=rx;exact Ux hu I3 g ry rv λs4 I4=>⟨σ,H4,I4,q3⟩
end
def JB{P:Program}{w:World}{H:Hp}(h:Heap)(hb:sysModules<h.objs.size):cB P w H (h.push { cls:=.type "dict",data:=.dict #[] }) h.objs.size (.dK []) :=
 ⟨jt _,beq_eq_false_iff_ne.mpr (ll (fu hb)),[],.nil,Heap.DictOf.new h⟩
def Vj{P:Program}{w:World}{H:Hp}(h:Heap)(hb:sysModules<h.objs.size):cB P w H (h.push { cls:=.type "dict",data:=.dict #[] }) h.objs.size (.dT []) :=
 ⟨jt _,beq_eq_false_iff_ne.mpr (ll (fu hb)),[],.nil,_,#[],0,gq _ rfl,⟨rfl,rfl,rfl⟩,rfl,rfl,rL⟩
def L7:TE:=λ_ H Q=>∀p,H p=none→Q (.ref p) (upd H p (.dK []))
def L8:TE:=λ_ H Q=>∀p,H p=none→Q (.ref p) (upd H p (.dT []))
section
variable {X:Cx}{pos:Pos}
def Vk:PE X (.Dict [] [] pos) L7:=λpins s σ H Q I h =>
 wpAny_Dict_empty ⟨.ref s.heap.objs.size,_,I.laid (a:=s.heap.objs.size) (o:=.dK []) (t':=s.toks) (λ_ _ q=>cw _ q) (aU _) (JB s.heap I.big),rfl,h _ (I.aH.fresh (aU _))⟩
def Vl:PE X (.Dict [] [] pos) L8:=λpins s σ H Q I h =>
 wpAny_Dict_empty ⟨.ref s.heap.objs.size,_,I.laid (a:=s.heap.objs.size) (o:=.dT []) (t':=s.toks) (λ_ _ q=>cw _ q) (aU _) (Vj s.heap I.big),rfl,h _ (I.aH.fresh (aU _))⟩
end
abbrev Dl:List (TE×TE)→St→Hp→(List (V×V)→Hp→Prop)→Prop
 |[],_,H,Q=>Q [] H
 | (tk,tv)::r,σ,H,Q=>tk σ H λx H1=>tv σ H1 λy H2=>Dl r σ H2 λps H3=>Q ((x,y)::ps) H3
@[reducible]def VV:List (V×V)→List (Value×Value)→Prop:=Paired λp q=>RelV p.1 q.1∧RelV p.2 q.2
def vE(X:Cx)(pos:Pos)(keys:List (Option Expr))(values:List Expr)(mH:List (TE×TE)):Prop :=
 ∀(pins:List (Addr×Obj)) (s:Shared) (σ:St) (H:Hp) (Q:List (V×V)→Hp→Prop),Inv X pins σ H s→Dl mH σ H Q →
  wpAny (model X.prog X.w) X.A (evalPairs (pairTrees keys values X.env pos)) (λvs s'=>∃ps H',Inv X pins σ H' s'∧VV ps vs∧Q ps H') X.xe s
def Kx{X:Cx}{pos:Pos}:vE X pos [] [] []:=λpins s σ H Q I h=>pairTrees_nil_walk ⟨[],H,I,.nil,h⟩
def JC{X:Cx}{pos:Pos}{k v:Expr}{ks:List (Option Expr)}{vs:List Expr}{tk tv:TE}{mH:List (TE×TE)}(hk:PE X k tk)(hv:PE X v tv)(hr:vE X pos ks vs mH) :
  vE X pos (some k::ks) (v::vs) ((tk,tv)::mH):=λpins s σ H Q I h =>
 pairTrees_cons_walk (aJ (hk pins s σ H _ I h) λu s1 ⟨x,H1,I1,rx,q1⟩=>aJ (hv pins s1 σ H1 _ I1 q1) λw2 s2 ⟨y,H2,I2,ry,q2⟩ =>
  aJ (hr pins s2 σ H2 _ I2 q2) λws s3 ⟨ps,H3,I3,rel,q3⟩=>⟨(x,y)::ps,H3,I3,.cons ⟨rx,ry⟩ rel,q3⟩)
def qC(aj more:List (Key×V)):List (Key×V):=more.foldl (λacc kv=>putK acc kv.1 kv.2) aj
def KV.merge:∀{more:List (Key×V)}{rs:List (Key×Value)}{aj:List (Key×V)}{vs:List (Key×Value)},KV more rs→KV aj vs→KV (qC aj more) (merged vs rs):=by
 intro more rs aj vs r;unfold KV at r
 induction r generalizing aj vs with
 |nil=>intro q;exact q
 |@cons p q ps qs h t ih =>
  intro r0;have e:KV (putK aj p.1 p.2) (stored vs q.1 q.2):=by
   have:=r0.put p.1 h.2;rw[←h.1];exact this
  exact ih e
theorem Ht:∀(more aj:List (Key×V)),(qC aj more).length≤aj.length+more.length
 |[],aj=>by show aj.length≤aj.length+0;omega
 |p::r,aj=>by
  have h1:=Ht r (putK aj p.1 p.2);have h2:=xr aj p.1 p.2;show(qC (putK aj p.1 p.2) r).length≤_;rw[f6];omega
theorem Ih{P:Program}{w:World}:∀{aj:List (Key×V)}{ws:List (Value×Value)},VV (aj.map λkv=>(kV kv.1,kv.2)) ws→∃rs,Carries (cG P w) ws rs∧KV aj rs
 |[],_,r=>by rw[Fp]at r;cases r;exact⟨[],True.intro,.nil⟩
 |p::aj,_,r=>by
  rw[cY]at r;cases r with
  |@cons a b as bs h t =>
   let⟨rs,c,q⟩:=Ih (P:=P) (w:=w) t;let⟨b1,b2⟩:=b;exact⟨(p.1,b2)::rs,⟨oJ h.1,rfl,c⟩,.cons ⟨rfl,h.2⟩ q⟩
def NB(mH:List (TE×TE)):TE:=λσ H Q=>∀p,H p=none→Dl mH σ (upd H p (.dK [])) λps H2=>H2 p=some (.dK [])∧∃aj:List (Key×V),ps=aj.map (λkv=>(kV kv.1,kv.2))∧aj.length≤15∧Q (.ref p) (upd H2 p (.dK (qC [] aj)))
def WZ{X:Cx}{pos:Pos}{keys:List (Option Expr)}{values:List Expr}{mH:List (TE×TE)}(h:vE X pos keys values mH)(Ej:keys.all (·.isSome)=true)(hl:keys.length=values.length)(h0:keys≠[])
  (h15:keys.length≤15):PE X (.Dict keys values pos) (NB mH):=by
 intro pins s σ H Q I q;have hn:=I.aH.fresh (aU s.heap.objs.size);have I1:=I.laid (a:=s.heap.objs.size) (o:=.dK []) (h':=s.heap.push { cls:=.type "dict",data:=.dict #[] }) (t':=s.toks) (λ_ _ q=>cw _ q) (aU _) (JB s.heap I.big);refine wpAny_Dict_walk (knd:=cG X.prog X.w) Ej hl h0 h15 (aJ (h pins _ σ _ _ I1 (q _ hn)) λws s2 ⟨ps,H2,I2,rel,e,aj,ep,lk,q2⟩=>?_);subst ep;let⟨rs,c,rk⟩:=Ih (P:=X.prog) (w:=X.w) rel;let⟨z,hd,vs0,r0,dd⟩:=Nz I2.aH e;cases r0;refine⟨rs,c,dd,λh' pX hs=>⟨.ref s.heap.objs.size,_,?_,rfl,q2⟩⟩;have hz:(qC [] aj).length≤sizeLine:=by
  have h1:=Ht aj [];rw[List.length_nil]at h1;rw[pJ];omega
 have he:∃q,h'.get? s.heap.objs.size=some q:=let ⟨q,_,_,hq,_⟩:=pX;⟨q,hq⟩
 exact CH I2 (by rw[e];exact True.intro) hs he (L5 hz hd (rk.merge .nil) pX)
structure M1 (X:Cx)(o:Expr)(m:Str)(apos:Pos)(e:Expr)(di:Pos):Prop where
 base:attributeBase o m X.env (eval o X.env)=eval o X.env
 few:((backTo di (starEach [e] X.env)).all (λx=>!x.1)&&(backToKw di (keywordEach [] X.env)).all (λx=>x.1.isSome)
  && decide (([e]:List Expr).length+([]:List Keyword).length+(if ([]:List Keyword).isEmpty then 0 else 1)<30))=true
 line:(apos.endLine==di.line)=true
 trees:backTo di (starEach [e] X.env)=[(false,eval e X.env)]
structure M2 (X:Cx)(o:Expr)(m:Str)(apos:Pos)(e f:Expr)(di:Pos):Prop where
 base:attributeBase o m X.env (eval o X.env)=eval o X.env
 few:((backTo di (starEach [e,f] X.env)).all (λx=>!x.1)&&(backToKw di (keywordEach [] X.env)).all (λx=>x.1.isSome)
  && decide (([e,f]:List Expr).length+([]:List Keyword).length+(if ([]:List Keyword).isEmpty then 0 else 1)<30))=true
 line:(apos.endLine==di.line)=true
 trees:backTo di (starEach [e,f] X.env)=[(false,eval e X.env),(false,eval f X.env)]
def Qk(H:Hp)(a:Addr):Prop:=(∃aj,Rd H a (.dK aj))∨∃aj,Rd H a (.dT aj)
def Zf{X:Cx}{pins:List (Addr×Obj)}{σ:St}{H:Hp}{s:Shared}{a:Addr}(I:Inv X pins σ H s)(d:Qk H a) :
  s.TypeIs (.ref a) "dict" ∧ (∀b,Value.ref a=.ref b→∃ob,s.heap.get? b=some ob∧ob.dict=none)∧(a==sysModules)=false:=by
 rcases d with⟨aj,e⟩|⟨aj,e⟩
 ·let⟨_,hd,vs,_,dd⟩:=oK I.aH e;refine⟨dd.typeIs,λb q=>?_,hd⟩;cases q;let⟨ob,_,_,h1,h2,_⟩:=dd;exact⟨ob,h1,h2.2.1⟩
 ·let⟨_,hd,xs,_,dd⟩:=m6 I.aH e;refine⟨dd.typeIs,λb q=>?_,hd⟩;cases q;let⟨ob,_,_,h1,h2,_⟩:=dd;exact⟨ob,h1,h2.2.1⟩
section
variable {X:Cx}{pins:List (Addr×Obj)}{σ:St}{H:Hp}{s:Shared}{a:Addr}{y d:V}{u r:Value}{o:Option V}{A:Around}{E:Value→Shared→Prop}
def Zg{Q:Value→Shared→Prop}(hu:A.units+1<cLine)(I:Inv X pins σ H s)(g:iN H a y o)(ry:RelV y u)(rd:RelV d r)(h:∀w' s',Inv X pins σ H s'→RelV (o.getD d) w'→Q w' s') :
  wpAny (model X.prog X.w) A (call (.builtin "dict.get") [.ref a,u,r]) Q E s:=by
 rcases g with⟨aj,k,e,ey,l⟩|⟨aj,k,b,e,ey,eb,l⟩
 ·subst ey;let⟨z,hd,vs,rel,dd⟩:=oK I.aH e;refine call_meetsIn zR dd.typeIs Fq (Fs _ _ _) (meets_dict_get_default (cG X.prog X.w) a (oJ ry) hd r) ⟨_,dd.mapOf,h _ _ (I.tok _) ?_⟩;rw[l];exact(rel.val k).getD rd
 ·subst ey;cases (show u=Value.ref b from ry);let⟨z,hd,xs,rel,dd⟩:=m6 I.aH e;refine call_meetsIn zR dd.typeIs Fq (Fs _ _ _) (meetsH_dict_get_default (tupleKind (cG X.prog X.w)) a b hd r) ⟨ve hu,k,xs,qB I.aH eb,dd,h _ _ (I.tok _) ?_⟩;rw[l];exact(rel.val k).getD rd
end
section
variable {X:Cx}{o e f:Expr}{apos di:Pos}{td ty tx:TE}
end
section
variable {X:Cx}{pins:List (Addr×Obj)}{σ:St}{H:Hp}{s:Shared}{a:Addr}{aj:List (Key×V)}{A:Around}{E:Value→Shared→Prop}
end
section
variable {X:Cx}{pins:List (Addr×Obj)}{σ:St}{H:Hp}{s:Shared}{a:Addr}{y:V}{u:Value}{A:Around}{E:Value→Shared→Prop}
end
end L2
namespace Ql
open PySem PySem.W PySem.Calls PyProof.Rows
def Tc{P:Params}{h:Heap}:∀(ns:List Int) (vs:List Value),WellAll P h vs (ns.map WData.int)→IntsAre vs ns:=by
 intro ns
 induction ns with
 |nil =>
  intro vs w;rw[Fp]at w;cases w;exact .nil
 |cons n ns ih =>
  intro vs w;rw[cY]at w;cases w with
  |cons a b =>
   cases a;exact .cons _ _ (ih _ b)
def Uy{l:OpenLaw}{n:Nat}(hn:l.most=some n){P:Params}{h:Heap}{args:List WData}{vals:List Value}
  (zh:l.row.toRowW.claim.pre args=true) (FV:WellAll P h vals args) :
  ∃a vs ns,vals=[Value.ref a]∧args=[WData.list (ns.map WData.int)]∧h.get? a=some { cls:=.type "list",data:=.seq vs.toArray }∧IntsAre vs ns∧ns.length≤n:=by
 have hsh:WShape.hasAll [] args [.list .int]=true:=(pre_splitW zh).1;have hc:l.pre.holds [] { args:=args }=true:=(pre_splitW zh).2;let⟨d,r,rfl,h1,h2⟩:=hasAllW_cons hsh;obtain rfl:=hasAllW_nil h2;let⟨xs,rfl,h3⟩:=hasW_list h1;let⟨ns,rfl⟩:=items_int h3;have hlen:ns.length≤n:=by
  unfold OpenLaw.pre at hc;have h4:(WTm.not (.lt (.lit (.int (n:Int))) (.len (.arg 0)))).holds [] { args:=[.list (ns.map .int)] }=true:=by
   have h4:=(holds_andW hc).1;rw[hn]at h4;exact h4
  have h5:=condW_of h4 (w_not (w_lt w_lit (w_len_list (w_arg rfl))));rw[dZ]at h5;refine Nat.le_of_not_lt λq=>?_;have q':(n:Int)<((ns.length:Nat):Int):=by omega
  first
   | (rw[eC q']at h5;exact absurd h5 (by decide))
   | (simp at h5;omega)
 cases FV with
 |cons w1 w2 =>
  cases w2;cases w1 with
  |list ho Ej=>exact⟨_,_,ns,rfl,rfl,ho,Tc ns _ Ej,hlen⟩
def Uz(l:OpenLaw)(args:List WData):l.row.toRowW.claim.post args (.bool true) args=true :=
 postW_of (r:=l.row.toRowW) (X:=(true==true))
  (show WShape.has [] (.bool true) .bool=true by first|rfl|decide|simp[WShape.has,WShape.arms,WShape.armsAll])
  (show(WTm.eq .res (.lit (.bool true))).value [] { args:=args,res:=some (.bool true),after:=args }=some (.bool (true==true))from w_eq_bool (w_res rfl) w_lit) rfl
def Tx{l:OpenLaw}{n:Nat}{q:Program}{loose:List Str}{XP:(Str→Option Value)→Heap→Prop}{YP:World→Heap→Prop}{d:DefRec}
  (hn:l.most=some n) (vF:d.params.defaults=[])
  (call:∀(w:World) (s₀ s₁:Shared) (mg mb:Str→Option Value) (fa:Addr) (o:Obj) (pm cd doc:Value) (a:Addr) (vs:List Value) (ns:List Int),
   Ground q loose [] XP w s₀ mg mb s₁.heap→YP w s₁.heap →
   s₁.heap.get? fa=some o→o.data=.func (docDef d.name d.params d.body d.scope pm cd doc)→s₁.heap.CodeRec cd d.name→mg d.name=some (.ref fa) →
   s₁.heap.get? a=some { cls:=.type "list",data:=.seq vs.toArray }→IntsAre vs ns→ns.length≤n→s₁.gens=#[] →
   codeAny (model l.prog w) callerA (.call (.ref fa) ⟨[.ref a],[]⟩) (λr s'=>r=.ok (.ret (.bool true))∧OldK s₁.heap s'.heap∧s'.os=s₁.os∧AllBare s'.gens) s₁) :
  WalkO q loose XP YP l.row.toRowW d [] (λf vs=>PySem.call f vs):=by
 intro w s₀ s₁ mg mb G Y fa o pm cd doc dV kV ho hd iR hD FW hg args vals as zh hlay hrd FV hlo;obtain rfl:dV=.none:=Dflts.none hD vF;obtain rfl:kV=.none:=Dflts.noKw hD;let⟨a,vs,ns,rfl,rfl,Ek,hints,hlen⟩:=Uy hn zh FV;refine enter_call (codeAny_mono (call w s₀ s₁ mg mb fa o pm cd doc a vs ns G Y ho (fd_plain hd) iR FW Ek hints hlen hg) λr s' hq=>?_);let⟨rfl,h2,h3,h4⟩:=hq;exact⟨.inl ⟨.bool true,.bool true,[],rfl,λ_=>rfl,.bool true,Uz l _,λ_=>⟨List.Pairwise.nil,λ_ hm=>(nomatch hm)⟩⟩,h2,h3,h4⟩
section
variable {prog:Program}{w:World}{A:Around}{E:Value→Shared→Prop}{s:Shared}{K:Frag}
end
end Ql
namespace L2
open PySem PySem.Spec PyProof.Rows
theorem tL:∀{vs:List Value}{ns:List Int},IntsAre vs ns→Vals (ns.map V.int) vs
 |_,_,.nil=>.nil
 |_,_,.cons n t h=>.cons ⟨t,rfl⟩ (tL h)
def Only(H:Hp):Prop:=∀b,H b=none∨∃o xs,H b=some (.aW o (.lst xs))
def Vm{P:Program}{w:World}{K:PySem.W.Frag}{mg mb:Str→Option Value}{CX:j7}{k:Nat}{fa a:Addr}{fd:FuncData}{x:Str}{sp:Sp}{s₁:Shared}{vs:List Value}{ns:List Int}
  (KX:K.In s₁.heap) (se:s₁.heap.Ns mainGlobals mg) (hb:s₁.heap.Ns builtinsNs mb) (mI:∀x:Str,x ≠ "__name__" → mb x=bootBuiltins x) (ac9:s₁.heap.NoLimit) (hg:s₁.gens=#[])
  (ha:s₁.heap.get? a=some { cls:=.type "list",data:=.seq vs.toArray }) (hi:IntsAre vs ns) (hl:ns.length≤sizeLine) (hr:eU k callerA)
  (F:∀base:Heap,K.In base→base.Ns mainGlobals mg→lZ P w K mg base CX k fa fd [x] sp) (abq:∀(s:Shared) (u:Value),BindsTo s fd ⟨[u],[]⟩ [(x,u)])
  (lA:∀H:Hp,Only H→b0 K H a (ns.map V.int)→sp [.ref a] H (λv _=>v=.bl true) λ_ _ _=>False)
  (FX:∀H e s',CX [] H s₁ (λ_ _ _=>False) e s'→False) :
  codeAny (model P w) callerA (.call (.ref fa) ⟨[.ref a],[]⟩) (λr s'=>r=.ok (.ret (.bool true))∧OldK s₁.heap s'.heap∧s'.os=s₁.os∧AllBare s'.gens) s₁:=by
 have rv:=tL hi;have ada:=hi.length;have core:∀H:Hp,Only H→b0 K H a (ns.map V.int)→cP P w H s₁.heap→(∀b,H b≠none→b=a)→(H a≠none→K.lookup a=none) →
   codeAny (model P w) callerA (.call (.ref fa) ⟨[.ref a],[]⟩) (λr s'=>r=.ok (.ret (.bool true))∧OldK s₁.heap s'.heap∧s'.os=s₁.os∧AllBare s'.gens) s₁:=by
  intro H hO hS aH hA hK;have Ky:∀{b:Addr}{o:Obj},s₁.heap.get? b=some o→H b=none→(lX s₁.heap H).get? b=some o:=λe n=>U9 e n;have vB:∀{b:Addr}{o:Obj}{es:Array DictEntry}{ep:Nat},s₁.heap.get? b=some o→o.data=.dict es ep→H b=none:=λ{b o es ep} e d=>by
   cases q:H b with
   |none=>rfl
   |some u =>
    have e':b=a:=hA b (by rw[q];simp);subst e';rw[ha]at e;cases e;have d':Data.seq vs.toArray _=Data.dict es ep:=d;cases d'
  have Ai:∀{b:Addr}{m:Str→Option Value},s₁.heap.Ns b m→(lX s₁.heap H).Ns b m:=λ{b m} ⟨o,es,ep,e,d,r⟩=>⟨o,es,ep,Ky e (vB e d),d,r⟩;have Qm:K.In (lX s₁.heap H):=λb o e=>Ky (KX b o e) (by
   cases q:H b with
   |none=>rfl
   |some u =>
    have e':b=a:=hA b (by rw[q];simp);subst e';rw[hK (by rw[q];simp)]at e;cases e)
  have hM:Mod K mg (lX s₁.heap H):=⟨Qm,Ai se,⟨mb,Ai hb,mI⟩,let ⟨mc,h1,h2⟩:=ac9;⟨mc,Ai h1,h2⟩⟩;have e0:zf P w K mg (lX s₁.heap H) callerA [] s₁ H:=⟨rfl,hM,λb o e=>Ww e,rM (Ul _ _),trivial,λb hb=>absurd (show b∈([]:List Addr)from hb) (by simp),aH,.of_eq hg⟩;refine codeAny_mono ((F _ Qm (Ai se)).run callerA [] s₁ H ⟨[.ref a],[]⟩ [.ref a] [.ref a] _ _ hr e0 (abq s₁ (.ref a)) (.cons rfl .nil) (lA H hO hS)) λr s' h=>?_;cases r with
  |error e=>exact(FX H e s' h).elim
  |ok fl =>
   cases fl with
   |next=>exact False.elim h
   |brk=>exact False.elim h
   |cont=>exact False.elim h
   |ret u =>
    let⟨v,H',os,bare,un,adb,r',q⟩:=h;have q':v=.bl true:=q;subst q';obtain rfl:u=Value.bool true:=r';refine⟨rfl,OldK.of_keep λb o e=>?_,os,bare⟩;cases q:H b with
    |none=>exact un.keep b o e q (by intro z;exact absurd (show b∈([]:List Addr)from z) (by simp)) (by simp)
    |some u =>
     rcases hO b with z|⟨ob,xs,z⟩
     ·rw[q]at z;cases z
     ·have z2:=un.jL b ob _ z;let⟨e1,_⟩:=aH b _ z;let⟨e2,_⟩:=adb b _ z2;rw[e]at e1;cases e1;exact e2
 cases hk:K.lookup a with
 |some o =>
  have e:=KX a o hk;rw[ha]at e;cases e;refine core (λ_=>none) (λ_=>.inl rfl) (.inr ⟨_,vs.toArray,_,hk,rfl,rfl,rfl,by rw[gu,ada];exact hl,by simpa using rv⟩) (λb u z=>by have z':(none:Option HO)=some u:=z;cases z') (λb z=>absurd rfl z) λz=>absurd rfl z
 |none =>
  refine core (λb=>if b=a then some (.aW { cls:=.type "list",data:=.seq vs.toArray } (.lst (ns.map V.int)))else none) (λb=>?_) (.inl (.inr ⟨{ cls:=.type "list",data:=.seq vs.toArray },if_pos rfl⟩)) (λb u z=>?_) (λb z=>?_) λ_=>hk
  ·by_cases hb:b=a
   ·exact .inr ⟨_,_,if_pos hb⟩
   ·exact .inl (if_neg hb)
  ·by_cases hb:b=a
   ·have z':=(if_pos hb).symm.trans z;cases z';subst hb;exact⟨ha,by rw[dZ];exact hl,vs,_,rv,ha⟩
   ·have z':=(if_neg hb).symm.trans z;cases z'
  ·by_cases hb:b=a
   ·exact hb
   ·exact absurd (if_neg hb) z
def W0{l:PySem.W.OpenLaw}{n k:Nat}{q:Program}{loose:List Str}{XP:(Str→Option Value)→Heap→Prop}{YP:World→Heap→Prop}{d:DefRec}{K:Params→PySem.W.Frag}{CX:World→j7}{sp:World→Sp}{x:Str}
  (hn:l.most=some n) (FY:n≤sizeLine) (vF:d.params.defaults=[]) (hr:eU k callerA)
  (hY:∀(w:World) (h:Heap),YP w h→(K w.params).In h)
  (F:∀(w:World) (mg:Str→Option Value) (fa:Addr) (h:Heap),(K w.params).In h→h.Ns mainGlobals mg→mg d.name=some (.ref fa) →
   ∃fd:FuncData,(∀(s:Shared) (u:Value),BindsTo s fd ⟨[u],[]⟩ [(x,u)]) ∧
    ∀base:Heap,(K w.params).In base→base.Ns mainGlobals mg→lZ l.prog w (K w.params) mg base (CX w) k fa fd [x] (sp w))
  (lA:∀(w:World) (H:Hp) (a:Addr) (ns:List Int),ns.length≤n→Only H→b0 (K w.params) H a (ns.map V.int)→sp w [.ref a] H (λv _=>v=.bl true) λ_ _ _=>False)
  (FX:∀(w:World) (H:Hp) (s:Shared) (e:Value) (s':Shared),CX w [] H s (λ_ _ _=>False) e s'→False) :
  PySem.W.WalkO q loose XP YP l.row.toRowW d [] (λf vs=>PySem.call f vs):=by
 refine Ql.Tx hn vF λw s₀ s₁ mg mb fa o pm cd doc a vs ns G Y ho hd iR FW Ek hints hlen hg=>?_;have KX:=hY w _ Y;let⟨fd,hb,hF⟩:=F w mg fa _ KX G.T.g FW;exact Vm KX G.T.g G.T.b G.T.builtins G.T.nolimit hg Ek hints (dC hlen FY) hr hF hb (λH hO hS=>lA w H a ns hlen hO hS) λH e s'=>FX w H s₁ e s'
abbrev gC(s:Stmt):Arguments:=match s with
 |.FunctionDef _ a _ _ _ _ _ _ _ _=>a
 |_=>{ posonlyargs:=[],args:=[],vararg:=none,kwonlyargs:=[],kw_defaults:=[],kwarg:=none,defaults:=[] }
abbrev fE(s:Stmt):List Stmt:=match s with
 |.FunctionDef _ _ b _ _ _ _ _ _ _=>b
 |_=>[]
abbrev cu(s:Stmt):Scope:=match s with
 |.FunctionDef _ _ _ _ _ _ sc _ _ _=>sc
 |_=>{ kind:=.function,names:=[],isGenerator:=false,isCoroutine:=false }
noncomputable abbrev mK:j7:=λ_ _ _ _ _ _=>False
noncomputable abbrev E0:XK:=λ_ _ _=>False
def DK{X:Cx}:Passes mK X E0:=λ_ _ _ _ _ _ _ h=>h.elim
structure sf (K:PySem.W.Frag)(x qual:Str)(st:Stmt)(f:Addr)(fd:FuncData):Prop where
 ex:∃(oc:Value) (od:Option Addr) (kV doc pm:Value) (an:Option Addr) (bX ct:Value) (j8:Array (Option Value)),
  fd=PySem.W.fnOf x qual (gC st) (fE st) (cu st) .none kV doc pm an bX ct∧K.lookup f=some ⟨oc,od,.func fd,j8⟩∧PySem.W.codeIn K bX qual=true
 kp:PySem.W.keepIn K (.ref f)=true
section
variable {P:Program}{w:World}{K:PySem.W.Frag}{mg:Str→Option Value}{base:Heap}
def sf.ok{x qual:Str}{st:Stmt}{f:Addr}{fd:FuncData}{N ps:List Str}{k:Nat}{sp:Sp}(F:sf K x qual st f fd)(S:tX N ps (cu st))(len:∀vs H Q E,sp vs H Q E→vs.length=ps.length)
  (uD:∀(bX:Value) (A:Around) (outer:List Env) (s:Shared) (H:Hp) (vs:List V) (Q:VK) (E:XK),eU k (A.deeper (envOfC qual (cu st) s.heap.objs.size f bX))→sp vs H Q E →
   ∃t,gX (nA mK P w K mg base N qual (cu st) f bX A outer s H E).pT (fE st) t∧t { nx:=λ_ H'=>Q .non H',rt:=Q } (start N vs) H):lZ P w K mg base mK (k+1) f fd ps sp:=by
 let⟨oc,od,kV,doc,pm,an,bX,ct,j8,rfl,lk,iR⟩:=F.ex;refine Nv lk iR S len λA outer s H vs Q E hr lA=>?_;let⟨t,h,q⟩:=uD bX A outer s H vs Q E hr lA;exact⟨t,h.pT,q⟩
def sf.binds{x qual:Str}{st:Stmt}{f:Addr}{fd:FuncData}{ps:List Str}(F:sf K x qual st f fd)
  (h:∀(kV doc pm:Value) (an:Option Addr) (bX ct:Value) (us:List Value),us.length=ps.length→bindArgs (PySem.W.fnOf x qual (gC st) (fE st) (cu st) .none kV doc pm an bX ct) ⟨us,[]⟩=pure (ps.zip us)):Binds K fd ps []:=by
 let⟨oc,od,kV,doc,pm,an,bX,ct,j8,rfl,lk,iR⟩:=F.ex;exact .all (h kV doc pm an bX ct)
def L9{x qual:Str}{st:Stmt}{f:Addr}{oc:Value}{od an:Option Addr}{j8:Array (Option Value)}{kV doc pm bX ct:Value}(l:K.lookup f=some ⟨oc,od,.func (PySem.W.fnOf x qual (gC st) (fE st) (cu st) .none kV doc pm an bX ct),j8⟩)
 (c:PySem.W.codeIn K bX qual=true) (k:PySem.W.keepIn K (.ref f)=true):sf K x qual st f (PySem.W.fnOf x qual (gC st) (fE st) (cu st) .none kV doc pm an bX ct):=⟨⟨oc,od,kV,doc,pm,an,bX,ct,j8,rfl,l,c⟩,k⟩
end
def kW{A:Around}{k:Nat}(hr:eU k A):A.units+1<cLine:=eD (Nat.add_le_add_left (by decide:1≤64) _) hr.units
section
variable {X:Cx}
end
def ade{A B:Prop}(h:A):if true=true then A else B:=by
 rw[if_pos rfl];exact h
def aG(H H':Hp):Prop:=∀b o,H b=some o→H' b=some o
def aG.refl(H:Hp):aG H H:=λ_ _ h=>h
def aG.trans{H H1 H2:Hp}(a:aG H H1)(b:aG H1 H2):aG H H2:=λc o h=>b c o (a c o h)
def aG.free{H H':Hp}(e:aG H H'){l:Addr}(h:H' l=Option.none):H l=Option.none:=by
 cases q:H l with
 |none=>rfl
 |some o =>
  rw[e l o q]at h;cases h
section
variable {κ:Type}[DecidableEq κ]
end
def Tq{α β:Type}{l:List α}{f:α→β→Sem (ForInStep β)}(g:α→β→β):∀(c:β),(∀x∈l,∀c,f x c=pure (.yield (g x c)))→forIn l c f=pure (l.foldl (λc x=>g x c) c):=by
 induction l with
 |nil=>intro c _;rfl
 |cons x l ih =>
  intro c h;rw[List.forIn_cons,h x cg,pure_bind];exact ih (g x c) λy hy=>h y (cT _ hy)
abbrev i5(env:Env)(x:Str×NameKind)(cs:List (Str×Addr)):List (Str×Addr):=if (x.2==NameKind.free)=true then (x.1,(env.cells.lookup x.1).getD 0)::cs else cs
def oT(sc:Scope)(env:Env):List (Str×Addr):=sc.names.foldl (λcs x=>i5 env x cs) []
def HB{sc:Scope}{env:Env}(h:∀x∈sc.names,x.2=.free→∃c,env.cells.lookup x.1=some c):closureFor sc env=pure (oT sc env):=by
 simp only[closureFor];rw[Tq (i5 env) [] (λx hx c=>?_)]
 ·rfl
 ·let⟨n,kind⟩:=x;cases hk:kind==NameKind.free with
  |false=>simp[i5,hk]
  |true =>
   let⟨a,ha⟩:=h (n,kind) hx (by simpa using hk);have vG:env.cells.lookup n=some a:=ha;simp[i5,hk,cellOf,vG]
theorem Ma(env:Env)(hh:∀(x:Str×NameKind),x.2=.free→True):∀(names:List (Str×NameKind)) (acc:List (Str×Addr)),(∀x∈names,x.2=.free→∃c,env.cells.lookup x.1=some c)→(∀x c,acc.lookup x=some c→env.cells.lookup x=some c) →
  ∀x c,(names.foldl (λcs x=>i5 env x cs) acc).lookup x=some c→env.cells.lookup x=some c
 |[],acc,_,ha,x,c,h=>ha x c h
 |y::r,acc,hf,ha,x,c,h=>by
  refine Ma env hh r (i5 env y acc) (λz hz=>hf z (cT _ hz)) (λz d hd=>?_) x c h;unfold i5 at hd;split at hd
  ·rename_i hk;let⟨a,e⟩:=hf y cg (by simpa using hk);by_cases q:z=y.1
   ·subst q;simp[e]at hd;rw[e,hd]
   ·have q':(z==y.1)=false:=by simpa using q
    rw[my,q']at hd;exact ha z d hd
  ·exact ha z d hd
theorem Mb(env:Env):∀(names:List (Str×NameKind)) (acc:List (Str×Addr)) (x:Str),((∃c,acc.lookup x=some c)∨(x,NameKind.free)∈names)→∃c,(names.foldl (λcs x=>i5 env x cs) acc).lookup x=some c
  |[],acc,x,h=>by
    rcases h with h|h
    · exact h
    · exact nomatch h
  |y::r,acc,x,h=>by
    refine Mb env r (i5 env y acc) x ?_;by_cases hk:(y.2==NameKind.free)=true
    · by_cases q:x=y.1
      · refine .inl ⟨(env.cells.lookup y.1).getD 0,?_⟩
        unfold i5;rw[if_pos hk,q];simp
      · have q':(x==y.1)=false:=by simpa using q
        rcases h with⟨c,h⟩|h
        · refine .inl ⟨c,?_⟩
          unfold i5;rw[if_pos hk,my,q'];exact h
        · rcases dQ.mp h with e|e
          · exact absurd (dD (·.1) e) q
          · exact .inr e
    · rcases h with⟨c,h⟩|h
      · refine .inl ⟨c,?_⟩
        unfold i5;rw[if_neg hk];exact h
      · rcases dQ.mp h with e|e
        · refine absurd ?_ hk
          rw[←e];rfl
        · exact .inr e
theorem xj{env:Env}{x:Str}{k:NameKind}:∀{names:List (Str×NameKind)},(names.map λ(n,k)=>if (k==NameKind.free&&env.scope.kind==.function&&env.kindOf n==some .cell)then (n,NameKind.cell)else (n,k)).lookup x=some k →
    names.lookup x=some k∨(k=.cell∧names.lookup x=some .free)
  |[],h=>by simp at h
  | (n,j)::r,h=>by
    have ih:=@xj env x k r;rw[cY]at h;cases hx:x==n with
    |true =>
      by_cases hc:(j==NameKind.free&&env.scope.kind==.function&&env.kindOf n==some .cell)=true
      · simp only[hc,if_true]at h
        rw[my,hx]at h;have e:NameKind.cell=k:=dP h;refine .inr ⟨e.symm,?_⟩;rw[my,hx];simp only[Bool.and_eq_true]at hc;have ej:j=.free:=by simpa using hc.1.1
        rw[ej]
      · simp only[hc,Bool.false_eq_true,if_false]at h
        rw[my,hx]at h;exact .inl (by rw[my,hx];exact h)
    |false =>
      have h':(r.map λ(n,k)=>if (k==NameKind.free&&env.scope.kind==.function&&env.kindOf n==some .cell)then (n,NameKind.cell)else (n,k)).lookup x=some k:=by
        by_cases hc:(j==NameKind.free&&env.scope.kind==.function&&env.kindOf n==some .cell)=true
        · simp only[hc,if_true]at h
          rw[my,hx]at h;exact h
        · simp only[hc,Bool.false_eq_true,if_false]at h
          rw[my,hx]at h;exact h
      rw[my,hx];exact ih h'
def Cx.cy(X:Cx)(N:List Str)(sc:Scope)(C:Addr)(s₂:Shared)(H₂:Hp)(fp:List Addr)(pn:List (Addr×Obj)):Cx where
 prog:=X.prog
 w:=X.w
 K:=X.K
 mg:=X.mg
 base:=X.base
 A:=X.A
 N:=N
 s₀:=s₂
 H₀:=H₂
 env:=compEnvC sc (oT sc X.env) C X.env
 outer:=X.stack
 stack:=X.stack
 ex:=fp
 fn:=λ_=>false
 calm:=X.calm
 pn:=pn
 xe:=λ_ _=>False
def nY(X:Cx)(ifs:List Expr)(t:TT):Prop :=
 ∀(pins:List (Addr×Obj)) (s:Shared) (σ:St) (H:Hp) (Q:Bool→Hp→Prop),Inv X pins σ H s→t σ H Q →
  wpAny (model X.prog X.w) X.A (forIn ifs true λc r=>if r=true then do let ok ←isTrue c X.env (eval c X.env);pure (ForInStep.yield ok)else pure (ForInStep.yield r)) (TP X pins σ Q) X.xe s
abbrev zi:TT:=λ_ H Q=>Q true H
def xY{X:Cx}:nY X [] zi:=λ_ _ _ H _ I h=>wpAny_tests_nil ⟨H,I,h⟩
def Kz{X:Cx}{c:Expr}{t:TT}(h:PT X c t):nY X [c] t:=λpins s σ H Q I hq=>wpAny_tests_one (h pins s σ H Q I hq)
abbrev gn(σ:St)(ix:List Nat):St:=ix.map λi=>(σ[i]?).getD none
def uF(J:It)(D:Addr)(H1:Hp)(fr:St)(tc:TT)(te:TE)(Q:Addr→Hp→Prop):Prop :=
 ∃W:Nat→Nat→Hp→Prop,(∃m,W 0 m (upd H1 D (.lst [])))∧∀i m H,W i m H→(J.stop i H∧Q D H) ∨
  (J.go i H∧∀x H',J.j6 i H x H'→tc (some x::fr) H' λb H3=>if b=true then te (some x::fr) H3 λy H4=>∃ys,H4 D=some (.lst ys)∧ys.length<sizeLine∧∃m',m'<m∧W (i+1) m' (upd H4 D (.lst (ys++[y])))
   else ∃m',m'<m∧W (i+1) m' H3)
def Md(gg:TG)(n:Nat)(J:It)(D:Addr)(H1:Hp)(fr:St)(tc:TT)(te:TE)(Q:Addr→Hp→Prop):Prop :=
 ∃W:Nat→Nat→Hp→Prop,(∃m,W 0 m (upd H1 D (.lst [])))∧∀i m H,W i m H→(J.stop i H∧Q D H) ∨
  (J.go i H∧∀x H',J.j6 i H x H'→gg x (List.replicate n none++fr) H' λσ' H2=>H2=H'∧(∃ow:St,ow.length=n∧σ'=ow++fr)∧tc σ' H' λb H3=>if b=true then te σ' H3 λy H4=>∃ys,H4 D=some (.lst ys)∧ys.length<sizeLine∧∃m',m'<m∧W (i+1) m' (upd H4 D (.lst (ys++[y])))
   else ∃m',m'<m∧W (i+1) m' H3)
theorem uF.g{J:It}{D:Addr}{H1:Hp}{fr:St}{tc:TT}{te:TE}{Q:Addr→Hp→Prop}(h:uF J D H1 fr tc te Q):Md (gO 0) 1 J D H1 fr tc te Q:=by
 let⟨W,h0,h⟩:=h;refine⟨W,h0,λi m H w=>?_⟩;rcases h i m H w with z|⟨g,z⟩
 ·exact .inl z
 ·exact .inr ⟨g,λx H' y=>⟨rfl,⟨[some x],rfl,rfl⟩,z x H' y⟩⟩
def qP(wi:TI)(ix:List Nat)(tc:TT)(te:TE):TE:=λσ H Q=>wi σ H λJ H1=>∀D,H1 D=none→uF J D H1 (gn σ ix) tc te λD H=>Q (.ref D) H
def Tz{prog:Program}{w:World}{A:Around}{s:Shared}{R:Result→Shared→Prop}{elt target iter:Expr}{ifs:List Expr}{scope:Scope}{pos:Pos}{it acc:Value}{env:Env}(I:Nat→Shared→Prop)
  (turn:∀n s,I n s→wpAny (model prog w) A (pyNext it) (λr s₁=>match r with
   |none=>R (.ok .next) s₁
   |some v=>wpAny (model prog w) A (letOwnedTupleGo target it v) (λ_ s₂=>wpAny (model prog w) A (assign target env v) (λ_ s₃ =>
    wpAny (model prog w) A (forIn ifs true λc r=>if r=true then do let ok ←isTrue c env (eval c env);pure (ForInStep.yield ok)else pure (ForInStep.yield r)) (λok s₄ =>
     if ok=true then wpAny (model prog w) A (eval elt env) (λx s₅ =>
      wpAny (model prog w) A (call (.builtin "list.append") [acc,x]) (λ_ s₆=>∃m,m<n∧I m s₆) (notedBy (model prog w) A env λe s'=>R (.error e) s') s₅) (notedBy (model prog w) A env λe s'=>R (.error e) s') s₄
     else ∃m,m<n∧I m s₄) (notedBy (model prog w) A env λe s'=>R (.error e) s') s₃) (notedBy (model prog w) A env λe s'=>R (.error e) s') s₂) (notedBy (model prog w) A env λe s'=>R (.error e) s') s₁) (notedBy (model prog w) A env λe s'=>R (.error e) s') s)
  (n:Nat) (h:I n s) :
  codeAny (model prog w) A (.compLoop (.ListComp elt [⟨target,iter,ifs,0⟩] scope pos) 0 it acc env) R s:=by
 refine codeAny_loop rfl I (λn s hI=>?_) n h;show wpAny _ A ((compTurn (.ListComp elt [⟨target,iter,ifs,0⟩] scope pos) 0 it acc env).onRaise (λx=>do noteFrame x env;theTreesLotGoes x)) _ _ s;refine wpAny_noted ?_;rw[compTurn_list];refine aA (zH (aA (fY (turn n s hI) (λr s₁ h₁=>?_) λ_ _ h'=>h')));cases r with
 |none=>exact aN h₁
 |some v =>
  refine aA (fY h₁ (λ_ s₂ h₂=>?_) λ_ _ h'=>h');refine aA (fY h₂ (λ_ s₃ h₃=>aA (fY h₃ (λok s₄ h₄=>?_) λ_ _ h'=>h')) λ_ _ h'=>h');cases ok with
  |false=>exact aN ⟨rfl,h₄⟩
  |true =>
   exact aA (aA (fY h₄ (λx s₅ h₅=>aA (fY h₅ (λ_ s₆ h₆=>aN (aN ⟨rfl,h₆⟩)) λ_ _ h'=>h')) λ_ _ h'=>h'))
structure lQ (N N':List Str)(sc aD:Scope)(x:Str)(ix:List Nat):Prop where
 kind:aD.kind=.function
 yk:∀y∈aD.names,y.2≠.cell
 names:∀y∈aD.names,y.2=.local→aD.names.lookup y.1=some .local
 loc:aD.names.lookup x=some .local
 free:∀y∈aD.names,y.2=.free→sc.names.lookup y.1=some .cell
 nd:N'.Nodup
 hd:N'[0]?=some x
 len:N'.length=ix.length+1
 fr:∀p∈ix.zip N'.tail,N[p.1]?=some p.2∧sc.names.lookup p.2=some .cell∧aD.names.lookup p.2=some .free
structure KC (n:Nat)(N N':List Str)(sc aD:Scope)(ix:List Nat):Prop where
 kind:aD.kind=.function
 yk:∀y∈aD.names,y.2≠.cell
 names:∀y∈aD.names,y.2=.local→aD.names.lookup y.1=some .local
 free:∀y∈aD.names,y.2=.free→sc.names.lookup y.1=some .cell
 len:N'.length=ix.length+n
 fr:∀p∈ix.zip (N'.drop n),N[p.1]?=some p.2∧sc.names.lookup p.2=some .cell∧aD.names.lookup p.2=some .free
def lQ.g{N N':List Str}{sc aD:Scope}{x:Str}{ix:List Nat}(h:lQ N N' sc aD x ix):KC 1 N N' sc aD ix :=
 ⟨h.kind,h.yk,h.names,h.free,h.len,by rw[List.drop_one];exact h.fr⟩
section
variable {X:Cx}{N':List Str}{aD:Scope}{x:Str}{ix:List Nat}{px pos:Pos}{elt iter:Expr}{ifs:List Expr}{wi:TI}{tc:TT}{te:TE}
def TB{n:Nat}{tg:Expr}{gg:TG}{pins:List (Addr×Obj)}{σ:St}{H2:Hp}{s2:Shared}{it:Addr}{fp:List Addr}{tn:Nat→Heap→Prop}{J:It}{RR:Value→Addr→Result→Shared→Prop}{E:Value→Shared→Prop}{Qd:Addr→Hp→Prop}
  (ok:KC n X.N N' X.env.scope aD ix) (hg:∀C s₂ H₂ fp pn,PG (X.cy N' aD C s₂ H₂ fp pn) tg gg) (hc:X.calm=true) (I2:Inv X pins σ H2 s2) (T:Turn X.prog X.w X.K tg J fp it tn) (bE:tn 0 s2.heap) (f2:∀b∈fp,jN X pins H2 b)
  (gH:∀C s₂ H₂ fp pn,nY (X.cy N' aD C s₂ H₂ fp pn) ifs tc) (gZ:∀C s₂ H₂ fp pn,PE (X.cy N' aD C s₂ H₂ fp pn) elt te)
  (hW:∀D,H2 D=none→Md gg n J D H2 (gn σ ix) tc te Qd)
  (FZ:∀D C s4 H4 m,Inv X pins σ H4 s4→s4.heap.Ns C m→(∀(h':Heap) (t':Nat) (σ':St) (s5:Shared),Inv X pins σ' H4 s5→Heap.SameBut C s5.heap h'→Inv X pins σ' H4 { s5 with heap:=h',toks:=t' })→C≠X.env.locals→(∀y c,X.env.cells.lookup y=some c→c≠C)→Qd D H4→RR (.ref D) C (.ok .next) s4) :
  wpAny (model X.prog X.w) X.A (newList []) (λacc s₃=>wpAny (model X.prog X.w) X.A (newFunctionEnv aD X.env.globals (oT aD X.env) [] X.env.qual none .none (some X.env)) (λuP s₄ =>
   codeAny (model X.prog X.w) X.A (.compStart (.ListComp elt [⟨tg,iter,ifs,0⟩] aD pos) 0 (.ref it) acc { uP with scope:=relabel aD X.env }) (RR acc uP.locals) s₄) E s₃) E s2:=by
 refine nQ (wpAny_newFunctionEnv ok.yk (by intro y hy;simp at hy) (λh₁ hns₁ hsb₁=>?_) ok.kind);dsimp only at hns₁ hsb₁ ⊢;generalize F0:s2.heap.push { cls:=.type "list",dict:=none,data:=.seq ([]:List Value).toArray }=HP at hns₁ hsb₁ ⊢;have hC:HP.objs.size=s2.heap.objs.size+1:=by rw[←F0,Heap.size_push]
 have Aj:s2.heap.objs.size≠HP.objs.size:=by rw[hC];exact fu (Nat.lt_succ_self _)
 have uQ:s2.heap.objs.size≤HP.objs.size:=by rw[hC];exact Nat.le_succ _
 have below:∀b,b<s2.heap.objs.size→b≠HP.objs.size∧b≠s2.heap.objs.size:=λb hb=>⟨by rw[hC];exact fu (Nat.lt_succ_of_lt hb),fu hb⟩;have old:∀b o,s2.heap.get? b=some o→h₁.get? b=some o:=λb o e=>hsb₁.extBut b o (below b (bZ e)).1 (cw _ (F0▸cw _ e));have iO:h₁.get? s2.heap.objs.size=some { cls:=.type "list",dict:=none,data:=.seq ([]:List Value).toArray }:=hsb₁.extBut _ _ Aj (cw _ (F0▸gq _ rfl));have F1:H2 s2.heap.objs.size=none:=I2.aH.fresh (aU _);have Qn:H2 HP.objs.size=none:=I2.aH.fresh uQ;generalize hD:s2.heap.objs.size=D at Aj iO F1 ⊢;generalize hCC:HP.objs.size=C at hns₁ hsb₁ Aj Qn uQ below ⊢;have yG:∀y∈aD.names,y.2=.free→∃c,X.env.cells.lookup y.1=some c:=λy hy e=>I2.ok.has y.1 (.inl (ok.free y hy e));have nZ:∀y c,(oT aD X.env).lookup y=some c→X.env.cells.lookup y=some c:=Ma X.env (λ_ _=>trivial) aD.names [] yG (λ_ _ z=>by simp at z);have Qo:∀y,(y,NameKind.free)∈aD.names→∃c,(oT aD X.env).lookup y=some c:=λy hy=>Mb X.env aD.names [] y (.inr hy);have Mf:∀y c,X.env.cells.lookup y=some c→c<s2.heap.objs.size:=λy c e=>by
  let⟨v,o,ho,_⟩:=I2.cell y c e;exact bZ ho
 have El:∀b∈fp,b<s2.heap.objs.size:=λb hb=>by
  let⟨o,e,_⟩:=T.obj 0 _ bE b hb;exact bZ e
 have Em:∀b,b≠X.env.locals→b∉X.fs→b∉jv X.stack:=λb h1 h2 z=>(dQ.mp (I2.Di b z)).elim h1 h2;have okB:(X.cy N' aD C s2 H2 fp (X.pn++pins)).Ok:=by
  refine⟨I2.ok.mod,ok.kind,I2.ok.glob,I2.ok.blt,uQ,λy z c h1 h2=>?_,λy hy=>?_,λy c z=>?_,I2.ok.hd,I2.ok.frames,.inl rfl,λb hb=>?_,I2.bs,dC I2.ok.mD I2.sz,λb o e hb=>?_,λb hb=>?_,I2.stack,I2.Kl⟩
  ·exact I2.ok.inj y z c (nZ y c h1) (nZ z c h2)
  ·have FU:(relabel aD X.env).names.lookup y=some .cell∨(relabel aD X.env).names.lookup y=some .free:=hy;have hf:aD.names.lookup y=some .free:=by
    rcases FU with z|z
    ·rcases xj z with q|q
     ·exact absurd rfl (ok.yk _ (nM q))
     ·exact q.2
    ·rcases xj z with q|q
     ·exact q
     ·exact absurd q.1 (by decide)
   exact Qo y (nM hf)
  ·exact nomatch z
  ·exact⟨(below b (El b hb)).1,λy c e=>(f2 b hb).2.2.2.2.1 y c (nZ y c e)⟩
  ·rcases (f2 b hb).2.2.2.1 with z|z
   ·exact I2.ok.uM b o e z
   ·exact absurd (fJ (bZ e) (dC I2.ok.mD z)) (jX _)
  ·exact Em b (f2 b hb).2.1 (f2 b hb).2.2.1
 have F2:∀{H':Hp},(∀b∈fp,H' b=none)→∀b∈fp,jN (X.cy N' aD C s2 H2 fp (X.pn++pins)) [] H' b:=λhn b hb =>
  ⟨hn b hb,(below b (El b hb)).1,Em b (f2 b hb).2.1 (f2 b hb).2.2.1,.inl hb,λy c e=>(f2 b hb).2.2.2.2.1 y c (nZ y c e),λp hp=>(f2 b hb).2.2.2.2.2 p (by simpa using (show p∈(X.pn++pins)++[] from hp))⟩
 let⟨mL,hmL,abr⟩:=id I2.loc;have IB:Inv (X.cy N' aD C s2 H2 fp (X.pn++pins)) [] (List.replicate n none++gn σ ix) (upd H2 D (.lst [])) { s2 with heap:=h₁,toks:=s2.toks+([]:List (Str×Value)).length }:=by
  refine⟨okB,rfl,I2.bare,Un.laid old (rM hD) F1,⟨_,hns₁,λi y v h1 h2 h3=>?_⟩,λy c e=>?_,?_,λy c e=>?_,λp hp=>?_,I2.aH.laid old (rM hD) ⟨jt _,[],_,.nil,iO⟩,?_⟩
  ·by_cases Qp:i<n
   ·rw[pL (by simpa using Qp),vd,if_pos Qp]at h2;cases h2
   ·obtain⟨j,rfl⟩:∃j,i=n+j:=⟨i-n,by omega⟩;have n5:(gn σ ix)[j]?=some (some v):=by
     rw[List.getElem?_append_right (by simp)]at h2;simpa using h2
    unfold gn at n5;rw[cF]at n5;cases ei:ix[j]? with
    |none=>rw[ei]at n5;cases n5
    |some i =>
     rw[ei]at n5;have zj:(σ[i]?).getD none=some v:=dP n5;have hσ:σ[i]?=some (some v):=by
      cases es:σ[i]? with
      |none=>rw[es]at zj;cases zj
      |some q=>rw[es]at zj;exact dD some zj
     have adf:(N'.drop n)[j]?=some y:=by rw[List.getElem?_drop];exact h1
     let⟨n1,n2,n3⟩:=ok.fr (i,y) (dH (i:=j) (by rw[List.getElem?_zip_eq_some];exact⟨ei,adf⟩));let⟨u,ru,lk⟩:=abr i y v n1 hσ (.inr (.inl n2));refine⟨u,ru,?_⟩;rcases lk with⟨k,_⟩|⟨_,c,ec,z⟩
     ·have k':X.env.scope.names.lookup y=some .local:=k;rw[n2]at k';cases k'
     ·let⟨c',Qq⟩:=Qo y (nM n3);have e3:=nZ y c' Qq;rw[ec]at e3;cases e3;have kk:(relabel aD X.env).names.lookup y=some .cell∨(relabel aD X.env).names.lookup y=some .free:=by
       rcases h3 with q|q|q
       ·have q':(relabel aD X.env).names.lookup y=some .local:=q;rcases xj q' with r|r
        ·rw[n3]at r;cases r
        ·exact absurd r.1 (by decide)
       ·exact .inl q
       ·exact .inr q
      exact .inr ⟨kk,c,Qq,z.keeps old⟩
  ·let⟨v,z⟩:=I2.cell y c (nZ y c e);exact⟨v,z.keeps old⟩
  ·show upd H2 D (.lst []) C=none;rw[aI (ll Aj)];exact Qn
  ·show upd H2 D (.lst []) c=none;have l:=Mf y c (nZ y c e);rw[aI (λq=>by rw[q,←hD]at l;exact jX _ l)];exact I2.iI y c (nZ y c e)
  ·have Ak:p∈X.pn++pins:=by simpa using (show p∈(X.pn++pins)++[] from hp)
   let⟨e,n,ne,nf,d⟩:=I2.pin p Ak;have l:=bZ e;refine⟨old _ _ e,?_,(below p.1 l).1,Em p.1 ne nf,d⟩;rw[aI (λq=>by rw[q,←hD]at l;exact jX _ l)];exact n
  ·show(List.replicate n none++gn σ ix:St).length=N'.length;rw[ok.len];simp[gn,Nat.add_comm]
 have back:∀{H4:Hp}{s4:Shared}{σ4:St}{ps:List (Addr×Obj)},Inv (X.cy N' aD C s2 H2 fp (X.pn++pins)) ps σ4 H4 s4→Inv X pins σ H4 s4:=λI4 =>
  I2.aa7 I4.os I4.base I4.aH I4.bare λb hb=>⟨(f2 b hb).2.2.2.1,(f2 b hb).2.1,(f2 b hb).2.2.2.2.1,(f2 b hb).2.2.2.2.2⟩
 have pS:C≠X.env.locals:=λz=>by
  have l:=I2.lt;rw[←z]at l;exact absurd (fJ l uQ) (jX _)
 have mE:∀y c,X.env.cells.lookup y=some c→c≠C:=λy c e=>(below c (Mf y c e)).1;have neP:∀p∈X.pn++pins,p.1≠C:=λp hp=>(below p.1 (bZ (I2.pin p hp).1)).1;have loop:∀s₃:Shared,s₃={ s2 with heap:=h₁,toks:=s2.toks+([]:List (Str×Value)).length } →
   codeAny (model X.prog X.w) X.A (.compLoop (.ListComp elt [⟨tg,iter,ifs,0⟩] aD pos) 0 (.ref it) (.ref D) (compEnvC aD (oT aD X.env) C X.env)) (RR (.ref D) C) s₃:=by
  rintro s₃ rfl;let⟨W,⟨m0,hw0⟩,turn⟩:=hW D F1;refine Tz (λk s'=>∃i H',Inv (X.cy N' aD C s2 H2 fp (X.pn++pins)) [] (List.replicate n none++gn σ ix) H' s'∧tn i s'.heap∧(∀b∈fp,H' b=none)∧W i k H') ?_ m0
   ⟨0,_,IB,T.keep _ _ _ bE λb _ o e=>old b o e,λb hb=>?_,hw0⟩
  ·rintro k s3 ⟨i,H3,I3,bH,vy,w3⟩;rcases turn i k H3 w3 with⟨stop,qn⟩|⟨go,step⟩
   ·refine aJ (T.done (X.cy N' aD C s2 H2 fp (X.pn++pins)) rfl rfl rfl hc i [] s3 _ H3 _ I3 (F2 vy) bH stop) λr s4 ⟨hr,I4⟩=>?_;subst hr;let⟨m4,hm4,_⟩:=id I4.loc;refine FZ D C s4 H3 m4 (back I4) hm4 (λh' t' σ' s5 I5 sb=>I5.turned (it:=C) (λb o hb e=>(sb.2 b hb).trans e) I4.free pS (.inr (dC I2.sz uQ)) mE neP) pS mE qn
   ·refine aJ (T.item (X.cy N' aD C s2 H2 fp (X.pn++pins)) rfl rfl rfl hc i [] s3 _ H3 _ I3 (F2 vy) bH go) λr s4 ⟨u,hr,h4⟩=>?_;subst hr;refine aJ h4 λ_ s5 ⟨v,H5,I5,r5,y5,fM,FH⟩=>?_;have FI:=I5.pinned (F2 FH) (T.obj _ _ fM);have fin:∀{ow:St}{H7:Hp}{s7:Shared},ow.length=n→Inv (X.cy N' aD C s2 H2 fp (X.pn++pins)) ([]++uf fp s5.heap) (ow++gn σ ix) H7 s7→∀{m':Nat},m'<k→W (i+1) m' H7 →
      ∃m,m<k∧∃i H',Inv (X.cy N' aD C s2 H2 fp (X.pn++pins)) [] (List.replicate n none++gn σ ix) H' s7∧tn i s7.heap∧(∀b∈fp,H' b=none)∧W i m H':=λ{ow H7 s7} how I7 {m'} hm w7=>by
     refine⟨m',hm,i+1,H7,I7.xK.weak (by rw[fw,fw,how,zJ]) (λj q e=>?_),T.keep _ _ _ fM λb hb o e=>(I7.pin (b,o) (jo _ (jo _ (xA hb e)))).1,λb hb=>?_,w7⟩
     ·by_cases hj:j<n
      ·rw[pL (by simpa using hj),vd,if_pos hj]at e;cases e
      ·rw[List.getElem?_append_right (by simpa using hj)]at e;rw[List.getElem?_append_right (by omega),how];simpa using e
     ·let⟨o,e,d⟩:=T.obj _ _ fM b hb;exact(I7.pin (b,o) (jo _ (jo _ (xA hb e)))).2.1
    refine fY (hg C s2 H2 fp (X.pn++pins) _ s5 _ H5 v u _ FI r5 (step v H5 y5)) (λ_ s6 ⟨σ6,H6,I6,e1,⟨ow,how,e2⟩,q6⟩=>?_) λ_ _ z=>z.elim;subst e1 e2;refine fY (gH C s2 H2 fp (X.pn++pins) _ s6 _ _ _ I6 q6) (λb s7 ⟨H7,I7,q7⟩=>?_) λ_ _ z=>z.elim;cases b with
    |false =>
     rw[if_neg bw]at q7 ⊢;let⟨m',hm,w7⟩:=q7;exact fin how I7 hm w7
    |true =>
     rw[if_pos rfl]at q7 ⊢;refine fY (gZ C s2 H2 fp (X.pn++pins) _ s7 _ _ _ I7 q7) (λuy s8 ⟨y,H8,I8,r8,ys,pY,hl,m',hm,w8⟩=>?_) λ_ _ z=>z.elim;refine fY (IX (X:=X.cy N' aD C s2 H2 fp (X.pn++pins)) _ s8 _ H8 (.ref D) [y] (.ref D) [uy] (λ_ H'=>H'=upd H8 D (.lst (ys++[y]))) I8 rfl (.cons r8 .nil) ⟨D,ys,y,rfl,rfl,pY,hl,rfl⟩) (λ_ s9 ⟨z,H9,I9,_,q9⟩=>?_) λ_ _ z=>z.elim;subst q9;exact fin how I9 hm w8
  ·show upd H2 D (.lst []) b=none;have l:=El b hb;rw[aI (λq=>by rw[q,←hD]at l;exact jX _ l)];exact(f2 b hb).1
 exact codeAny_compStart_list (loop _ rfl) (T.self X.A 0 _ _ _ (T.keep _ _ _ bE λb _ o e=>old b o e) (loop _ rfl))
def Ii{pins:List (Addr×Obj)}{σ:St}{H2:Hp}{s2:Shared}{it:Addr}{fp:List Addr}{tn:Nat→Heap→Prop}{J:It}{RR:Value→Addr→Result→Shared→Prop}{E:Value→Shared→Prop}{Qd:Addr→Hp→Prop}
  (ok:lQ X.N N' X.env.scope aD x ix) (hc:X.calm=true) (I2:Inv X pins σ H2 s2) (T:Turn X.prog X.w X.K (.Name x px) J fp it tn) (bE:tn 0 s2.heap) (f2:∀b∈fp,jN X pins H2 b)
  (gH:∀C s₂ H₂ fp pn,nY (X.cy N' aD C s₂ H₂ fp pn) ifs tc) (gZ:∀C s₂ H₂ fp pn,PE (X.cy N' aD C s₂ H₂ fp pn) elt te)
  (hW:∀D,H2 D=none→uF J D H2 (gn σ ix) tc te Qd)
  (FZ:∀D C s4 H4 m,Inv X pins σ H4 s4→s4.heap.Ns C m→(∀(h':Heap) (t':Nat) (σ':St) (s5:Shared),Inv X pins σ' H4 s5→Heap.SameBut C s5.heap h'→Inv X pins σ' H4 { s5 with heap:=h',toks:=t' })→C≠X.env.locals→(∀y c,X.env.cells.lookup y=some c→c≠C)→Qd D H4→RR (.ref D) C (.ok .next) s4) :
  wpAny (model X.prog X.w) X.A (newList []) (λacc s₃=>wpAny (model X.prog X.w) X.A (newFunctionEnv aD X.env.globals (oT aD X.env) [] X.env.qual none .none (some X.env)) (λuP s₄ =>
   codeAny (model X.prog X.w) X.A (.compStart (.ListComp elt [⟨.Name x px,iter,ifs,0⟩] aD pos) 0 (.ref it) acc { uP with scope:=relabel aD X.env }) (RR acc uP.locals) s₄) E s₃) E s2:=by
 have mM:∀C s₂ H₂ fp pn,(X.cy N' aD C s₂ H₂ fp pn).env.scope.names.lookup x=some .local:=λ_ _ _ _ _=>lookup_relabel_local ok.loc;exact TB ok.g (λC s₂ H₂ fp pn=>Kn (X:=X.cy N' aD C s₂ H₂ fp pn) (i:=0) ok.nd ok.hd (.inl (mM C s₂ H₂ fp pn)) (.inr (mM C s₂ H₂ fp pn))) hc I2 T bE f2 gH gZ (λD hD=>(hW D hD).g) FZ
def xZ(ok:lQ X.N N' X.env.scope aD x ix)(hc:X.calm=true)(hi:PI X (.Name x px) iter wi)(gH:∀C s₂ H₂ fp pn,nY (X.cy N' aD C s₂ H₂ fp pn) ifs tc)(gZ:∀C s₂ H₂ fp pn,PE (X.cy N' aD C s₂ H₂ fp pn) elt te)
  (hs:∀x,foldedSetIterable iter X.env x=pure x:=by intro _;rfl):PE X (.ListComp elt [⟨.Name x px,iter,ifs,0⟩] aD pos) (qP wi ix tc te):=by
 intro pins s σ H Q I h;rw[eval_ListComp];refine wpAny_comprehension_free (use:=none) rfl hs (HB λy hy e=>I.ok.has y.1 (.inl (ok.free y hy e))) ok.kind ok.names (aJ (hi pins s σ H _ I h) λv s1 h1=>aJ h1 λAf s2 h2=>?_);let⟨it,fp,tn,J,H2,e,I2,T,bE,f2,hW⟩:=h2;subst e;refine Ii (RR:=λacc C=>compPost (model X.prog X.w) X.A X.xe none (EP X pins σ Q) acc C) (Qd:=λD H=>Q (.ref D) H) ok hc I2 T bE f2 gH gZ hW ?_;intro D C s4 H4 m I4 se tr _ _ q;exact⟨m,se,λh' sb=>⟨.ref D,H4,tr h' s4.toks σ s4 I4 sb,rfl,q⟩⟩
def T7{i:Nat}{y:Str}{py uR:Pos}(hN:X.N.Nodup)(F3:X.N[i]?=some y)(hy:X.env.scope.names.lookup y=some .local)(ok:lQ X.N N' X.env.scope aD x ix)(hc:X.calm=true)(hi:PI X (.Name x px) iter wi)(gH:∀C s₂ H₂ fp pn,nY (X.cy N' aD C s₂ H₂ fp pn) ifs tc)
  (gZ:∀C s₂ H₂ fp pn,PE (X.cy N' aD C s₂ H₂ fp pn) elt te) (F4:swapsWith (.ListComp elt [⟨.Name x px,iter,ifs,0⟩] aD pos) (some (.Name y py)) uR.line X.env=pure true:=by rfl)
  (hs:∀x,foldedSetIterable iter X.env x=pure x:=by intro _;rfl):PS X (.Assign [.Name y py] (.ListComp elt [⟨.Name x px,iter,ifs,0⟩] aD pos) uR) (il (qP wi ix tc te) (gO i)):=by
 intro pins s σ H D I h;rw[exec_Assign_Name_used _ _ _ _ F4];refine aA (zH (aA ?_));show wpAny _ X.A (do let _ ←comprehension (.ListComp elt [⟨.Name x px,iter,ifs,0⟩] aD pos) aD X.env _ (newList []) false (eval iter X.env) (some (assign (.Name y py) X.env))) _ _ s;refine aA (fY (wpAny_comprehension_free (use:=some (assign (.Name y py) X.env)) (Q:=λ_ s'=>SP X pins D .next s') rfl hs (HB λy hy e=>I.ok.has y.1 (.inl (ok.free y hy e))) ok.kind ok.names
  (aJ (hi pins s σ H _ I h) λv s1 h1=>aJ h1 λAf s2 h2=>?_)) (λ_ s' hq=>aN (aN hq)) λ_ _ e=>e)
 let⟨it,fp,tn,J,H2,e,I2,T,bE,f2,hW⟩:=h2;subst e;refine Ii (RR:=λacc C=>compPost (model X.prog X.w) X.A X.xe (some (assign (.Name y py) X.env)) (λ_ s'=>SP X pins D .next s') acc C) (Qd:=λB H=>D.nx (σ.set i (some (.ref B))) H) ok hc I2 T bE f2 gH gZ hW ?_;intro B C s4 H4 m I4 se tr pS mE q;show wpAny _ X.A (assign (.Name y py) X.env (.ref B)) _ _ s4;refine wpAny_assign_Name (IL I4 hN F3 (.inl hy) (show RelV (.ref B) (.ref B)from rfl) (λs5 I5 ⟨a,sb,ha⟩=>?_) (.inr hy));have hCa:C≠a:=by
  rcases ha with e|e
  ·rw[e];exact pS
  ·exact ll (mE y a e)
 exact⟨m,se.sameBut sb hCa,λh' sb'=>⟨_,H4,tr h' s5.toks _ s5 I5 sb',q⟩⟩
end
def iK(h:Heap)(d:Addr)(es:Array DictEntry)(ep:Nat):Prop:=∃o,h.get? d=some o∧o.ExactDict∧o.data=.dict es ep
def iK.ty{s:Shared}{d:Addr}{es:Array DictEntry}{ep:Nat}(x:iK s.heap d es ep):s.TypeIs (.ref d) "dict" := let ⟨o,ho,hc,_⟩:=x;⟨o,ho,hc.1⟩
def iK.at{h h':Heap}{d:Addr}{es:Array DictEntry}{ep:Nat}(x:iK h d es ep)(e:∀o,h.get? d=some o→h'.get? d=some o):iK h' d es ep:=let ⟨o,ho,r⟩:=x;⟨o,e _ ho,r⟩
def iK.lt{h:Heap}{d:Addr}{es:Array DictEntry}{ep:Nat}(x:iK h d es ep):d<h.objs.size:=let ⟨_,ho,_⟩:=x;bZ ho
section
variable {prog:Program}{w:World}{A:Around}{E:Value→Shared→Prop}{s:Shared}{d it:Addr}{es:Array DictEntry}{i ep:Nat}
def Ij{Q:Value→Shared→Prop}(hd:(d==sysModules)=false)(hm:iK s.heap d es ep)
  (hQ:Q (.ref s.heap.objs.size) { s with heap:=s.heap.push { cls:=.type "dict_keyiterator",data:=.fields #[.ref d,.int 0 0,.int es.size 0,.int ep 0] } }):wpAny (model prog w) A (pyIter (.ref d)) Q E s:=by
 let⟨o,ho,hc,ra⟩:=id hm;have hT:=hm.ty;refine wpAny_pyIter_slot hT F.slot_dict_iter (pG F.slot_dict_iter hT F.entry_dict_iter ?_ (F.args_dict_iter_1 _));unfold Builtin.«dict.__iter__»;refine aA ?_;unfold Builtin.Dict.dictSlotNone;refine aA (wpAny_notOrdered_dict hT ?_);show wpAny _ _ (pure (Value.ref d)) _ _ s;refine aN ?_;show wpAny _ _ (Builtin.Dict.showsAll d >>= _) _ _ s;unfold Builtin.Dict.showsAll;rw[if_neg (by rw[hd];exact bw)];refine aA (aN ?_);refine aA (zS ho ra ?_);refine aA (vf ho ra ?_);refine aA (nQ (aN ⟨_,rfl, "dict_keyiterator",_,⟨_,gq _ rfl,rfl⟩,vg.lookup,?_⟩));simpa[rawInt]using hQ
def Ik{e:DictEntry}{Q:Option Value→Shared→Prop}(hit:s.heap.IsKeyIter it d i es.size ep)(hm:iK s.heap d es ep)(hx:es[i]?=some e)
  (hQ:∀h',h'.IsKeyIter it d (i+1) es.size ep→Heap.SameBut it s.heap h'→Q (some e.key) { s with heap:=h' }):wpAny (model prog w) A (pyNext (.ref it)) Q E s:=by
 let⟨o,ho,hc,hd⟩:=id hit;let⟨od,vH,iR,vI⟩:=id hm;unfold pyNext;refine aA (wpAny_attempt (zL (name:=Str.ofString "__next__") hit.typeIs vg (pG vg hit.typeIs PQ ?_ (PR _))));refine aA (aN ?_);refine aA ?_;refine aA ?_
 (first|refine aA (zT hit.typeIs (aN ?_))|refine aA (zU hit.typeIs (aN ?_)));refine aA (wpAny_fieldsOf ho hd ?_)
 have En:Builtin.Dict_items.ownsTuple "dict_keyiterator" = false:=by decide +kernel
 simp only[En,Bool.false_eq_true,if_false];show wpAny _ _ (if (Value.ref d==Value.none)=true then _ else _) _ _ s;rw[if_neg (show ¬((Value.ref d==Value.none)=true)from bw)];refine aA (aN ?_);refine aA (zS vH vI ?_);rw[if_neg (by simp)];refine aA (aN ?_);refine aA (vf vH vI ?_);rw[if_neg (by simp)];refine aN ?_;have aX:i<es.size:=(PV.mp hx).1;have lD:es[i]=e:=(PV.mp hx).2;simp only[show ¬((i:Int)<0)from by omega,if_false,Int.toNat_natCast,Array.getElem?_eq_getElem aX];refine aA ?_
 (first|refine aA (zT hit.typeIs (aN ?_))|refine aA (zU hit.typeIs (aN ?_)));refine aA (wpAny_isOneOf_keyiter hit.typeIs ?_)
 show wpAny _ _ (setField (.ref it) 1 (rawInt ((i:Int)+1)) >>= _) _ _ s;refine aA (wpAny_setField ho hd (by simp) ?_);have zk:(s.heap.update it (Obj.mapFields (·.setIfInBounds 1 (rawInt ((i:Int)+1))))).IsKeyIter it d (i+1) es.size ep:=⟨_,Heap.get?_update_self _ ho (Obj.isFreed_of_fields (Obj.data_mapFields hd _)),(Obj.cls_mapFields ..).trans hc,by rw[Obj.data_mapFields hd];simp[rawInt]⟩;refine aA (jY ?_);refine aA (wpAny_isOneOf_keyiter (s:={ s with heap:=s.heap.update it (Obj.mapFields (·.setIfInBounds 1 (rawInt ((i:Int)+1)))) }) zk.typeIs ?_);show wpAny _ _ (pure es[i].key) _ _ _;rw[lD];exact aN (aN ⟨_,rfl,aN (hQ _ zk (Heap.SameBut.update ..))⟩)
def Ja{Q:Option Value→Shared→Prop}(hh:A.handled=none)(hit:s.heap.IsKeyIter it d i es.size ep)(hm:iK s.heap d es ep)(hx:es.size≤i)
  (hQ:∀h',Heap.ExtBut it s.heap h'→Q none { s with heap:=h' }):wpAny (model prog w) A (pyNext (.ref it)) Q E s:=by
 let⟨o,ho,hc,hd⟩:=id hit;let⟨od,vH,iR,vI⟩:=id hm;unfold pyNext;refine aA (wpAny_attempt (zL (name:=Str.ofString "__next__") hit.typeIs vg (pG vg hit.typeIs PQ ?_ (PR _))));refine aA (aN ?_);refine aA ?_;refine aA ?_
 (first|refine aA (zT hit.typeIs (aN ?_))|refine aA (zU hit.typeIs (aN ?_)));refine aA (wpAny_fieldsOf ho hd ?_)
 have En:Builtin.Dict_items.ownsTuple "dict_keyiterator" = false:=by decide +kernel
 simp only[En,Bool.false_eq_true,if_false];show wpAny _ _ (if (Value.ref d==Value.none)=true then _ else _) _ _ s;rw[if_neg (show ¬((Value.ref d==Value.none)=true)from bw)];refine aA (aN ?_);refine aA (zS vH vI ?_);rw[if_neg (by simp)];refine aA (aN ?_);refine aA (vf vH vI ?_);rw[if_neg (by simp)];refine aN ?_;simp only[show ¬((i:Int)<0)from by omega,if_false,Int.toNat_natCast,Array.getElem?_eq_none hx];refine aA ?_
 (first|refine aA (zT hit.typeIs (aN ?_))|refine aA (zU hit.typeIs (aN ?_)));show wpAny _ _ (setField (.ref it) 0 .none >>= _) _ _ s
 refine aA (wpAny_setField ho hd (by simp) ?_);show wpAny _ _ (newExc (.type "StopIteration") [] >>= _) _ _ _;refine aA ?_;simp only[newExc,newTuple];refine aA (nQ ?_ (by size_fits));refine aA (m:=firstArgMember _ _) (wpAny_of_eq (a:=Value.none) (by first|rfl | (simp only[firstArgMember];rfl)) ?_);refine nQ ?_ (by size_fits);simp only[raiseNew];refine aA (wpAny_handled ?_);rw[show A.in1.handled=none from hh];refine aA (aN (wpAny_throw ?_));refine aA (wpAny_isInstance (T := "StopIteration") (b:=true) ⟨_,gq _ rfl,rfl⟩ isSubtype_stop ?_);exact aN (hQ _ (((Heap.SameBut.update ..).extBut.push _).push _))
def TC(hh:A.handled=none)(I d:Addr)(f7:d≠I)(es:Array DictEntry)(ep:Nat) :
  Walks prog w A I [I,d] [I] es.size (λi v=>∃e,es[i]?=some e∧v=e.key) (λi h=>h.IsKeyIter I d i es.size ep∧iK h d es ep) where
 sub:=λb hb=>by
  have e:b=I:=by simpa using hb
  rw[e];exact cg
 frame:=λ_ _ _ st hk=>⟨st.1.at λo e=>hk I cg o e,st.2.at λo e=>hk d (cT _ cg) o e⟩
 item:=λi s Q E hi st hQ=>Ik st.1 st.2 (e:=es[i]) (by simp[hi]) λh' zk mN=>hQ _ h' s.toks ⟨es[i],by simp[hi],rfl⟩ ⟨zk,st.2.at λo e=>mN.extBut d o f7 e⟩ λb o hb e=>mN.extBut b o (λz=>hb (by rw[z];exact cg)) e
 done:=λs Q E st hQ=>Ja hh st.1 st.2 (aU _) λh' F5=>hQ h' s.toks λb o hb e=>F5 b o (λz=>hb (by rw[z];exact cg)) e
 self:=λ_ _ _ _ st hQ=>wpAny_pyIter_keyiter st.1 hQ
def Jb(lo:(d==sysModules)=false):PySem.W.KdlSrc prog w "dict" d d es.size (λi v=>∃e,es[i]?=some e∧v=e.key) (λh=>iK h d es ep) where
 type:=λ_ hm=>hm.ty
 there:=λ_ hm=>⟨hm.lt,hm.lt⟩
 keep:=λ_ _ hm hk=>hm.at λo e=>hk d (.inl rfl) o e
 notList:=by decide +kernel
 notTuple:=by decide +kernel
 hint:=λ_ _ _ _ hm hq=>PySem.W.kdl_hint_dict hm.ty hq
 iter:=λ_ _ hh hm=>⟨_,_,(λ_ _ hq=>Ij lo hm hq),TC hh _ d (fu hm.lt) es ep,⟨⟨_,gq _ rfl,rfl,rfl⟩,hm.at λo e=>cw _ e⟩⟩
end
def qD(H:Hp):List (List Key)→List Addr→Prop:=Paired λk b=>H b=some (.tup (k.map kV))
section
variable {X:Cx}
theorem B3:∀(bs:List Addr),Vals (bs.map V.ref) (bs.map Value.ref)
 |[]=>.nil
 |_::r=>.cons rfl (B3 r)
theorem CK{H:Hp}:∀{aj:List (List Key×V)}{xs:List (List Key×Addr×Value)},Paired (λ(p:List Key×V) (q:List Key×Addr×Value)=>p.1=q.1∧H q.2.1=some (.tup (p.1.map kV))∧RelV p.2 q.2.2) aj xs→qD H (aj.map (·.1)) (xs.map (·.2.1))
 |_,_,.nil=>.nil
 |_,_,.cons r t=>.cons r.2.1 (CK t)
def Tr(hc:X.calm=true):iJ X (.type "list") (λxs H Q=>∃d aj,xs=[.ref d]∧H d=some (.dT aj)∧∀l bs,H l=none→qD H (aj.map (·.1)) bs→Q (.ref l) (upd H l (.lst (bs.map V.ref)))):=by
 intro pins s σ H xs us Q I r h;let⟨d,aj,rfl,hd,q⟩:=h;let⟨u,rfl,rx⟩:=vals1 r;cases rx;let⟨hz,vJ,ys,rel,o,es,ep,ho,hex,ra,gZ,iz⟩:=(show cB X.prog X.w H s.heap d (.dT aj)from I.aH d _ hd);have hlen:es.size=aj.length:=by
  have e1:es.toList.length=ys.length:=by rw[gZ,dZ]
  have e2:=cE rel;simpa[e2]using e1
 refine PySem.W.kdl_call (Jb (es:=es) (ep:=ep) vJ) (I.ok.hd hc) ⟨o,ho,hex,ra⟩ (by rw[hlen];exact hz) λh' tk iP c' kp e iO=>?_;have ka:=CK rel;have hv:iP.toList=(ys.map (·.2.1)).map Value.ref:=by
  refine List.ext_getElem? λj=>?_;rw[gw,cF];cases ej:ys[j]? with
  |none =>
   have:ys.length≤j:=zV.mp ej;have e1:es.size=ys.length:=by rw[hlen,cE rel]
   have e3:iP.size=es.size:=iO.1;exact zV.mpr (by rw[nP];omega)
  |some y =>
   have hj:j<ys.length:=(bp.mp ej).1;have e1:es.size=ys.length:=by rw[hlen,cE rel]
   have e3:iP.size=es.size:=iO.1;have Qr:j<iP.size:=by omega
   let⟨en,F6,hk⟩:=iO.2 j iP[j] (by simp[Qr]);have uS:es[j]?=some (entryOfKey (tupleKind (cG X.prog X.w)) y):=by rw[←nR,gZ,cF,ej];rfl
   rw[F6]at uS;cases uS;rw[nR,PX Qr,hk];rfl
 refine⟨.ref s.heap.objs.size,upd H s.heap.objs.size (.lst ((ys.map (·.2.1)).map V.ref)),I.laid kp (aU _) ?_,rfl,q _ _ (I.aH.fresh (aU _)) ka⟩;refine(show cB X.prog X.w _ h' _ (.lst ((ys.map (·.2.1)).map V.ref)) from⟨?_,iP.toList,c',?_,?_⟩)
 ·rw[dZ,dZ,←cE rel];exact hz
 ·rw[hv];exact B3 _
 ·rw[Array.toArray_toList];exact e
abbrev Ow(K:PySem.W.Frag)(n:Nat)(t:iT):TG:=λv σ H Q=>∃a xs,v=.ref a∧b0 K H a xs∧xs.length=n∧t xs σ H Q
def Zh{es:List Expr}{k:Nat}{pos:Pos}{t:iT}{n:Nat}(hc:X.calm=true)(h:rY X es t)
  (hn:(assignEach es X.env).length=n:=by rfl) (iw:(assignEach es X.env).findIdx? (·.1)=none:=by rfl):PG X (.Tuple es k pos) (Ow X.K n t):=by
 intro pins s σ H v u Q I r hw;let⟨a,xs,e1,hq,hl,hw⟩:=hw;subst e1;cases r;let⟨its,rv,pl,hz⟩:=I.list hq;rw[assign_Tuple];refine aA (zH ?_);unfold unpack;have hlen:(assignEach es X.env).length=its.toArray.size:=by rw[hn,←hl,rv.length];simp
 rw[hlen,iw];refine aA (jY (PySem.W.kun_itemsOf (I.ok.hd hc) pl.isList λh' hx=>?_));have I1:Inv X pins σ H { s with heap:=h' }:=I.kept (t':=s.toks) λb o e=>hx b o (fu (bZ e)) e;exact h pins _ σ H xs _ Q I1 (by simpa using rv) hw
mutual
inductive Dn (K:PySem.W.Frag)(H:Hp):V→PyData→Prop
 |non:Dn K H .non .none
 |bl (b:Bool):Dn K H (.bl b) (.bool b)
 |int (i:Int):Dn K H (.int i) (.int i)
 |str (x:Str):Dn K H (.str x) (.str x)
 |lst {a:Addr}{xs:List V}{ds:List PyData}:b0 K H a xs→bS K H xs ds→Dn K H (.ref a) (.list ds)
 |tup {a:Addr}{xs:List V}{ds:List PyData}:bC K H a xs→bS K H xs ds→Dn K H (.ref a) (.tuple ds)
inductive bS (K:PySem.W.Frag)(H:Hp):List V→List PyData→Prop
 |nil:bS K H [] []
 |cons {v:V}{d:PyData}{vs:List V}{ds:List PyData}:Dn K H v d→bS K H vs ds→bS K H (v::vs) (d::ds)
end
abbrev dV:V→PyData
 |.non=>.none
 |.bl b=>.bool b
 |.int i=>.int i
 |.str x=>.str x
 |_=>.none
def Inv.KD{pins:List (Addr×Obj)}{σ:St}{H:Hp}{s:Shared}{a:Addr}{xs ys:List V}(I:Inv X pins σ H s)(h:b0 X.K H a xs)(h':bC X.K H a ys):False:=by
 let⟨_,_,⟨o,n,e1,e2,_⟩,_⟩:=I.list h;let⟨_,_,⟨o',k1,k2,_⟩,_⟩:=I.tuple h';rw[e1]at k1;cases k1;rw[e2]at k2;exact absurd k2 (by simp)
mutual
theorem Dn.unique{pins:List (Addr×Obj)}{σ:St}{H:Hp}{s:Shared}(I:Inv X pins σ H s):∀{v:V}{d d':PyData},Dn X.K H v d→Dn X.K H v d'→d=d'
 |_,_,_,.non,h=>by cases h;rfl
 |_,_,_,.bl _,h=>by cases h;rfl
 |_,_,_,.int _,h=>by cases h;rfl
 |_,_,_,.str _,h=>by cases h;rfl
 |_,_,_,.lst hq hs,h=>by
  cases h with
  |lst kq ks=>cases I.xJ hq kq;rw[bS.unique I hs ks]
  |tup kq ks=>exact(I.KD hq kq).elim
 |_,_,_,.tup hq hs,h=>by
  cases h with
  |tup kq ks=>cases I.Cd hq kq;rw[bS.unique I hs ks]
  |lst kq ks=>exact(I.KD kq hq).elim
theorem bS.unique{pins:List (Addr×Obj)}{σ:St}{H:Hp}{s:Shared}(I:Inv X pins σ H s):∀{vs:List V}{ds fh:List PyData},bS X.K H vs ds→bS X.K H vs fh→ds=fh
 |_,_,_,.nil,h=>by cases h;rfl
 |_,_,_,.cons h t,k=>by
  cases k with
  |cons h' t'=>rw[Dn.unique I h h',bS.unique I t t']
end
mutual
theorem Dn.refl{K:PySem.W.Frag}{H:Hp}:∀{v:V}{d:PyData},Dn K H v d→PyData.eqv d d=true
 |_,_,.non=>by simp[PyData.eqv]
 |_,_,.bl _=>by simp[PyData.eqv]
 |_,_,.int _=>by simp[PyData.eqv]
 |_,_,.str _=>by simp[PyData.eqv]
 |_,_,.lst _ hs=>by simp only[PyData.eqv];exact bS.refl hs
 |_,_,.tup _ hs=>by simp only[PyData.eqv];exact bS.refl hs
theorem bS.refl{K:PySem.W.Frag}{H:Hp}:∀{vs:List V}{ds:List PyData},bS K H vs ds→PyData.eqvAll ds ds=true
 |_,_,.nil=>by simp[PyData.eqvAll]
 |_,_,.cons h t=>by rw[PyData.eqvAll,Dn.refl h,bS.refl t];rfl
end
theorem bS.length{K:PySem.W.Frag}{H:Hp}:∀{vs:List V}{ds:List PyData},bS K H vs ds→vs.length=ds.length
 |_,_,.nil=>rfl
 |_,_,.cons _ t=>by simp[bS.length t]
mutual
theorem Dn.nB{pins:List (Addr×Obj)}{σ:St}{H:Hp}{s:Shared}(I:Inv X pins σ H s):∀{v:V}{d:PyData},Dn X.K H v d→∀{v':V}{d':PyData},Dn X.K H v' d'→∀{u u':Value},RelV v u→RelV v' u'→∀{A:Around},A.units+min d.depth d'.depth<cLine→SeqAt.EqAt A s u u' (PyData.eqv d d')
 |_,_,.non,_,_,h',_,_,r,r',A,hu=>by
  cases (show _=Value.none from r);cases h' with
  |non=>cases (show _=Value.none from r');exact u9 _
  |bl y=>cases (show _=Value.bool y from r');exact SeqAt.EqAt.none_bool y
  |int y=>let⟨t,e⟩:=(show ∃t,_=Value.int y t from r');subst e;exact E9 y t
  |str y=>let⟨t,e⟩:=(show ∃t,_=Value.str y t from r');subst e;exact Fc y t
  |@lst a xs ds q hs=>cases (show _=Value.ref a from r');let⟨its,rv,pl,_⟩:=I.list q;exact SeqAt.EqAt.none_list pl.isList (cZ hu)
  |@tup a xs ds q hs=>cases (show _=Value.ref a from r');let⟨its,rv,pl,_⟩:=I.tuple q;exact SeqAt.EqAt.none_tuple pl (cZ hu)
 |_,_,.bl x,_,_,h',_,_,r,r',A,hu=>by
  cases (show _=Value.bool x from r);cases h' with
  |non=>cases (show _=Value.none from r');exact SeqAt.EqAt.bool_none x
  |bl y=>cases (show _=Value.bool y from r');exact SeqAt.EqAt.bool_bool x y
  |int y=>let⟨t,e⟩:=(show ∃t,_=Value.int y t from r');subst e;exact SeqAt.EqAt.bool_int x y t
  |str y=>let⟨t,e⟩:=(show ∃t,_=Value.str y t from r');subst e;exact SeqAt.EqAt.bool_str x y t
  |@lst a xs ds q hs=>cases (show _=Value.ref a from r');let⟨its,rv,pl,_⟩:=I.list q;exact SeqAt.EqAt.bool_list x pl.isList (cZ hu)
  |@tup a xs ds q hs=>cases (show _=Value.ref a from r');let⟨its,rv,pl,_⟩:=I.tuple q;exact SeqAt.EqAt.bool_tuple x pl (cZ hu)
 |_,_,.int x,_,_,h',_,_,r,r',A,hu=>by
  let⟨tx,ex⟩:=(show ∃t,_=Value.int x t from r);subst ex;cases h' with
  |non=>cases (show _=Value.none from r');exact E6 x tx
  |bl y=>cases (show _=Value.bool y from r');exact SeqAt.EqAt.int_bool x tx y
  |int y=>let⟨t,e⟩:=(show ∃t,_=Value.int y t from r');subst e;exact SeqAt.EqAt.int_int x tx y t
  |str y=>let⟨t,e⟩:=(show ∃t,_=Value.str y t from r');subst e;exact E5 x tx y t
  |@lst a xs ds q hs=>cases (show _=Value.ref a from r');let⟨its,rv,pl,_⟩:=I.list q;exact SeqAt.EqAt.int_list x tx pl.isList (cZ hu)
  |@tup a xs ds q hs=>cases (show _=Value.ref a from r');let⟨its,rv,pl,_⟩:=I.tuple q;exact SeqAt.EqAt.int_tuple x tx pl (cZ hu)
 |_,_,.str x,_,_,h',_,_,r,r',A,hu=>by
  let⟨tx,ex⟩:=(show ∃t,_=Value.str x t from r);subst ex;cases h' with
  |non=>cases (show _=Value.none from r');exact E8 x tx
  |bl y=>cases (show _=Value.bool y from r');exact SeqAt.EqAt.str_bool x tx y
  |int y=>let⟨t,e⟩:=(show ∃t,_=Value.int y t from r');subst e;exact E7 x tx y t
  |str y=>let⟨t,e⟩:=(show ∃t,_=Value.str y t from r');subst e;exact SeqAt.EqAt.str_str x tx y t
  |@lst a xs ds q hs=>cases (show _=Value.ref a from r');let⟨its,rv,pl,_⟩:=I.list q;exact SeqAt.EqAt.str_list x tx pl.isList (cZ hu)
  |@tup a xs ds q hs=>cases (show _=Value.ref a from r');let⟨its,rv,pl,_⟩:=I.tuple q;exact SeqAt.EqAt.str_tuple x tx pl (cZ hu)
 |_,_,.lst (a:=b) hq hs,_,_,h',_,_,r,r',A,hu=>by
  cases (show _=Value.ref b from r);let⟨hG,rb,eE,_⟩:=I.list hq;cases h' with
  |non=>cases (show _=Value.none from r');exact SeqAt.EqAt.list_none eE.isList (cZ hu)
  |bl y=>cases (show _=Value.bool y from r');exact SeqAt.EqAt.list_bool y eE.isList (cZ hu)
  |int y=>let⟨t,e⟩:=(show ∃t,_=Value.int y t from r');subst e;exact SeqAt.EqAt.list_int y t eE.isList (cZ hu)
  |str y=>let⟨t,e⟩:=(show ∃t,_=Value.str y t from r');subst e;exact SeqAt.EqAt.list_str y t eE.isList (cZ hu)
  |@tup a xs ds q ks=>cases (show _=Value.ref a from r');let⟨its,rv,pl,_⟩:=I.tuple q;exact SeqAt.EqAt.list_tuple eE.isList pl (cZ hu)
  |@lst a xs ds q ks =>
   cases (show _=Value.ref a from r');by_cases e:b=a
   ·subst e;cases I.xJ hq q;rw[bS.unique I ks hs];simp only[PyData.eqv];rw[bS.refl hs];exact u9 _
   ·let⟨its,rv,pl,_⟩:=I.list q;have n1:=rb.length;have n2:=rv.length;have n3:=bS.length hs;have n4:=bS.length ks;simp only[PyData.eqv];have he:∀j (j1:j<hG.toArray.size) (j2:j<its.toArray.size),SeqAt.EqAt A.in1 s hG.toArray[j] its.toArray[j] (SeqAt.pairEq _ _ j):=λj j1 j2=>by
     have z:=bS.nB I hs ks rb rv (A:=A.in1) (zW hu) j (by simpa using j1) (by simpa using j2);simpa using z
    refine SeqAt.EqAt.of_refs e ?_;by_cases hsz:hG.toArray.size=its.toArray.size
    ·rw[←SeqAt.eqvAll_same_length (by simp at hsz;omega),show List.length _=hG.toArray.size by simp;omega];exact SeqAt.RcAt.lists eE.isList pl.isList hsz (cZ hu) he
    ·rw[SeqAt.eqvAll_other_length (by simp at hsz;omega)];exact SeqAt.RcAt.lists_lengths eE.isList pl.isList (by simpa using hsz) (cZ hu)
 |_,_,.tup (a:=b) hq hs,_,_,h',_,_,r,r',A,hu=>by
  cases (show _=Value.ref b from r);let⟨hG,rb,eE,_⟩:=I.tuple hq;cases h' with
  |non=>cases (show _=Value.none from r');exact SeqAt.EqAt.tuple_none eE (cZ hu)
  |bl y=>cases (show _=Value.bool y from r');exact SeqAt.EqAt.tuple_bool y eE (cZ hu)
  |int y=>let⟨t,e⟩:=(show ∃t,_=Value.int y t from r');subst e;exact SeqAt.EqAt.tuple_int y t eE (cZ hu)
  |str y=>let⟨t,e⟩:=(show ∃t,_=Value.str y t from r');subst e;exact SeqAt.EqAt.tuple_str y t eE (cZ hu)
  |@lst a xs ds q ks=>cases (show _=Value.ref a from r');let⟨its,rv,pl,_⟩:=I.list q;exact SeqAt.EqAt.tuple_list eE pl.isList (cZ hu)
  |@tup a xs ds q ks =>
   cases (show _=Value.ref a from r');by_cases e:b=a
   ·subst e;cases I.Cd hq q;rw[bS.unique I ks hs];simp only[PyData.eqv];rw[bS.refl hs];exact u9 _
   ·let⟨its,rv,pl,_⟩:=I.tuple q;have n1:=rb.length;have n2:=rv.length;have n3:=bS.length hs;have n4:=bS.length ks;simp only[PyData.eqv];have he:∀j (j1:j<hG.toArray.size) (j2:j<its.toArray.size),SeqAt.EqAt A.in1 s hG.toArray[j] its.toArray[j] (SeqAt.pairEq _ _ j):=λj j1 j2=>by
     have z:=bS.nB I hs ks rb rv (A:=A.in1) (zW hu) j (by simpa using j1) (by simpa using j2);simpa using z
    refine SeqAt.EqAt.of_refs e ?_;rw[←SeqAt.eqvAll_eq,←n3,←n4,n1,n2];have z:=SeqAt.RcAt.tuples eE pl (cZ hu) he;simpa using z
theorem bS.nB{pins:List (Addr×Obj)}{σ:St}{H:Hp}{s:Shared}(I:Inv X pins σ H s):∀{vs:List V}{ds:List PyData},bS X.K H vs ds→∀{Qs:List V}{fh:List PyData},bS X.K H Qs fh→∀{us F7:List Value},Vals vs us→Vals Qs F7→∀{A:Around},A.units+min (PyData.depthAll ds) (PyData.depthAll fh)<cLine →
  ∀j (h1:j<us.length) (h2:j<F7.length),SeqAt.EqAt A s us[j] F7[j] (SeqAt.pairEq ds fh j)
 |_,_,.nil=>by
  intro _ _ _ rv _ _ _ j h1 _;cases rv;exact absurd h1 (j0 _)
 |_,_,.cons h t=>by
  intro d' _ _ rv sg A hu j h1 h2;cases d' with
  |nil=>cases sg;exact absurd h2 (j0 _)
  |cons h' t' =>
   cases rv with
   |cons r q =>
    cases sg with
    |cons r' q' =>
     cases j with
     |zero=>exact Dn.nB I h h' r r' (SeqAt.room_head hu)
     |succ j=>exact bS.nB I t t' q q' (SeqAt.room_tail hu) j (Nat.lt_of_succ_lt_succ h1) (Nat.lt_of_succ_lt_succ h2)
end
inductive oU:PyData→PyData→Prop
 |lst (xs ys:List PyData):oU (.list xs) (.list ys)
 |tup (xs ys:List PyData):oU (.tuple xs) (.tuple ys)
 |non:oU .none .none
abbrev zl(K:PySem.W.Frag):R2:=λx y H Q=>∃dx dy,Dn K H x dx∧Dn K H y dy∧oU dx dy∧min dx.depth dy.depth≤60∧Q (.bl (PyData.eqv dx dy)) H
abbrev Eo(K:PySem.W.Frag):R2:=λx y H Q=>∃dx dy,Dn K H x dx∧Dn K H y dy∧oU dx dy∧min dx.depth dy.depth≤60∧Q (.bl (!PyData.eqv dx dy)) H
def JD{pins:List (Addr×Obj)}{σ:St}{H:Hp}{s:Shared}(I:Inv X pins σ H s){A:Around}{x y:V}{u u':Value}{dx dy:PyData}(hx:Dn X.K H x dx)(hy:Dn X.K H y dy)(l:oU dx dy)(rx:RelV x u)(ry:RelV y u')(hu:A.units+min dx.depth dy.depth<cLine) :
  SeqAt.RcAt A s u u' (PyData.eqv dx dy)∧SeqAt.RcNeAt A s u u' (!PyData.eqv dx dy):=by
 cases l with
 |non =>
  cases hx;cases hy;cases (show u=Value.none from rx);cases (show u'=Value.none from ry);exact⟨SeqAt.RcAt.none_none,SeqAt.RcNeAt.none_none⟩
 |lst ds es =>
  cases hx with
  |@lst b _ _ hq hs =>
  cases hy with
  |@lst a _ _ q ks =>
   cases (show u=Value.ref b from rx);cases (show u'=Value.ref a from ry);let⟨hG,rb,eE,_⟩:=I.list hq;let⟨its,rv,pl,_⟩:=I.list q;have n1:=rb.length;have n2:=rv.length;have n3:=bS.length hs;have n4:=bS.length ks;simp only[PyData.eqv];have he:∀j (j1:j<hG.toArray.size) (j2:j<its.toArray.size),SeqAt.EqAt A.in1 s hG.toArray[j] its.toArray[j] (SeqAt.pairEq ds es j):=λj j1 j2=>by
    have z:=bS.nB I hs ks rb rv (A:=A.in1) (zW hu) j (by simpa using j1) (by simpa using j2);simpa using z
   by_cases hsz:hG.toArray.size=its.toArray.size
   ·have e:ds.length=hG.toArray.size:=by simp;omega
    rw[←SeqAt.eqvAll_same_length (show ds.length=es.length by simp at hsz;omega),e];exact⟨SeqAt.RcAt.lists eE.isList pl.isList hsz (cZ hu) he,SeqAt.RcNeAt.lists eE.isList pl.isList hsz (cZ hu) he⟩
   ·rw[SeqAt.eqvAll_other_length (show ds.length≠es.length by simp at hsz;omega)];exact⟨SeqAt.RcAt.lists_lengths eE.isList pl.isList (by simpa using hsz) (cZ hu),SeqAt.RcNeAt.lists_lengths eE.isList pl.isList (by simpa using hsz) (cZ hu)⟩
 |tup ds es =>
  cases hx with
  |@tup b _ _ hq hs =>
  cases hy with
  |@tup a _ _ q ks =>
   cases (show u=Value.ref b from rx);cases (show u'=Value.ref a from ry);let⟨hG,rb,eE,_⟩:=I.tuple hq;let⟨its,rv,pl,_⟩:=I.tuple q;have n1:=rb.length;have n2:=rv.length;have n3:=bS.length hs;have n4:=bS.length ks;simp only[PyData.eqv];have he:∀j (j1:j<hG.toArray.size) (j2:j<its.toArray.size),SeqAt.EqAt A.in1 s hG.toArray[j] its.toArray[j] (SeqAt.pairEq ds es j):=λj j1 j2=>by
    have z:=bS.nB I hs ks rb rv (A:=A.in1) (zW hu) j (by simpa using j1) (by simpa using j2);simpa using z
   have z1:=SeqAt.RcAt.tuples eE pl (cZ hu) he;have z2:=SeqAt.RcNeAt.tuples eE pl (cZ hu) he;rw[←SeqAt.eqvAll_eq ds es,←n3,←n4,n1,n2];exact⟨by simpa using z1,by simpa using z2⟩
def Mg(hu:X.A.units+64<cLine):bM X (compareOp .Eq) (zl X.K):=by
 intro pins s σ H x y v u Q I rx ry h;let⟨dx,dy,hx,hy,l,hd,q⟩:=h;exact(JD I hx hy l rx ry (A:=X.A) (by omega)).1 X.prog X.w X.xe _ ⟨.bl _,H,I,rfl,q⟩
def Zi(hu:X.A.units+64<cLine):bM X (compareOp .NotEq) (Eo X.K):=by
 intro pins s σ H x y v u Q I rx ry h;let⟨dx,dy,hx,hy,l,hd,q⟩:=h;exact(JD I hx hy l rx ry (A:=X.A) (by omega)).2 X.prog X.w X.xe _ ⟨.bl _,H,I,rfl,q⟩
abbrev Ep(K:PySem.W.Frag)(neg:Bool):R2:=λx y H Q=>∃p xs ds dx,y=.ref p∧(b0 K H p xs∨bC K H p xs)∧bS K H xs ds∧Dn K H x dx∧dx.depth≤50∧Q (.bl (if neg then !(ds.any λd=>PyData.eqv d dx)else ds.any λd=>PyData.eqv d dx)) H
def JF{pins:List (Addr×Obj)}{σ:St}{H:Hp}{s:Shared}(I:Inv X pins σ H s){A:Around}{x:V}{u:Value}{dx:PyData}(hx:Dn X.K H x dx)(rx:RelV x u)(hu:A.units+dx.depth<cLine):∀{xs:List V}{ds:List PyData}{its:List Value},bS X.K H xs ds→Vals xs its →
  ∃e:Value→Bool,(∀y∈its,SeqAt.EqAt A s y u (e y))∧its.any e=ds.any λd=>PyData.eqv d dx:=by
 intro xs ds its hs rv
 classical
 refine⟨λy=>decide (∃v d,Dn X.K H v d∧RelV v y∧PyData.eqv d dx=true),λy hy=>?_,?_⟩
 ·have key:∀{xs:List V}{ds:List PyData}{its:List Value},bS X.K H xs ds→Vals xs its→y∈its→∃v d,Dn X.K H v d∧RelV v y:=λ{xs}=>by
   induction xs with
   |nil=>intro ds its hs rv hy;cases rv;exact nomatch hy
   |cons v r ih =>
    intro ds its hs rv hy;cases rv with
    |cons a b =>
     cases hs with
     |cons c d =>
      rcases dQ.mp hy with e|e
      ·subst e;exact⟨_,_,c,a⟩
      ·exact ih d b e
  let⟨v,d,hv,ry⟩:=key hs rv hy;have z:=Dn.nB I hv hx ry rx (A:=A) (eD (Nat.add_le_add_left (Nat.min_le_right _ _) _) hu);have e:PyData.eqv d dx=decide (∃v d,Dn X.K H v d∧RelV v y∧PyData.eqv d dx=true):=by
   cases q:PyData.eqv d dx with
   |true=>exact(eC ⟨v,d,hv,ry,q⟩).symm
   |false =>
    refine(fI ?_).symm;rintro⟨v',d',h1,h2,h3⟩;cases RelV.inj ry h2;rw[Dn.unique I h1 hv,q]at h3;cases h3
  rw[e]at z;exact z
 ·induction xs generalizing ds its with
  |nil=>cases rv;cases hs;rfl
  |cons v r ih =>
   cases rv with
   |cons a b =>
    cases hs with
    |@cons _ d0 _ _ c d =>
     rw[pN,pN,ih d b];congr 1;cases q:PyData.eqv d0 dx with
     |true=>exact eC ⟨v,d0,c,a,q⟩
     |false =>
      refine fI ?_;rintro⟨v',d',h1,h2,h3⟩;cases RelV.inj a h2;rw[Dn.unique I h1 c,q]at h3;cases h3
def UA(hu:X.A.units+64<cLine):bM X (compareOp .NotIn) (Ep X.K true):=by
 intro pins s σ H x y v u Q I rx ry h;let⟨p,xs,ds,dx,rfl,hq,hs,hx,hd,q⟩:=h;cases ry;rcases hq with hq|hq
 ·let⟨its,rv,pl,_⟩:=I.list hq;let⟨e,he,Er⟩:=JF I hx rx (A:=X.A.in1) (show X.A.units+1+dx.depth<cLine by omega) hs rv;refine SeqAt.notIn_listAt e pl.isList (λw hw=>he w (by simpa using hw)) ⟨.bl _,H,I,rfl,?_⟩;rw[show its.toArray.any e=its.any e by simp,Er];exact q
 ·let⟨its,rv,pl,_⟩:=I.tuple hq;let⟨e,he,Er⟩:=JF I hx rx (A:=X.A.in1) (show X.A.units+1+dx.depth<cLine by omega) hs rv;refine SeqAt.notIn_tupleAt e pl (λw hw=>he w (by simpa using hw)) ⟨.bl _,H,I,rfl,?_⟩;rw[show its.toArray.any e=its.any e by simp,Er];exact q
end
def ad2(D:Addr)(H H':Hp):Prop:=∀b o,b≠D→H b=some o→H' b=some o
section
variable {X:Cx}{K:PySem.W.Frag}
def x4(h:X.K=K):lB X (r9 K):=by subst h;exact Y9
def T8(h:X.K=K):bM X (compareOp .In) (vC K false):=by subst h;exact Uv
def Tf(h:X.K=K):bM X (compareOp .NotIn) (vC K true):=by subst h;exact Tn
def UB(h:X.K=K):iJ X (.builtin "len") (λxs H Q=>∃x n,xs=[x]∧Eb K x H n∧Q (.int n) H):=by subst h;exact Vg
def UC{a:Expr}{ta:TE}(h:X.K=K)(ha:PE X a ta)(he:∀whole,isTrue a X.env whole=(do let v ←whole;standAt a.pos;holding [v] (truthy v))):PT X a (λσ H Q=>ta σ H λx H'=>∃k,zb K x H' k∧Q k H'):=by subst h;exact Vf ha he
def Vn{tg l:Expr}{tl:TE}(h:X.K=K)(hl:PE X l tl):PI X tg l (DG K tl):=by subst h;exact WK hl
end
end L2
namespace My
open PySem PySem.Spec PyProof.Rows L2
def aG.new{H:Hp}{p:Addr}{o:HO}(h:H p=none):aG H (upd H p o):=λb u e=>by
 rw[aI (eR e h)];exact e
theorem aG.none{H H':Hp}{p:Addr}(s:aG H H')(h:H' p=none):H p=none:=s.free h
def adg{σ:L2.St}{H:Hp}{A B:Hp→Prop}(h:A H):zi σ H λb H3=>if b=true then A H3 else B H3:=by
 show if true=true then A H else B H;exact ade h
theorem Paired.at{α β:Type}{F:α→β→Prop}:∀{l:List α}{m:List β},Paired F l m→∀{i:Nat}{b:β},m[i]?=some b→∃a,l[i]?=some a∧F a b
 |_,_,.nil,_,_,h=>by simp at h
 |_,_,.cons r t,0,_,h=>by simp at h;subst h;exact⟨_,rfl,r⟩
 |_,_,.cons r t,i+1,b,h=>by
  let⟨a,e,q⟩:=Paired.at t (i:=i) (b:=b) (by simpa using h);exact⟨a,by simpa using e,q⟩
inductive Rw where
 |reckon (x s:Str) (a b:Key)|copy (x:Str) (a:Key)|say (a:Key)|go (n:Int)|part (a:Key) (n:Int)|fin
abbrev Rw.vs:Rw→List V
 |.reckon x s a b=>[.str "reckon",.str x,.str s,kV a,kV b]
 |.copy x a=>[.str "copy",.str x,kV a]
 |.say a=>[.str "say",kV a]
 |.go n=>[.str "go",.int n]
 |.part a n=>[.str "part",kV a,.int n]
 |.fin=>[.str "end"]
abbrev Rw.word:Rw→Str
 |.reckon .. => "reckon" |.copy .. => "copy" |.say _ => "say" |.go _ => "go" |.part .. => "part" |.fin => "end"
abbrev Rw.sets:Rw→V
 |.reckon x _ _ _=>.str x|.copy x _=>.str x|_=>.non
abbrev Rw.rk:Rw→Option (List Key)
 |.reckon _ s a b=>some [.inr s,a,b]|_=>none
def n1:¬(("copy" : Str) = "reckon"):=by decide +kernel
def n2:¬(("say" : Str) = "reckon"):=by decide +kernel
def n3:¬(("go" : Str) = "reckon"):=by decide +kernel
def n4:¬(("part" : Str) = "reckon"):=by decide +kernel
structure Df (K:PySem.W.Frag)(mg:Str→Option Value)(x:Str)(st:Stmt)(ps:List Str)(f:Addr)(fd:FuncData):Prop where
 mg:mg x=some (.ref f)
 fn:sf K x x st f fd
 bd:Binds K fd ps []
end My
namespace L2
open PySem PySem.Spec PyProof.Rows
abbrev Al(z:Str):It:=⟨λi _=>i<z.cps.size,λi H x H'=>H'=H∧∃c,z.cps[i]?=some c∧x=.str ⟨#[c]⟩,λi _=>z.cps.size≤i⟩
def Vo {P:Program}{w:World}{K:PySem.W.Frag}{tg:Expr} (it:Addr) (x:Str) (t:Tok) (ty:String) (lC:ty = "str_ascii_iterator" ∨ ty = "str_iterator"):Turn P w K tg (Al x) [it] it (λi h=>h.IsStrIter it ty x t i) where
 mem:=by simp
 obj:=λi h st b hb=>by
  have e:b=it:=by simpa using hb
  subst e;let⟨o,e,c,d⟩:=st;exact⟨o,e,λv z=>by rw[d]at z;cases z⟩
 keep:=λi h h' st k=>by let⟨o,e,r⟩:=st;exact⟨o,k it (by simp) o e,r⟩
 item:=by
  intro X hP hw hK hc i pins s σ H E I hf st hg;subst hP hw hK;have hi:i<x.cps.size:=hg;let⟨f0,f1,f2,f3,f4,f5⟩:=hf it (by simp);have fin:∀h',h'.IsStrIter it ty x t (i+1)→Heap.SameBut it s.heap h'→∃u,some (Value.str ⟨#[x.cps[i]]⟩ s.toks)=some u ∧
    wpAny (model X.prog X.w) X.A (letOwnedTupleGo tg (.ref it) u) (λ_ s2=>∃y H',Inv X pins σ H' s2∧RelV y u∧(Al x).j6 i H y H'∧s2.heap.IsStrIter it ty x t (i+1)∧∀b∈[it],H' b=none) E { s with heap:=h',toks:=s.toks+1 }:=λh' fL sb=>by
   have I1:Inv X pins σ H { s with heap:=h',toks:=s.toks+1 }:=I.turned (λb o hb e=>(sb.2 b hb).trans e) f0 f1 f3 f4 f5;let⟨o,e,c,d⟩:=id fL;refine⟨_,rfl,uC (s:={ s with heap:=h',toks:=s.toks+1 }) e c d (by rcases lC with q|q<;>(rw[q];decide)) ⟨.str ⟨#[x.cps[i]]⟩,H,I1,⟨_,rfl⟩,⟨rfl,x.cps[i],by simp[hi],rfl⟩,fL,λb hb=>(hf b hb).1⟩⟩
  rcases lC with q|q
  ·subst q;exact wpAny_pyNext_ascii_item st (c:=x.cps[i]) (by simp[hi]) fin
  ·subst q;exact wpAny_pyNext_wide_item st (c:=x.cps[i]) (by simp[hi]) fin
 done:=by
  intro X hP hw hK hc i pins s σ H E I hf st hg;subst hP hw hK;have hi:x.cps.size≤i:=hg;let⟨f0,f1,f2,f3,f4,f5⟩:=hf it (by simp);have fin:∀h',Heap.ExtBut it s.heap h'→(none:Option Value)=none∧Inv X pins σ H { s with heap:=h' }:=λh' eb=>⟨rfl,I.turned (t':=s.toks) (λb o hb e=>eb b o hb e) f0 f1 f3 f4 f5⟩;rcases lC with q|q
  ·subst q;exact wpAny_pyNext_ascii_end (I.ok.hd hc) st (by simp[hi]) fin
  ·subst q;exact wpAny_pyNext_wide_end (I.ok.hd hc) st (by simp[hi]) fin
 self:=λ_ _ _ _ _ st h=>by
  rcases lC with q|q
  ·subst q;exact wpAny_pyIter_striter_ascii st h
  ·subst q;exact wpAny_pyIter_striter_wide st h
section
variable {X:Cx}{tg:Expr}
def Ox(tl:TE):TI:=λσ H R=>tl σ H λx H1=>∃z,x=.str z∧R (Al z) H1
def Zj{l:Expr}{tl:TE}(hl:PE X l tl):PI X tg l (Ox tl):=by
 intro pins s σ H R I h;refine aJ (hl pins s σ H _ I h) λv s1 ⟨x,H1,I1,r1,q1⟩=>?_;let⟨z,e,q⟩:=q1;subst e;let⟨t,e⟩:=(show ∃t,v=Value.str z t from r1);subst e;have lC:strIterType z = "str_ascii_iterator" ∨ strIterType z = "str_iterator" := by unfold strIterType;split<;>simp
 refine wpAny_pyIter_strU ?_;refine⟨s1.heap.objs.size,[s1.heap.objs.size],_,_,H1,rfl,I1.kept (t':=s1.toks) λb o e=>cw _ e,Vo s1.heap.objs.size z t _ lC,⟨_,gq _ rfl,rfl,rfl⟩,λb hb=>?_,q⟩;have e:b=s1.heap.objs.size:=by simpa using hb
 subst e;exact I1.qZ (aU _) (I1.aH.fresh (aU _))
def Zk:mG X (λx lo hi H Q=>∃z:Str,x=.str z∧z.length≤sizeLine∧Q (.str (Txt.slice z lo hi)) H):=by
 intro pins s σ H x v vl vu lo hi sl Q I rx hs pl pu h;let⟨z,rfl,hz,q⟩:=h;let⟨t,e⟩:=(show ∃t,v=Value.str z t from rx);subst e;have fin:∀t' k,EP X pins σ Q (.str (Txt.slice z lo hi) t') { s with toks:=k }:=λt' k=>⟨.str (Txt.slice z lo hi),H,I.tok k,⟨_,rfl⟩,q⟩;refine⟨"str",_,F.slot_str_getitem.lookup,typeIs_str _ _ _,?_⟩;cases pl with
 |none =>
  cases pu with
  |none=>exact zX (l:=none) (u:=none) (st:=none) hs rfl (zY ⟨dC (zZ z _ _) hz,fin⟩)
  |int j tj=>exact zX (l:=none) (u:=some (j,tj)) (st:=none) hs rfl (zY ⟨dC (zZ z _ _) hz,fin⟩)
 |int i ti =>
  cases pu with
  |none=>exact zX (l:=some (i,ti)) (u:=none) (st:=none) hs rfl (zY ⟨dC (zZ z _ _) hz,fin⟩)
  |int j tj=>exact zX (l:=some (i,ti)) (u:=some (j,tj)) (st:=none) hs rfl (zY ⟨dC (zZ z _ _) hz,fin⟩)
def Vp{prog:Program}{w:World}{A:Around}{E:Value→Shared→Prop}{s:Shared}{t b:Addr}{ws:List Value}{Q:Value→Shared→Prop}(ht:IsTup s.heap t ([]:List Value).toArray)(hb:IsTup s.heap b ws.toArray)(h:Q (.ref b) s):wpAny (model prog w) A (binaryOp .Add (.ref t) (.ref b)) Q E s:=by
 let⟨⟨c1,d1,da1,vK⟩,ho,hc,n,hd⟩:=id ht;let⟨⟨c2,d2,da2,r6⟩,j9,iy,n2,hd2⟩:=id hb;simp only at hc hd iy hd2;subst hc hd iy hd2;exact zK ⟨_,ho,rfl⟩ ⟨_,j9,rfl⟩ Fg seq_tuple_add Fh Fm (Fn _ _) (tuple_addW0 t b ([]:List Value).toArray ws.toArray n n2 d1 d2 vK r6 (by simp)) ⟨ho,j9,h⟩
def Tb{prog:Program}{w:World}{A:Around}{E:Value→Shared→Prop}{s:Shared}{t sl:Addr}{items:Array Value}{vl vu:Value}{lo hi:Option Int}{Q:Value→Shared→Prop}(ht:IsTup s.heap t items)(hs:s.heap.IsSliceOf sl vl vu .none)(pl:IsPart vl lo)(pu:IsPart vu hi)
  (h0:HT.bh items.size 0 lo=0) (h1:HT.bh items.size items.size hi=items.size) (h:Q (.ref t) s):wpAny (model prog w) A (getItem (.ref t) (.ref sl)) Q E s:=by
 let⟨os,pV,gH,mF⟩:=id hs;have FK:s.TypeIs (.ref sl) "slice" := ⟨os,pV,gH⟩;unfold getItem;try with_reducible refine jY ?_
 first|refine aA (aN ?_)|skip
 refine aA (wpAny_sequenceKey ht.typeIs (by decide) ?_);refine aA (zL (name:=Str.ofString "__getitem__") ht.typeIs rK (pG rK ht.typeIs entry_tuple_getitem ?_ (args_tuple_getitem _ _)));show wpAny _ _ (Builtin.Tuple.tupleItemsOf (.ref t) >>= _) _ _ s;refine aA (tupleItemsOf_ ht ?_);refine aA (wpAny_typeOf FK ?_);rw[if_pos (by decide)];refine aA (HT.Hi hs pl pu ?_);show wpAny _ _ (if (((HT.bh items.size 0 lo:Nat):Int)==0&&(1:Int)==1&&(HT.bh items.size items.size hi-HT.bh items.size 0 lo)==items.size)=true then _ else _) _ _ s;rw[if_pos (by rw[h0,h1];simp)];refine aA ?_;unfold Builtin.Tuple.tupleIsExact;refine aA (wpAny_typeOf ht.typeIs ?_);refine aN ?_;rw[if_pos (by decide)]
 first
  |exact aA (wpAny_rule (aN ⟨_,rfl,aN h⟩))
  |exact aA (wpAny_rule (aA (aN (aN ⟨_,rfl,aN h⟩))))
  |exact aA (aA (wpAny_rule (aN (aN ⟨_,rfl,aN h⟩))))
end
section
variable {X:Cx}{pins:List (Addr×Obj)}{σ:St}{H:Hp}{s:Shared}{A:Around}{E:Value→Shared→Prop}
def ua(H:Hp)(ys:List V)(ps:List (Key×V)):Prop:=Paired (λ(v:V) (kv:Key×V)=>∃a,v=.ref a∧H a=some (.tup [kV kv.1,kv.2])) ys ps
def ua.at{ys:List V}{ps:List (Key×V)}(h:ua H ys ps):∀{i:Nat},i<ys.length→∃a kv,ys[i]?=some (.ref a)∧ps[i]?=some kv∧H a=some (.tup [kV kv.1,kv.2]):=by
 induction h with
 |nil=>intro i hi;exact absurd hi (j0 i)
 |@cons v kv ys ps hv t ih =>
  intro i hi;cases i with
  |zero=>let⟨a,rfl,ha⟩:=hv;exact⟨a,kv,rfl,rfl,ha⟩
  |succ i=>exact ih (by simpa using hi)
def ua.put{ys:List V}{ps:List (Key×V)}{d:Addr}{aj adh:List (Key×V)}(h:ua H ys ps)(hd:H d=some (.dK aj)):ua (upd H d (.dK adh)) ys ps:=by
 induction h with
 |nil=>exact .nil
 |@cons v kv ys ps hv t ih =>
  let⟨a,rfl,ha⟩:=hv;refine .cons ⟨a,rfl,?_⟩ ih;rw[aI (λz=>by rw[z,hd]at ha;cases ha)];exact ha
end
end L2
set_option maxHeartbeats 4000000
namespace J
open PySem L2
inductive D where
 |non|bl (b:Bool)|int (i:Int)|str (x:Str)|ty (n:String)
 |tup (ds:List D)|lst (ds:List D)|dk (ks:List (Key×D))|dt (ks:List (List Key×D))
noncomputable abbrev Qzz:=List D
mutual
abbrev D.cq:D→Bool
 |.tup ds=>D.cI ds
 |.lst _=>false
 |.dk _=>false
 |.dt _=>false
 |.non=>true
 |.bl _=>true
 |.int _=>true
 |.str _=>true
 |.ty _=>true
abbrev D.cI:Qzz→Bool
 |[]=>true
 |d::ds=>d.cq&&D.cI ds
end
def Am(K:PySem.W.Frag)(a:Addr)(xs:List V):Prop:=∃(o:Obj) (its:Array Value) (n:Nat),K.lookup a=some o∧o.cls=.type "list" ∧ o.dict=none∧o.data=.seq its n∧its.size≤sizeLine∧Vals xs its.toList
mutual
inductive Rp (K:PySem.W.Frag)(N:Addr→Prop)(H:Hp):V→D→Prop
 |non:Rp K N H .non .non
 |bl (b:Bool):Rp K N H (.bl b) (.bl b)
 |int (i:Int):Rp K N H (.int i) (.int i)
 |str (x:Str):Rp K N H (.str x) (.str x)
 |ty (n:String):Rp K N H (.ty n) (.ty n)
 |tup {a:Addr}{xs:List V}{ds:Qzz}:bC K H a xs→aB K N H xs ds→Rp K N H (.ref a) (.tup ds)
 |lst {a:Addr}{xs:List V}{ds:Qzz}:Rd H a (.lst xs)→N a→aB K N H xs ds→Rp K N H (.ref a) (.lst ds)
 |lstK {a:Addr}{xs:List V}{ds:Qzz}:Am K a xs→aB K N H xs ds→Rp K N H (.ref a) (.lst ds)
 |dk {a:Addr}{aj:List (Key×V)}{ks:List (Key×D)}:Rd H a (.dK aj)→N a→aj.map (·.1)=ks.map (·.1)→aB K N H (aj.map (·.2)) (ks.map (·.2))→Rp K N H (.ref a) (.dk ks)
 |dt {a:Addr}{aj:List (List Key×V)}{ks:List (List Key×D)}:Rd H a (.dT aj)→N a→aj.map (·.1)=ks.map (·.1)→aB K N H (aj.map (·.2)) (ks.map (·.2))→Rp K N H (.ref a) (.dt ks)
inductive aB (K:PySem.W.Frag)(N:Addr→Prop)(H:Hp):List V→Qzz→Prop
 |nil:aB K N H [] []
 |cons {v:V}{d:D}{vs:List V}{ds:Qzz}:Rp K N H v d→aB K N H vs ds→aB K N H (v::vs) (d::ds)
end
abbrev hJ:HO→Prop
 |.tup _=>True
 |.aW _ (.tup _)=>True
 |_=>False
def Keeps(N:Addr→Prop)(H H':Hp):Prop:=∀a o,H a=some o→(N a∨hJ o)→H' a=some o
section
variable {K:PySem.W.Frag}{N N':Addr→Prop}{H H':Hp}
def Keeps.same(s:aG H H'):Keeps N H H':=λa o e _=>s a o e
def Keeps.sq{a:Addr}{xs:List V}(k:Keeps N H H')(h:bC K H a xs):bC K H' a xs:=by
 rcases h with h|h
 ·exact .inl (k _ _ h (.inr trivial))
 ·exact .inr h
def Keeps.rd{a:Addr}{u:HO}(k:Keeps N H H')(n:N a)(h:Rd H a u):Rd H' a u:=by
 rcases h with h|⟨o,h⟩
 ·exact .inl (k _ _ h (.inl n))
 ·exact .inr ⟨o,k _ _ h (.inl n)⟩
def Rp.keep(k:Keeps N H H'){v:V}{d:D}(h:Rp K N H v d):Rp K N H' v d:=Rp.rec (motive_1:=λv d _=>Rp K N H' v d) (motive_2:=λvs ds _=>aB K N H' vs ds) .non .bl .int .str .ty (λh _ r=>.tup (k.sq h) r) (λh n _ r=>.lst (k.rd n h) n r) (λh _ r=>.lstK h r) (λh n e _ r=>.dk (k.rd n h) n e r) (λh n e _ r=>.dt (k.rd n h) n e r) .nil (λ_ _ h r=>.cons h r) h
def aB.keep(k:Keeps N H H'){vs:List V}{ds:Qzz}(h:aB K N H vs ds):aB K N H' vs ds:=aB.rec (motive_1:=λv d _=>Rp K N H' v d) (motive_2:=λvs ds _=>aB K N H' vs ds) .non .bl .int .str .ty (λh _ r=>.tup (k.sq h) r) (λh n _ r=>.lst (k.rd n h) n r) (λh _ r=>.lstK h r) (λh n e _ r=>.dk (k.rd n h) n e r) (λh n e _ r=>.dt (k.rd n h) n e r) .nil (λ_ _ h r=>.cons h r) h
theorem Rd.some{a:Addr}{u:HO}(h:Rd H a u):∃o,H a=some o:=by
 rcases h with h|⟨o,h⟩
 ·exact⟨_,h⟩
 ·exact⟨_,h⟩
def Rp.wk(w:∀a,N a→(∃o,H a=some o)→N' a){v:V}{d:D}(h:Rp K N H v d):Rp K N' H v d:=Rp.rec (motive_1:=λv d _=>Rp K N' H v d) (motive_2:=λvs ds _=>aB K N' H vs ds) .non .bl .int .str .ty (λh _ r=>.tup h r) (λh n _ r=>.lst h (w _ n (Rd.some h)) r) (λh _ r=>.lstK h r) (λh n e _ r=>.dk h (w _ n (Rd.some h)) e r) (λh n e _ r=>.dt h (w _ n (Rd.some h)) e r) .nil (λ_ _ h r=>.cons h r) h
def aB.wk(w:∀a,N a→(∃o,H a=some o)→N' a){vs:List V}{ds:Qzz}(h:aB K N H vs ds):aB K N' H vs ds:=aB.rec (motive_1:=λv d _=>Rp K N' H v d) (motive_2:=λvs ds _=>aB K N' H vs ds) .non .bl .int .str .ty (λh _ r=>.tup h r) (λh n _ r=>.lst h (w _ n (Rd.some h)) r) (λh _ r=>.lstK h r) (λh n e _ r=>.dk h (w _ n (Rd.some h)) e r) (λh n e _ r=>.dt h (w _ n (Rd.some h)) e r) .nil (λ_ _ h r=>.cons h r) h
def Rp.im{v:V}{d:D}(e:d.cq=true)(h:Rp K N H v d):Rp K N' H v d:=Rp.rec (motive_1:=λv d _=>d.cq=true→Rp K N' H v d) (motive_2:=λvs ds _=>D.cI ds=true→aB K N' H vs ds) (λ_=>.non) (λb _=>.bl b) (λi _=>.int i) (λx _=>.str x) (λn _=>.ty n) (λh _ r e=>.tup h (r e)) (λ_ _ _ _ e=>by cases e) (λ_ _ _ e=>by cases e) (λ_ _ _ _ _ e=>by cases e) (λ_ _ _ _ _ e=>by cases e) (λ_=>.nil) (λ_ _ h r e=>.cons (h (Bool.and_eq_true_iff.mp e).1) (r (Bool.and_eq_true_iff.mp e).2)) h e
def aB.im{vs:List V}{ds:Qzz}(e:D.cI ds=true)(h:aB K N H vs ds):aB K N' H vs ds:=aB.rec (motive_1:=λv d _=>d.cq=true→Rp K N' H v d) (motive_2:=λvs ds _=>D.cI ds=true→aB K N' H vs ds) (λ_=>.non) (λb _=>.bl b) (λi _=>.int i) (λx _=>.str x) (λn _=>.ty n) (λh _ r e=>.tup h (r e)) (λ_ _ _ _ e=>by cases e) (λ_ _ _ e=>by cases e) (λ_ _ _ _ _ e=>by cases e) (λ_ _ _ _ _ e=>by cases e) (λ_=>.nil) (λ_ _ h r e=>.cons (h (Bool.and_eq_true_iff.mp e).1) (r (Bool.and_eq_true_iff.mp e).2)) h e
theorem aB.paired:∀{vs:List V}{ds:Qzz},aB K N H vs ds→Paired (λd v=>Rp K N H v d) ds vs
 |_,_,.nil=>.nil
 |_,_,.cons h r=>.cons h (aB.paired r)
theorem aB.of:∀{ds:Qzz}{vs:List V},Paired (λd v=>Rp K N H v d) ds vs→aB K N H vs ds
 |_,_,.nil=>.nil
 |_,_,.cons h r=>.cons h (aB.of r)
def aB.len{vs:List V}{ds:Qzz}(r:aB K N H vs ds):vs.length=ds.length:=(cE r.paired).symm
theorem aB.get:∀{vs:List V}{ds:Qzz}{i:Nat}{d:D},aB K N H vs ds→ds[i]?=some d→∃v,vs[i]?=some v∧Rp K N H v d
 |_,_,_,_,.nil,e=>by simp at e
 |_,_,0,_,.cons h _,e=>by simp at e;subst e;exact⟨_,rfl,h⟩
 |_,_,i+1,d,.cons _ r,e=>by
  let⟨v,h1,h2⟩:=aB.get (i:=i) (d:=d) r (by simpa using e);exact⟨v,by simpa using h1,h2⟩
theorem aB.app:∀{vs ws:List V}{ds es:Qzz},aB K N H vs ds→aB K N H ws es→aB K N H (vs++ws) (ds++es)
 |_,_,_,_,.nil,s=>s
 |_,_,_,_,.cons h r,s=>.cons h (aB.app r s)
theorem aB.set{v:V}{d:D}(q:Rp K N H v d):∀{vs:List V}{ds:Qzz} (i:Nat),aB K N H vs ds→aB K N H (vs.set i v) (ds.set i d)
 |_,_,_,.nil=>.nil
 |_,_,0,.cons _ t=>.cons q t
 |_,_,i+1,.cons h t=>.cons h (aB.set q i t)
theorem aB.take:∀{vs:List V}{ds:Qzz} (n:Nat),aB K N H vs ds→aB K N H (vs.take n) (ds.take n)
 |_,_,0,_=>.nil
 |_,_,_+1,.nil=>.nil
 |_,_,n+1,.cons r t=>.cons r (aB.take n t)
theorem aB.drop:∀{vs:List V}{ds:Qzz} (n:Nat),aB K N H vs ds→aB K N H (vs.drop n) (ds.drop n)
 |_,_,0,r=>r
 |_,_,_+1,.nil=>.nil
 |_,_,n+1,.cons _ t=>aB.drop n t
theorem aB.rev:∀{vs:List V}{ds:Qzz},aB K N H vs ds→aB K N H vs.reverse ds.reverse
 |_,_,.nil=>.nil
 |_,_,.cons h t=>by
  rw[zN,zN];exact(aB.rev t).app (.cons h .nil)
def aB.dl{vs:List V}{ds:Qzz}(h:aB K N H vs ds):aB K N H vs.dropLast ds.dropLast:=by
 rw[List.dropLast_eq_take,List.dropLast_eq_take,h.len];exact h.take _
theorem aB.rep:∀{vs:List V}{ds:Qzz} (n:Nat),aB K N H vs ds→aB K N H (List.replicate n vs).flatten (List.replicate n ds).flatten
 |_,_,0,_=>.nil
 |_,_,n+1,h=>by
  rw[zO,zO,zP,zP];exact h.app (aB.rep n h)
theorem aB.bz{vs:List V}{ds:Qzz}{i:Int}{d:D}(r:aB K N H vs ds)(e:L2.bz ds i=some d):∃v,L2.bz vs i=some v∧Rp K N H v d:=by
 unfold L2.bz at e ⊢;rw[r.len];cases q:dR ds.length i with
 |none=>rw[q]at e;cases e
 |some j =>
  rw[q]at e;exact r.get e
end
inductive M where|al|fr|un|bo|bi|rb|nb|ut
 deriving DecidableEq
noncomputable abbrev Ev:=List (Option (M×D))
noncomputable abbrev Qzq:=Option (M×D)
noncomputable abbrev Qqk:=Qzz→Qzq
noncomputable abbrev Qqj:=Ev→Qzq
noncomputable abbrev Qqx:=Ev→Option Bool
noncomputable abbrev Qqz:=Ev→Option (List (M×D))
abbrev Cell(K:PySem.W.Frag)(N:Addr→Prop)(H:Hp)(p:Addr):D→Prop
 |.lst ds=>∃xs,H p=some (.lst xs)∧aB K N H xs ds
 |.dk ks=>∃aj,H p=some (.dK aj)∧aj.map (·.1)=ks.map (·.1)∧aB K N H (aj.map (·.2)) (ks.map (·.2))
 |.dt ks=>∃aj,H p=some (.dT aj)∧aj.map (·.1)=ks.map (·.1)∧aB K N H (aj.map (·.2)) (ks.map (·.2))
 |_=>False
abbrev NM(H₀:Hp)(O:Addr→Prop):M→Addr→Prop
 |.al,a=>¬O a
 |.rb,a=>H₀ a=none
 |_,a=>¬O a∧H₀ a=none
def i9(K:PySem.W.Frag)(H₀:Hp)(O:Addr→Prop)(H:Hp)(d:D)(v:V):Prop :=
 ∃(p:Addr) (qs:List Addr) (aQ:List (Qzz)),v=.ref p∧d=.lst (aQ.map D.lst)∧O p∧H₀ p=none∧H p=some (.lst (qs.map V.ref))∧qs.Nodup∧(∀q∈qs,O q∧H₀ q=none∧q≠p) ∧
  Paired (λq ds=>∃xs,H q=some (.lst xs)∧aB K (λa=>¬O a∧H₀ a=none) H xs ds) qs aQ
def UT(K:PySem.W.Frag)(F:Addr→Prop)(H:Hp)(d:D)(v:V):Prop:=(d.cq=true∧Rp K (λ_=>False) H v d)∨∃q,v=.ref q∧F q∧Cell K (λ_=>False) H q d
def eV(K:PySem.W.Frag)(F:Addr→Prop)(H:Hp)(d:D)(v:V):Prop:=∃a xs ds,v=.ref a∧d=.tup ds∧bC K H a xs∧Paired (UT K F H) ds xs
def Val(K:PySem.W.Frag)(H₀:Hp)(O:Addr→Prop)(Hb H:Hp):M→D→V→Prop
 |.al,d,v=>Rp K (λa=>¬O a) H v d
 |.fr,d,v=>Rp K (λa=>¬O a∧H₀ a=none) H v d
 |.rb,d,v=>Rp K (λa=>H₀ a=none) H v d
 |.un,d,v=>∃p,v=.ref p∧Hb p=none∧H₀ p=none∧¬O p∧Cell K (λa=>(¬O a∧H₀ a=none)∧a≠p) H p d
 |.bo,d,v=>∃p,v=.ref p∧O p∧H₀ p=none∧Cell K (λa=>¬O a∧H₀ a=none) H p d
 |.bi,d,v=>∃p,v=.ref p∧O p∧Cell K (λa=>¬O a∧H₀ a=none) H p d
 |.nb,d,v=>i9 K H₀ O H d v
 |.ut,d,v=>eV K (λq=>Hb q=none∧H₀ q=none∧¬O q) H d v
abbrev aY:M→M
 |.al=>.al
 |.rb=>.rb
 |.nb=>.rb
 |_=>.fr
noncomputable abbrev HE:Hp:=λ_=>none
section
variable {K:PySem.W.Frag}{N N':Addr→Prop}{H H' H₀ Hb Qt:Hp}{O:Addr→Prop}{m:M}{d:D}{v:V}{p:Addr}
theorem Cell.keep(k:Keeps N H H')(e:H' p=H p)(h:Cell K N H p d):Cell K N H' p d:=by
 cases d<;>simp only[Cell]at h ⊢
 ·let⟨xs,q,r⟩:=h;exact⟨xs,e.trans q,r.keep k⟩
 ·let⟨xs,q,z,r⟩:=h;exact⟨xs,e.trans q,z,r.keep k⟩
 ·let⟨xs,q,z,r⟩:=h;exact⟨xs,e.trans q,z,r.keep k⟩
theorem Cell.some(h:Cell K N H p d):∃o,H p=some o∧¬hJ o:=by
 cases d<;>simp only[Cell]at h
 ·let⟨xs,q,r⟩:=h;exact⟨_,q,λz=>z⟩
 ·let⟨xs,q,z,r⟩:=h;exact⟨_,q,λz=>z⟩
 ·let⟨xs,q,z,r⟩:=h;exact⟨_,q,λz=>z⟩
theorem Cell.wk(w:∀a,N a→(∃o,H a=Option.some o)→N' a)(h:Cell K N H p d):Cell K N' H p d:=by
 cases d<;>simp only[Cell]at h ⊢
 ·let⟨xs,q,r⟩:=h;exact⟨xs,q,r.wk w⟩
 ·let⟨xs,q,z,r⟩:=h;exact⟨xs,q,z,r.wk w⟩
 ·let⟨xs,q,z,r⟩:=h;exact⟨xs,q,z,r.wk w⟩
def Cell.rp(n:N p)(h:Cell K N H p d):Rp K N H (.ref p) d:=by
 cases d<;>simp only[Cell]at h
 ·let⟨xs,q,r⟩:=h;exact .lst (.inl q) n r
 ·let⟨xs,q,z,r⟩:=h;exact .dk (.inl q) n z r
 ·let⟨xs,q,z,r⟩:=h;exact .dt (.inl q) n z r
theorem kR{F G:Addr→Qzz→Prop}:∀{qs:List Addr}{aQ:List (Qzz)},(∀q ds,q∈qs→F q ds→G q ds)→Paired F qs aQ→Paired G qs aQ
 |_,_,_,.nil=>.nil
 |_,_,h,.cons a t=>.cons (h _ _ cg a) (kR (λq ds m=>h q ds (cT _ m)) t)
theorem i9.keep(s:aG H H')(h:i9 K H₀ O H d v):i9 K H₀ O H' d v:=by
 let⟨p,qs,aQ,e1,e2,h1,h2,h3,h4,h5,h6⟩:=h;exact⟨p,qs,aQ,e1,e2,h1,h2,s _ _ h3,h4,h5,kR (λq ds _ ⟨xs,a,b⟩=>⟨xs,s _ _ a,b.keep (.same s)⟩) h6⟩
theorem i9.iA{F:Addr→Prop}(w:∀a,H₀ a=none→F a):∀{qs:List Addr}{aQ:List (Qzz)},(∀q∈qs,O q∧H₀ q=none∧q≠p)→Paired (λq ds=>∃xs,H q=some (.lst xs)∧aB K (λa=>¬O a∧H₀ a=none) H xs ds) qs aQ→aB K F H (qs.map V.ref) (aQ.map D.lst)
 |_,_,_,.nil=>.nil
 |_,_,h,.cons ⟨xs,a,b⟩ t=>.cons (.lst (.inl a) (w _ (h _ cg).2.1) (b.wk λx z _=>w x z.2)) (i9.iA w (λq m=>h q (cT _ m)) t)
def i9.rp{F:Addr→Prop}(w:∀a,H₀ a=none→F a)(h:i9 K H₀ O H d v):Rp K F H v d:=by
 let⟨p,qs,aQ,rfl,rfl,h1,h2,h3,h4,h5,h6⟩:=h;exact .lst (.inl h3) (w _ h2) (i9.iA w h5 h6)
theorem eV.keep{F:Addr→Prop}(s:aG H H')(h:eV K F H d v):eV K F H' d v:=by
 let⟨a,xs,ds,e1,e2,h1,h2⟩:=h;refine⟨a,xs,ds,e1,e2,(Keeps.same (N:=λ_=>True) s).sq h1,Paired.lU h2 λd v z=>?_⟩;rcases z with⟨z1,z2⟩|⟨q,z1,z2,c⟩
 ·exact .inl ⟨z1,z2.keep (.same s)⟩
 ·let⟨o,e,_⟩:=c.some;exact .inr ⟨q,z1,z2,c.keep (.same s) ((s _ _ e).trans e.symm)⟩
def eV.wk{F F':Addr→Prop}(w:∀q,F q→F' q)(h:eV K F H d v):eV K F' H d v:=by
 let⟨a,xs,ds,e1,e2,h1,h2⟩:=h;exact⟨a,xs,ds,e1,e2,h1,Paired.lU h2 λd v z=>z.imp id λ⟨q,z1,z2,c⟩=>⟨q,z1,w q z2,c⟩⟩
def eV.iA{F:Addr→Prop}(w:∀q,F q→N q){ds:Qzz}{xs:List V}(h:Paired (UT K F H) ds xs):aB K N H xs ds:=aB.of (Paired.lU h λd v z=>by
 rcases z with⟨z1,z2⟩|⟨q,rfl,z2,c⟩
 ·exact z2.im z1
 ·exact(c.wk λ_ z _=>z.elim).rp (w q z2))
def eV.rp{F:Addr→Prop}(w:∀q,F q→N q)(h:eV K F H d v):Rp K N H v d:=by
 let⟨a,xs,ds,rfl,rfl,h1,h2⟩:=h;exact .tup h1 (eV.iA w h2)
theorem Val.keep(s:aG H H')(h:Val K H₀ O Hb H m d v):Val K H₀ O Hb H' m d v:=by
 cases m<;>simp only[Val]at h ⊢
 ·exact h.keep (.same s)
 ·exact h.keep (.same s)
 ·let⟨p,e,h1,h2,h3,c⟩:=h;let⟨o,q,_⟩:=c.some;exact⟨p,e,h1,h2,h3,c.keep (.same s) ((s _ _ q).trans q.symm)⟩
 ·let⟨p,e,h1,h2,c⟩:=h;let⟨o,q,_⟩:=c.some;exact⟨p,e,h1,h2,c.keep (.same s) ((s _ _ q).trans q.symm)⟩
 ·let⟨p,e,h1,c⟩:=h;let⟨o,q,_⟩:=c.some;exact⟨p,e,h1,c.keep (.same s) ((s _ _ q).trans q.symm)⟩
 ·exact h.keep (.same s)
 ·exact h.keep s
 ·exact h.keep s
def Val.hb(w:∀a,Hb a=none→Qt a=none)(h:Val K H₀ O Hb H m d v):Val K H₀ O Qt H m d v:=by
 cases m<;>simp only[Val]at h ⊢
 ·exact h
 ·exact h
 ·let⟨p,e,h1,r⟩:=h;exact⟨p,e,w _ h1,r⟩
 ·exact h
 ·exact h
 ·exact h
 ·exact h
 ·exact h.wk λq z=>⟨w _ z.1,z.2⟩
def Val.h0(h:Val K H₀ O Hb H m d v):Val K H₀ O HE H m d v:=h.hb λ_ _=>rfl
def Val.weak(h:Val K H₀ O Hb H m d v):Rp K (λ_=>True) H v d:=by
 cases m<;>simp only[Val]at h
 ·exact h.wk λ_ _ _=>trivial
 ·exact h.wk λ_ _ _=>trivial
 ·let⟨p,rfl,_,_,_,c⟩:=h;exact(c.wk λ_ _ _=>trivial).rp trivial
 ·let⟨p,rfl,_,_,c⟩:=h;exact(c.wk λ_ _ _=>trivial).rp trivial
 ·let⟨p,rfl,_,c⟩:=h;exact(c.wk λ_ _ _=>trivial).rp trivial
 ·exact h.wk λ_ _ _=>trivial
 ·exact h.rp λ_ _=>trivial
 ·exact h.rp λ_ _=>trivial
def Rp.int_inv{i:Int}(h:Rp K N H v (.int i)):v=.int i:=by cases h;rfl
def Rp.Mh{b:Bool}(h:Rp K N H v (.bl b)):v=.bl b:=by cases h;rfl
def Rp.str_inv{x:Str}(h:Rp K N H v (.str x)):v=.str x:=by cases h;rfl
def Rp.KG(h:Rp K N H v .non):v=.non:=by cases h;rfl
def Rp.Zm{n:String}(h:Rp K N H v (.ty n)):v=.ty n:=by cases h;rfl
theorem Val.int{i:Int}(h:Val K H₀ O Hb H m (.int i) v):v=.int i:=h.weak.int_inv
theorem Val.bl{b:Bool}(h:Val K H₀ O Hb H m (.bl b) v):v=.bl b:=h.weak.Mh
theorem Val.str{x:Str}(h:Val K H₀ O Hb H m (.str x) v):v=.str x:=h.weak.str_inv
theorem Val.non(h:Val K H₀ O Hb H m .non v):v=.non:=h.weak.KG
theorem Val.ty{x:String}(h:Val K H₀ O Hb H m (.ty x) v):v=.ty x:=h.weak.Zm
theorem Val.lst{ds:Qzz}(h:Val K H₀ O Hb H m (.lst ds) v):∃a xs,v=.ref a∧b0 K H a xs∧aB K (NM H₀ O (aY m)) H xs ds:=by
 cases m<;>simp only[Val,Cell]at h
 ·cases h with
  |lst r n q=>exact⟨_,_,rfl,.inl r,q⟩
  |lstK r q=>exact⟨_,_,rfl,.inr r,q⟩
 ·cases h with
  |lst r n q=>exact⟨_,_,rfl,.inl r,q⟩
  |lstK r q=>exact⟨_,_,rfl,.inr r,q⟩
 ·let⟨p,rfl,_,_,_,xs,q,r⟩:=h;exact⟨_,_,rfl,.inl (.inl q),r.wk λa h _=>h.1⟩
 ·let⟨p,rfl,_,_,xs,q,r⟩:=h;exact⟨_,_,rfl,.inl (.inl q),r⟩
 ·let⟨p,rfl,_,xs,q,r⟩:=h;exact⟨_,_,rfl,.inl (.inl q),r⟩
 ·cases h with
  |lst r n q=>exact⟨_,_,rfl,.inl r,q⟩
  |lstK r q=>exact⟨_,_,rfl,.inr r,q⟩
 ·let⟨p,qs,aQ,rfl,e2,h1,h2,h3,h4,h5,h6⟩:=h;cases e2;exact⟨p,_,rfl,.inl (.inl h3),i9.iA (λ_ z=>z) h5 h6⟩
 ·let⟨_,_,_,_,e2,_⟩:=h;cases e2
theorem Val.tup{ds:Qzz}(h:Val K H₀ O Hb H m (.tup ds) v):∃a xs,v=.ref a∧bC K H a xs∧aB K (NM H₀ O (aY m)) H xs ds:=by
 cases m<;>simp only[Val,Cell]at h
 ·cases h with|tup r q=>exact⟨_,_,rfl,r,q⟩
 ·cases h with|tup r q=>exact⟨_,_,rfl,r,q⟩
 ·let⟨p,rfl,_,_,_,z⟩:=h;exact z.elim
 ·let⟨p,rfl,_,_,z⟩:=h;exact z.elim
 ·let⟨p,rfl,_,z⟩:=h;exact z.elim
 ·cases h with|tup r q=>exact⟨_,_,rfl,r,q⟩
 ·let⟨p,qs,aQ,rfl,e2,_⟩:=h;cases e2
 ·let⟨a,xs,fh,rfl,e2,h1,h2⟩:=h;cases e2;exact⟨a,xs,rfl,h1,eV.iA (λq z=>⟨z.2.2,z.2.1⟩) h2⟩
def Val.el{a:V}{e:D}(h:Rp K (NM H₀ O (aY m)) H a e):Val K H₀ O Hb H (aY m) e a:=by
 cases m<;>exact h
def c9:M→D→Bool
 |.fr,_=>true
 |.un,_=>true
 |.ut,_=>true
 |_,d=>d.cq
def hU:M→D→Bool
 |.fr,_=>true
 |.un,_=>true
 |.ut,_=>true
 |.al,_=>true
 |_,d=>d.cq
def vL:M→D→Bool
 |.fr,_=>true
 |.un,_=>true
 |.ut,_=>true
 |.bo,_=>true
 |.rb,_=>true
 |_,d=>d.cq
theorem Val.c9(h:Val K H₀ O Hb H m d v)(e:J.c9 m d=true):Rp K (λa=>¬O a∧H₀ a=none) H v d:=by
 cases m<;>simp only[J.c9]at e
 ·exact h.weak.im e
 ·exact h
 ·let⟨p,rfl,_,h1,h2,c⟩:=h;exact(c.wk λa h _=>h.1).rp ⟨h2,h1⟩
 ·exact h.weak.im e
 ·exact h.weak.im e
 ·exact h.weak.im e
 ·exact Rp.im e h.weak
 ·exact eV.rp (λq z=>⟨z.2.2,z.2.1⟩) h
theorem Val.hU(h:Val K H₀ O Hb H m d v)(e:J.hU m d=true):Rp K (λa=>¬O a) H v d:=by
 cases m<;>simp only[J.hU]at e
 ·exact h
 ·exact Rp.wk (λa h _=>h.1) (show Rp K (λa=>¬O a∧H₀ a=none) H v d from h)
 ·exact Rp.wk (λa h _=>h.1) (h.c9 rfl)
 ·exact h.weak.im e
 ·exact h.weak.im e
 ·exact h.weak.im e
 ·exact Rp.im e h.weak
 ·exact eV.rp (λq z=>z.2.2) h
theorem Val.vL(h:Val K H₀ O Hb H m d v)(e:J.vL m d=true):Rp K (λa=>H₀ a=none) H v d:=by
 cases m<;>simp only[J.vL]at e
 ·exact h.weak.im e
 ·exact Rp.wk (λa h _=>h.2) (show Rp K (λa=>¬O a∧H₀ a=none) H v d from h)
 ·exact Rp.wk (λa h _=>h.2) (h.c9 rfl)
 ·let⟨p,rfl,_,h1,c⟩:=h;exact(c.wk λa h _=>h.2).rp h1
 ·exact h.weak.im e
 ·exact h
 ·exact Rp.im e h.weak
 ·exact eV.rp (λq z=>z.2.1) h
end
abbrev jw:M→Bool
 |.un=>false
 |.rb=>false
 |.ut=>false
 |_=>true
structure eW (K:PySem.W.Frag)(H₀:Hp)(O:Addr→Prop)(H:Hp)(σ:St)(env:Ev):Prop where
 sl:Paired (λ(e:Qzq) (x:Option V)=>∀m d,e=some (m,d)→jw m=true∧∃v,x=some v∧Val K H₀ O HE H m d v) env σ
 od:∀a,O a→∃o,H a=some o
 hd:∀a o,H₀ a=some o→∃o',H a=some o'
 on:∀a o,O a→H a=some o→¬hJ o
def JT(K:PySem.W.Frag)(te:TE)(f:Qqj):Prop :=
 ∀H₀ O H σ env Q m d,eW K H₀ O H σ env→f env=some (m,d)→(∀v H',aG H H'→Val K H₀ O H H' m d v→Q v H')→te σ H Q
def fO(K:PySem.W.Frag)(tt:TT)(f:Qqx):Prop :=
 ∀H₀ O H σ env Q b,eW K H₀ O H σ env→f env=some b→(∀H',aG H H'→Q b H')→tt σ H Q
def gE(K:PySem.W.Frag)(H₀:Hp)(O:Addr→Prop)(Hb H:Hp)(ay:List (M×D))(vs:List V):Prop:=Paired (λmd v=>Val K H₀ O Hb H md.1 md.2 v) ay vs
def iB(K:PySem.W.Frag)(ta:TA)(f:Qqz):Prop :=
 ∀H₀ O H σ env Q ay,eW K H₀ O H σ env→f env=some ay→(∀vs H',aG H H'→gE K H₀ O H H' ay vs→Q vs H')→ta σ H Q
section
variable {K:PySem.W.Frag}{H H' H₀:Hp}{O:Addr→Prop}{σ:St}{env:Ev}
theorem m7{α β:Type}{F G:α→β→Prop}(h:∀a b,F a b→G a b):∀{l:List α}{r:List β},Paired F l r→Paired G l r
 |_,_,.nil=>.nil
 |_,_,.cons q t=>.cons (h _ _ q) (m7 h t)
theorem eW.keep(R:eW K H₀ O H σ env)(s:aG H H'):eW K H₀ O H' σ env :=
 ⟨m7 (λe x h m d q=>⟨(h m d q).1,let ⟨v,e,z⟩:=(h m d q).2;⟨v,e,z.keep s⟩⟩) R.sl,λa h=>let ⟨o,q⟩:=R.od a h;⟨o,s _ _ q⟩,λa o h=>let ⟨o,q⟩:=R.hd a o h;⟨o,s _ _ q⟩,λa o h e=>by
  let⟨o',q⟩:=R.od a h;have z:=s _ _ q;rw[e]at z;cases z;exact R.on a _ h q⟩
theorem Et{α β:Type}{F:α→β→Prop}:∀{l:List α}{r:List β}{i:Nat}{a:α},Paired F l r→l[i]?=some a→∃b,r[i]?=some b∧F a b
 |_,_,_,_,.nil,e=>by simp at e
 |_,_,0,_,.cons h _,e=>by simp at e;subst e;exact⟨_,rfl,h⟩
 |_,_,i+1,a,.cons _ r,e=>by
  let⟨v,h1,h2⟩:=Et (i:=i) (a:=a) r (by simpa using e);exact⟨v,by simpa using h1,h2⟩
def eW.at{i:Nat}{m:M}{d:D}(R:eW K H₀ O H σ env)(e:env[i]?=some (some (m,d))):∃v,σ[i]?=some (some v)∧jw m=true∧Val K H₀ O HE H m d v:=by
 let⟨x,hx,h⟩:=Et R.sl e;let⟨h0,v,rfl,hz⟩:=h m d rfl;exact⟨v,hx,h0,hz⟩
def Val.NC{m:M}{d:D}{v:V}{Hb:Hp}(n:jw m=true)(h:Val K H₀ O HE H m d v):Val K H₀ O Hb H m d v:=by
 cases m<;>first|exact h|cases n
abbrev jV(i:Nat):Qqj:=λe=>(e[i]?).bind id
def Zn{i:Nat}:JT K (ik i) (jV i):=by
 intro H₀ O H σ env Q m d R h q;unfold jV at h;cases e:env[i]? with
 |none=>rw[e]at h;cases h
 |some x =>
  rw[e]at h;obtain rfl:x=some (m,d):=h;let⟨v,hv,n,hm⟩:=R.at e;exact⟨v,hv,q v H (aG.refl H) (hm.NC n)⟩
abbrev jC(d:D):Qqj:=λ_=>some (.fr,d)
abbrev cD:V→Option D
 |.non=>some .non
 |.bl b=>some (.bl b)
 |.int i=>some (.int i)
 |.str x=>some (.str x)
 |.ty n=>some (.ty n)
 |_=>none
def rg{v:V}{d:D}(e:cD v=some d):JT K (tC v) (jC d):=by
 intro H₀ O H σ env Q m d' R h q;cases h;refine q v H (aG.refl H) ?_;cases v<;>simp only[cD]at e<;>cases e<;>constructor
def JR(K:PySem.W.Frag)(r:R2)(g:M×D→M×D→Qzq):Prop :=
 ∀H₀ O H x y a b Q m d,(∀a,O a→∃o,H a=some o)→(∀a o,H₀ a=some o→∃o',H a=some o')→Val K H₀ O HE H (Prod.fst a) a.2 x→Val K H₀ O HE H (Prod.fst b) b.2 y→g a b=some (m,d)→(∀v H',aG H H'→Val K H₀ O H H' m d v→Q v H')→r x y H Q
abbrev ae(g:M×D→M×D→Qzq)(fa fb:Qqj):Qqj:=λe=>(fa e).bind λx=>(fb e).bind λy=>g x y
def yL{r:R2}{g:M×D→M×D→Qzq}{ta tb:TE}{fa fb:Qqj}(hr:JR K r g)(ha:JT K ta fa)(hb:JT K tb fb):JT K (nW r ta tb) (ae g fa fb):=by
 intro H₀ O H σ env Q m d R h q;unfold ae at h;cases ea:fa env with
 |none=>rw[ea]at h;cases h
 |some a =>
  cases eb:fb env with
  |none=>rw[ea,eb]at h;cases h
  |some b =>
   rw[ea,eb]at h;refine ha H₀ O H σ env _ a.1 a.2 R ea λx H1 s1 h1=>?_;refine hb H₀ O H1 σ env _ b.1 b.2 (R.keep s1) eb λy H2 s2 h2=>?_;have R2:=(R.keep s1).keep s2;refine hr H₀ O H2 x y a b Q m d R2.od R2.hd (h1.keep s2).h0 h2.h0 h λv H3 s3 h3=>?_;exact q v H3 ((s1.trans s2).trans s3) (h3.hb λa z=>(s1.trans s2).free z)
abbrev de(g:M×D→Qzq)(fa:Qqj):Qqj:=λe=>(fa e).bind g
def JU(K:PySem.W.Frag)(r:V→Hp→VK→Prop)(g:M×D→Qzq):Prop :=
 ∀H₀ O H x a Q m d,(∀a,O a→∃o,H a=some o)→(∀a o,H₀ a=some o→∃o',H a=some o')→Val K H₀ O HE H (Prod.fst a) a.2 x→g a=some (m,d)→(∀v H',aG H H'→Val K H₀ O H H' m d v→Q v H')→r x H Q
def abt{r:V→Hp→VK→Prop}{g:M×D→Qzq}{ta:TE}{fa:Qqj}(hr:JU K r g)(ha:JT K ta fa):JT K (Qe r ta) (de g fa):=by
 intro H₀ O H σ env Q m d R h q;unfold de at h;cases ea:fa env with
 |none=>rw[ea]at h;cases h
 |some a =>
  rw[ea]at h;refine ha H₀ O H σ env _ a.1 a.2 R ea λx H1 s1 h1=>?_;have R1:=R.keep s1;exact hr H₀ O H1 x a Q m d R1.od R1.hd h1.h0 h λv H3 s3 h3=>q v H3 (s1.trans s3) (h3.hb λa z=>s1.free z)
def jJ{H:Hp}{Hb:Hp}{i:Int}:Val K H₀ O Hb H .fr (.int i) (.int i):=Rp.int i
def fG{H:Hp}{Hb:Hp}{i:Bool}:Val K H₀ O Hb H .fr (.bl i) (.bl i):=Rp.bl i
def DL{H:Hp}{Hb:Hp}{i:Str}:Val K H₀ O Hb H .fr (.str i) (.str i):=Rp.str i
abbrev gI(c:Int→Int→Prop)[∀i j,Decidable (c i j)](f:Int→Int→Int):M×D→M×D→Qzq
 | (_,.int i),(_,.int j)=>if c i j then some (.fr,.int (f i j))else none
 |_,_=>none
abbrev vM(f:Int→Int→Int):M×D→M×D→Qzq
 | (_,.int i),(_,.int j)=>some (.fr,.int (f i j))
 |_,_=>none
abbrev An(f:Int→Int→Bool):M×D→M×D→Qzq
 | (_,.int i),(_,.int j)=>some (.fr,.bl (f i j))
 |_,_=>none
set_option tactic.hygienic true in
def rh{C:Int→Int→Prop}{c:Int→Int→Prop}[∀i j,Decidable (c i j)]{f:Int→Int→Int}(w:∀i j,c i j→C i j):JR K (rI C λi j=>.int (f i j)) (gI c f):=by
 intro H₀ O H x y a b Q m d _ _ h1 h2 h q;let⟨ma,da⟩:=a;let⟨mb,db⟩:=b;cases da<;>try (cases h;done)
 cases db<;>try (cases h;done)
 rename_i i j;simp only[gI]at h;split at h
 ·rename_i hc;cases h;exact⟨i,j,h1.int,h2.int,w i j hc,q _ H (aG.refl H) jJ⟩
 ·cases h
set_option tactic.hygienic true in
def yM{f:Int→Int→Int}:JR K (fN λi j=>.int (f i j)) (vM f):=by
 intro H₀ O H x y a b Q m d _ _ h1 h2 h q;let⟨ma,da⟩:=a;let⟨mb,db⟩:=b;cases da<;>try (cases h;done)
 cases db<;>try (cases h;done)
 rename_i i j;cases h;exact⟨i,j,h1.int,h2.int,q _ H (aG.refl H) jJ⟩
set_option tactic.hygienic true in
def DM{f:Int→Int→Bool}:JR K (fN λi j=>.bl (f i j)) (An f):=by
 intro H₀ O H x y a b Q m d _ _ h1 h2 h q;let⟨ma,da⟩:=a;let⟨mb,db⟩:=b;cases da<;>try (cases h;done)
 cases db<;>try (cases h;done)
 rename_i i j;cases h;exact⟨i,j,h1.int,h2.int,q _ H (aG.refl H) fG⟩
def Oy:=vM (·+·)
def jf:=vM (· - ·)
abbrev fW:=gI (λi j=>(-18446744073709551616<i∧i<18446744073709551616)∨(-18446744073709551616<j∧j<18446744073709551616)) (· * ·)
abbrev bf:=gI (λ_ j=>0<j) (· % ·)
abbrev jQ:=gI (λi j=>0≤j∧j≤1000000∧i.natAbs<2^64) (λi j=>i^j.toNat)
abbrev oV:=gI (λi j=>0≤j∧j≤1000000∧i.natAbs<2^64) (λi j=>i*2^j.toNat)
abbrev nC:=gI (λ_ j=>0≤j) (λi j=>i/2^j.toNat)
def gx:=An (λi j=>decide (i<j))
def pZ:=An (λi j=>decide (i≤j))
def iU:=An (λi j=>decide (j<i))
def Zo:JR K (fN λi j=>.int (i+j)) Oy:=yM
def Zq:JR K (fN λi j=>.int (i-j)) jf:=yM
def p64:(2:Int)^64=18446744073709551616:=by decide
def Zr:JR K (rI uN λi j=>.int (i*j)) fW:=rh λi j h=>by
 unfold uN;rw[p64];exact h
def Zt:JR K (rI (λ_ j=>0<j) λi j=>.int (i%j)) bf:=rh λ_ _ h=>h
def Zu:JR K (rI y9 λi j=>.int (i^j.toNat)) jQ:=rh λ_ _ h=>h
def Zv:JR K (rI y9 λi j=>.int (i*2^j.toNat)) oV:=rh λ_ _ h=>h
def Zw:JR K (rI (λ_ j=>0≤j) λi j=>.int (i/2^j.toNat)) nC:=rh λ_ _ h=>h
def abu:JR K (fN λi j=>.bl (decide (i<j))) gx:=DM
def abv:JR K (fN λi j=>.bl (decide (i≤j))) pZ:=DM
def abw:JR K (fN λi j=>.bl (decide (j<i))) iU:=DM
abbrev gJ:D→Option V
 |.non=>some .non
 |.bl b=>some (.bl b)
 |.int i=>some (.int i)
 |.str x=>some (.str x)
 |_=>none
def qQ{N:Addr→Prop}{d:D}{v w:V}(h:Rp K N H v d)(e:gJ d=some w):v=w:=by
 cases h<;>simp only[gJ]at e<;>cases e<;>rfl
def aP:M×D→M×D→Qzq:=λa b=>(gJ a.2).bind λx=>(gJ b.2).bind λy=>if za x y=true then some (.fr,.bl (decide (x=y)))else none
def kg:M×D→M×D→Qzq:=λa b=>(gJ a.2).bind λx=>(gJ b.2).bind λy=>if za x y=true then some (.fr,.bl (!decide (x=y)))else none
def abx:JR K Qg aP:=by
 intro H₀ O H x y a b Q m d _ _ h1 h2 h q;unfold aP at h;cases e1:gJ a.2 with
 |none=>rw[e1]at h;cases h
 |some x' =>
  cases e2:gJ b.2 with
  |none=>rw[e1,e2]at h;cases h
  |some y' =>
   rw[e1,e2]at h;obtain rfl:=qQ h1.weak e1;obtain rfl:=qQ h2.weak e2;simp only[Option.bind_some]at h;split at h
   ·rename_i hc;cases h;exact⟨hc,q _ H (aG.refl H) fG⟩
   ·cases h
def aby:JR K Qh kg:=by
 intro H₀ O H x y a b Q m d _ _ h1 h2 h q;unfold kg at h;cases e1:gJ a.2 with
 |none=>rw[e1]at h;cases h
 |some x' =>
  cases e2:gJ b.2 with
  |none=>rw[e1,e2]at h;cases h
  |some y' =>
   rw[e1,e2]at h;obtain rfl:=qQ h1.weak e1;obtain rfl:=qQ h2.weak e2;simp only[Option.bind_some]at h;split at h
   ·rename_i hc;cases h;exact⟨hc,q _ H (aG.refl H) fG⟩
   ·cases h
abbrev vN:D→Bool
 |.non=>true
 |_=>false
def kY:M×D→M×D→Qzq:=λa b=>if vN b.2=true then some (.fr,.bl (!vN a.2))else none
def Zx{N:Addr→Prop}{d:D}{v:V}(h:Rp K N H v d):vN d=decide (v=.non):=by
 cases h<;>rfl
def Zy{d:D}(h:vN d=true):d=.non:=by
 cases d<;>first|rfl|cases h
def W2:JR K (λx y H Q=>y=.non∧Q (.bl (!decide (x=.non))) H) kY:=by
 intro H₀ O H x y a b Q m d _ _ h1 h2 h q;let⟨mb,db⟩:=b;unfold kY at h;rw[Zx h1.weak]at h;by_cases hb:vN db=true
 ·rw[if_pos hb]at h;cases Zy hb;cases h;exact⟨h2.non,q _ H (aG.refl H) fG⟩
 ·rw[if_neg hb]at h;cases h
def au:M×D→M×D→Qzq
 | (m,.lst ds),(_,.int i)=>(bz ds i).map λd=>(aY m,d)
 | (m,.tup ds),(_,.int i)=>(bz ds i).map λd=>(aY m,d)
 | (_,.str z),(_,.int i)=>if z.length≤sizeLine then (bz z.cps.toList i).map λc=>(.fr,.str ⟨#[c]⟩)else none
 |_,_=>none
set_option tactic.hygienic true in
def abz:JR K (r9 K) au:=by
 intro H₀ O H x y a b Q m d _ _ h1 h2 h q;let⟨ma,da⟩:=a;let⟨mb,db⟩:=b;cases da<;>try (cases h;done)
 ·cases db<;>try (cases h;done)
  rename_i z i;simp only[au]at h;split at h
  ·rename_i hl;cases e:bz z.cps.toList i with
   |none=>rw[e]at h;cases h
   |some c =>
    rw[e]at h;cases h;exact .inr (.inr ⟨z,i,c,h1.str,h2.int,hl,e,q _ H (aG.refl H) DL⟩)
  ·cases h
 ·cases db<;>try (cases h;done)
  rename_i ds i;simp only[au]at h;cases e:bz ds i with
  |none=>rw[e]at h;cases h
  |some c =>
   rw[e]at h;cases h;let⟨p,xs,rfl,hp,hs⟩:=h1.tup;let⟨v,hv,r⟩:=hs.bz e;exact .inr (.inl ⟨p,xs,i,v,rfl,h2.int,hp,hv,q _ H (aG.refl H) (.el r)⟩)
 ·cases db<;>try (cases h;done)
  rename_i ds i;simp only[au]at h;cases e:bz ds i with
  |none=>rw[e]at h;cases h
  |some c =>
   rw[e]at h;cases h;let⟨p,xs,rfl,hp,hs⟩:=h1.lst;let⟨v,hv,r⟩:=hs.bz e;exact .inl ⟨p,xs,i,v,rfl,h2.int,hp,hv,q _ H (aG.refl H) (.el r)⟩
end
section
variable {K:PySem.W.Frag}{H H' H₀:Hp}{O:Addr→Prop}{σ:St}{env:Ev}
abbrev n6:M×D→Option Bool
 | (_,.bl b)=>some b
 |_=>none
def qE{a:M×D}{b:Bool}(h:n6 a=some b):a.2=.bl b:=by
 let⟨m,d⟩:=a;cases d<;>simp only[n6]at h<;>first | (cases h;rfl)|cases h
def nD(fa fb:Qqj):Qqj:=λe=>(fa e).bind λx=>(n6 x).bind λb=>if b=true then fb e else some (.fr,.bl false)
def mO(fa fb:Qqj):Qqj:=λe=>(fa e).bind λx=>(n6 x).bind λb=>if b=true then some (.fr,.bl true)else fb e
def Eu(fa:Qqj):Qqj:=λe=>(fa e).bind λx=>(n6 x).bind λb=>some (.fr,.bl (!b))
def av{α β:Type}{x:Option α}{f:α→Option β}{y:β}(h:x.bind f=some y):∃a,x=some a∧f a=some y:=by
 cases x with
 |none=>cases h
 |some a=>exact⟨a,rfl,h⟩
def Zz{ta tb:TE}{fa fb:Qqj}(ha:JT K ta fa)(hb:JT K tb fb):JT K (Nq ta tb) (nD fa fb):=by
 intro H₀ O H σ env Q m d R h q;let⟨a,ea,h⟩:=av h;let⟨b,eb,h⟩:=av h;refine ha H₀ O H σ env _ a.1 a.2 R ea λx H1 s1 h1=>?_;rw[qE eb]at h1;refine⟨b,h1.bl,?_⟩;cases b with
 |true =>
  rw[if_pos rfl]at h ⊢;exact hb H₀ O H1 σ env _ m d (R.keep s1) h λv H2 s2 h2=>q v H2 (s1.trans s2) (h2.hb λa z=>s1.free z)
 |false =>
  rw[if_neg bw]at h ⊢;cases h;exact q _ H1 s1 fG
def abA{ta tb:TE}{fa fb:Qqj}(ha:JT K ta fa)(hb:JT K tb fb):JT K (Ol ta tb) (mO fa fb):=by
 intro H₀ O H σ env Q m d R h q;let⟨a,ea,h⟩:=av h;let⟨b,eb,h⟩:=av h;refine ha H₀ O H σ env _ a.1 a.2 R ea λx H1 s1 h1=>?_;rw[qE eb]at h1;refine⟨b,h1.bl,?_⟩;cases b with
 |true =>
  rw[if_pos rfl]at h ⊢;cases h;exact q _ H1 s1 fG
 |false =>
  rw[if_neg bw]at h ⊢;exact hb H₀ O H1 σ env _ m d (R.keep s1) h λv H2 s2 h2=>q v H2 (s1.trans s2) (h2.hb λa z=>s1.free z)
def ZC{ta:TE}{fa:Qqj}(ha:JT K ta fa):JT K (Nr ta) (Eu fa):=by
 intro H₀ O H σ env Q m d R h q;let⟨a,ea,h⟩:=av h;let⟨b,eb,h⟩:=av h;cases h;refine ha H₀ O H σ env _ a.1 a.2 R ea λx H1 s1 h1=>?_;rw[qE eb]at h1;exact⟨b,h1.bl,q _ H1 s1 fG⟩
def jB(f:Qqj):Qqx:=λe=>(f e).bind n6
def uG{t:TE}{f:Qqj}(h:JT K t f):fO K (tB t) (jB f):=by
 intro H₀ O H σ env Q b R e q;let⟨a,ea,e⟩:=av e;refine h H₀ O H σ env _ a.1 a.2 R ea λx H1 s1 h1=>?_;rw[qE e]at h1;exact⟨b,h1.bl,q H1 s1⟩
def JH{t:TE}{f:Qqj}(h:JT K t f):fO K (DH t) (jB f):=uG h
def UD{t:TE}{f:Qqj}(h:JT K t f):fO K (λσ H Q=>t σ H λx H'=>∃k,zb K x H' k∧Q k H') (jB f):=by
 intro H₀ O H σ env Q b R e q;let⟨a,ea,e⟩:=av e;refine h H₀ O H σ env _ a.1 a.2 R ea λx H1 s1 h1=>?_;rw[qE e]at h1;exact⟨b,by rw[h1.bl];exact rfl,q H1 s1⟩
abbrev dm(f g:Qqx):Qqx:=λe=>(f e).bind λb=>if b=true then g e else some false
abbrev cQ(f g:Qqx):Qqx:=λe=>(f e).bind λb=>if b=true then some true else g e
abbrev eY(f:Qqx):Qqx:=λe=>(f e).bind λb=>some (!b)
def W3{t u:TT}{f g:Qqx}(h:fO K t f)(h':fO K u g):fO K (Oi t u) (dm f g):=by
 intro H₀ O H σ env Q b R e q;let⟨c,ec,e⟩:=av e;refine h H₀ O H σ env _ c R ec λH1 s1=>?_;cases c with
 |true =>
  rw[if_pos rfl]at e ⊢;exact h' H₀ O H1 σ env _ b (R.keep s1) e λH2 s2=>q H2 (s1.trans s2)
 |false =>
  rw[if_neg bw]at e ⊢;cases e;exact q H1 s1
def ZD{t u:TT}{f g:Qqx}(h:fO K t f)(h':fO K u g):fO K (P9 t u) (cQ f g):=by
 intro H₀ O H σ env Q b R e q;let⟨c,ec,e⟩:=av e;refine h H₀ O H σ env _ c R ec λH1 s1=>?_;cases c with
 |true =>
  rw[if_pos rfl]at e ⊢;cases e;exact q H1 s1
 |false =>
  rw[if_neg bw]at e ⊢;exact h' H₀ O H1 σ env _ b (R.keep s1) e λH2 s2=>q H2 (s1.trans s2)
def W4{t:TT}{f:Qqx}(h:fO K t f):fO K (Oj t) (eY f):=by
 intro H₀ O H σ env Q b R e q;let⟨c,ec,e⟩:=av e;cases e;exact h H₀ O H σ env _ c R ec λH1 s1=>q H1 s1
abbrev rj(c:Qqx)(fa fb:Qqj):Qqj:=λe=>(c e).bind λb=>if b=true then fa e else fb e
def ZE{t:TT}{c:Qqx}{ta tb:TE}{fa fb:Qqj}(hc:fO K t c)(ha:JT K ta fa)(hb:JT K tb fb):JT K (Qa t ta tb) (rj c fa fb):=by
 intro H₀ O H σ env Q m d R h q;let⟨b,eb,h⟩:=av h;refine hc H₀ O H σ env _ b R eb λH1 s1=>?_;cases b with
 |true =>
  rw[if_pos rfl]at h ⊢;exact ha H₀ O H1 σ env _ m d (R.keep s1) h λv H2 s2 h2=>q v H2 (s1.trans s2) (h2.hb λa z=>s1.free z)
 |false =>
  rw[if_neg bw]at h ⊢;exact hb H₀ O H1 σ env _ m d (R.keep s1) h λv H2 s2 h2=>q v H2 (s1.trans s2) (h2.hb λa z=>s1.free z)
def mW(g g':M×D→M×D→Qzq)(fa fb fc:Qqj):Qqj:=λe=>(fa e).bind λx=>(fb e).bind λy=>(g x y).bind λz=>(n6 z).bind λk=>if k=true then (fc e).bind λw=>g' y w else some (.fr,.bl false)
abbrev ai:Qqz:=λ_=>some []
abbrev ag(f:Qqj)(g:Qqz):Qqz:=λe=>(f e).bind λx=>(g e).bind λr=>some (x::r)
def W5:iB K lY ai:=by
 intro H₀ O H σ env Q ay R h q;cases h;exact q [] H (aG.refl H) .nil
def Vq{te:TE}{ta:TA}{f:Qqj}{g:Qqz}(hf:JT K te f)(hg:iB K ta g):iB K (mZ te ta) (ag f g):=by
 intro H₀ O H σ env Q ay R h q;let⟨x,ex,h⟩:=av h;let⟨r,er,h⟩:=av h;cases h;refine hf H₀ O H σ env _ x.1 x.2 R ex λv H1 s1 h1=>?_;refine hg H₀ O H1 σ env _ r (R.keep s1) er λvs H2 s2 h2=>?_;exact q (v::vs) H2 (s1.trans s2) (.cons (h1.keep s2) (m7 (λ_ _ z=>z.hb λa z=>s1.free z) h2))
theorem gE.iA{N:Addr→Prop}{Hb:Hp}:∀{ay:List (M×D)}{vs:List V},(∀md∈ay,∀v,Val K H₀ O Hb H md.1 md.2 v→Rp K N H v md.2)→gE K H₀ O Hb H ay vs→aB K N H vs (ay.map (·.2))
 |_,_,_,.nil=>.nil
 |md::ay,v::vs,h,.cons a r=>.cons (h md cg v a) (gE.iA (λx hx=>h x (cT _ hx)) r)
def cW{p:Addr}{o:HO}(h:H p=none):aG H (upd H p o):=λb u e=>by rw[aI (eR e h)];exact e
def i6(ay:List (M×D)):Qzq :=
 if ay.length≤sizeLine then
  if (ay.all λmd=>c9 md.1 md.2)=true then some (.un,.lst (ay.map (·.2)))
  else if (ay.all λmd=>hU md.1 md.2)=true then some (.al,.lst (ay.map (·.2)))else none
 else none
def bP(fs:Qqz):Qqj:=λe=>(fs e).bind i6
def tR{p:Addr}{xs:List V}{ds:Qzz}(od:∀a,O a→∃o,H a=some o)(hd:∀a o,H₀ a=some o→∃o',H a=some o')(hp:H p=none)(r:aB K (λa=>¬O a∧H₀ a=none) H xs ds):Val K H₀ O H (upd H p (.lst xs)) .un (.lst ds) (.ref p):=by
 refine⟨p,rfl,hp,?_,?_,xs,bN,?_⟩
 ·cases e:H₀ p with
  |none=>rfl
  |some o=>let⟨o',e'⟩:=hd p o e;rw[hp]at e';cases e'
 ·intro z;let⟨o,e⟩:=od p z;rw[hp]at e;cases e
 ·refine(aB.wk (λa h ⟨o,e⟩=>⟨h,?_⟩) r).keep (.same (cW hp));exact eR e hp
def iG{p:Addr}(od:∀a,O a→∃o,H a=some o)(hp:H p=none):¬O p:=by
 intro z;let⟨o,e⟩:=od p z;rw[hp]at e;cases e
def kC{p:Addr}(hd:∀a o,H₀ a=some o→∃o',H a=some o')(hp:H p=none):H₀ p=none:=by
 cases e:H₀ p with
 |none=>rfl
 |some o=>let⟨o',e'⟩:=hd p o e;rw[hp]at e';cases e'
def ZF{ta:TA}{fs:Qqz}(ha:iB K ta fs):JT K (zc ta) (bP fs):=by
 intro H₀ O H σ env Q m d R h q;let⟨ay,e,h⟩:=av h;unfold i6 at h;split at h
 ·rename_i hl;refine ha H₀ O H σ env _ ay R e λvs H1 s1 h1=>⟨by rw[←cE h1];exact hl,λp hp=>?_⟩;have R1:=R.keep s1;split at h
  ·rename_i hs;cases h;rw[lu]at hs;exact q _ _ (s1.trans (cW hp)) ((tR R1.od R1.hd hp (h1.iA λmd hm v hv=>hv.c9 (hs md hm))).hb λa z=>s1.free z)
  ·split at h
   ·rename_i hs;cases h;rw[lu]at hs;refine q _ _ (s1.trans (cW hp)) ?_;exact Rp.lst (.inl bN) (iG R1.od hp) ((h1.iA λmd hm v hv=>hv.hU (hs md hm)).keep (.same (cW hp)))
   ·cases h
 ·cases h
def kZ(ay:List (M×D)):Qzq :=
 if ay.length≤sizeLine then
  if (ay.all λmd=>c9 md.1 md.2)=true then some (.fr,.tup (ay.map (·.2)))
  else if (ay.all λmd=>hU md.1 md.2)=true then some (.al,.tup (ay.map (·.2)))
  else if (ay.all λmd=>vL md.1 md.2)=true then some (.rb,.tup (ay.map (·.2)))else none
 else none
def aV(fs:Qqz):Qqj:=λe=>(fs e).bind kZ
def ZG{ta:TA}{fs:Qqz}(ha:iB K ta fs):JT K (Ed ta) (aV fs):=by
 intro H₀ O H σ env Q m d R h q;let⟨ay,e,h⟩:=av h;unfold kZ at h;split at h
 ·rename_i hl;refine ha H₀ O H σ env _ ay R e λvs H1 s1 h1=>⟨by rw[←cE h1];exact hl,λp hp=>?_⟩;split at h
  ·rename_i hs;cases h;rw[lu]at hs;exact q _ _ (s1.trans (cW hp)) (Rp.tup (.inl bN) ((h1.iA λmd hm v hv=>hv.c9 (hs md hm)).keep (.same (cW hp))))
  ·split at h
   ·rename_i hs;cases h;rw[lu]at hs;exact q _ _ (s1.trans (cW hp)) (Rp.tup (.inl bN) ((h1.iA λmd hm v hv=>hv.hU (hs md hm)).keep (.same (cW hp))))
   ·split at h
    ·rename_i hs;cases h;rw[lu]at hs;exact q _ _ (s1.trans (cW hp)) (Rp.tup (.inl bN) ((h1.iA λmd hm v hv=>hv.vL (hs md hm)).keep (.same (cW hp))))
    ·cases h
 ·cases h
def iC(m:M)(ds:Qzz):Qzq :=
 if aY m=.al then (if D.cI ds=true then some (.un,.lst ds)else some (.al,.lst ds))else if aY m=.rb then (if D.cI ds=true then some (.un,.lst ds)else none)else some (.un,.lst ds)
def x5{p:Addr}{xs:List V}{ds:Qzz}{m m':M}{d:D}(od:∀a,O a→∃o,H a=some o)(hd:∀a o,H₀ a=some o→∃o',H a=some o')(hp:H p=none)(r:aB K (NM H₀ O (aY m)) H xs ds)(h:iC m ds=some (m',d)):Val K H₀ O H (upd H p (.lst xs)) m' d (.ref p):=by
 unfold iC at h;split at h
 ·rename_i e;rw[e]at r;split at h
  ·rename_i e;cases h;exact tR od hd hp (aB.im e r)
  ·cases h;exact Rp.lst (.inl bN) (iG od hp) (r.keep (.same (cW hp)))
 ·split at h
  ·split at h
   ·rename_i e;cases h;exact tR od hd hp (aB.im e r)
   ·cases h
  ·rename_i e1 e2;cases h;have e:aY m=.fr:=by cases m<;>simp[aY]at e1 e2 ⊢
   rw[e]at r;exact tR od hd hp r
def lE(K:PySem.W.Frag)(r:List V→Hp→VK→Prop)(g:List (M×D)→Qzq):Prop :=
 ∀H₀ O H vs ay Q m d,(∀a,O a→∃o,H a=some o)→(∀a o,H₀ a=some o→∃o',H a=some o')→gE K H₀ O HE H ay vs→g ay=some (m,d)→(∀v H',aG H H'→Val K H₀ O H H' m d v→Q v H')→r vs H Q
abbrev aK(g:List (M×D)→Qzq)(fs:Qqz):Qqj:=λe=>(fs e).bind g
def abB{r:List V→Hp→VK→Prop}{g:List (M×D)→Qzq}{ta:TA}{fs:Qqz}(hr:lE K r g)(ha:iB K ta fs):JT K (Ag r ta) (aK g fs):=by
 intro H₀ O H σ env Q m d R h q;let⟨ay,e,h⟩:=av h;refine ha H₀ O H σ env _ ay R e λvs H1 s1 h1=>?_;have R1:=R.keep s1;exact hr H₀ O H1 vs ay Q m d R1.od R1.hd (m7 (λ_ _ z=>z.h0) h1) h λv H3 s3 h3=>q v H3 (s1.trans s3) (h3.hb λa z=>s1.free z)
def gE.one{Hb:Hp}{a:M×D}{vs:List V}(h:gE K H₀ O Hb H [a] vs):∃v,vs=[v]∧Val K H₀ O Hb H a.1 a.2 v:=by
 cases h with|cons q t=>cases t;exact⟨_,rfl,q⟩
def gE.two{Hb:Hp}{a b:M×D}{vs:List V}(h:gE K H₀ O Hb H [a,b] vs):∃v w,vs=[v,w]∧Val K H₀ O Hb H a.1 a.2 v∧Val K H₀ O Hb H b.1 b.2 w:=by
 cases h with|cons q t=>cases t with|cons q' t=>cases t;exact⟨_,_,rfl,q,q'⟩
abbrev bG:List (M×D)→Qzq
 |[(_,.lst ds)]=>some (.fr,.int ds.length)
 |[(_,.tup ds)]=>some (.fr,.int ds.length)
 |[(_,.str z)]=>if z.length≤sizeLine then some (.fr,.int z.length)else none
 |_=>none
def W6:lE K (λxs H Q=>∃x n,xs=[x]∧Eb K x H n∧Q (.int n) H) bG:=by
 intro H₀ O H vs ay Q m d _ _ hv h q;unfold bG at h;split at h
 ·cases h;let⟨v,rfl,hw⟩:=hv.one;let⟨a,xs,rfl,r,s⟩:=hw.lst;exact⟨_,_,rfl,.inl ⟨xs,r,s.len.symm⟩,q _ H (aG.refl H) jJ⟩
 ·cases h;let⟨v,rfl,hw⟩:=hv.one;let⟨a,xs,rfl,r,s⟩:=hw.tup;exact⟨_,_,rfl,.inr ⟨xs,r,s.len.symm⟩,q _ H (aG.refl H) jJ⟩
 ·split at h
  ·rename_i hz;cases h;let⟨v,rfl,hw⟩:=hv.one;obtain rfl:=hw.str;exact⟨_,_,rfl,⟨hz,rfl⟩,q _ H (aG.refl H) jJ⟩
  ·cases h
 ·cases h
abbrev nE:List (M×D)→Qzq
 |[(_,.int i)]=>some (.fr,.int i)
 |[(_,.bl k)]=>some (.fr,.int (if k then 1 else 0))
 |_=>none
def W7:lE K (λxs H Q=>(∃i,xs=[.int i]∧Q (.int i) H)∨∃k,xs=[.bl k]∧Q (.int (if k then 1 else 0)) H) nE:=by
 intro H₀ O H vs ay Q m d _ _ hv h q;unfold nE at h;split at h
 ·cases h;let⟨v,rfl,hw⟩:=hv.one;obtain rfl:=hw.int;exact .inl ⟨_,rfl,q _ H (aG.refl H) jJ⟩
 ·cases h;let⟨v,rfl,hw⟩:=hv.one;obtain rfl:=hw.bl;exact .inr ⟨_,rfl,q _ H (aG.refl H) jJ⟩
 ·cases h
abbrev uT:List (M×D)→Qzq
 |[(_,.int i),(_,.int j)]=>some (.fr,.int (if j>i then j else i))
 |_=>none
def W8:lE K (λxs H Q=>∃i j,xs=[.int i,.int j]∧Q (.int (if j>i then j else i)) H) uT:=by
 intro H₀ O H vs ay Q m d _ _ hv h q;unfold uT at h;split at h
 ·cases h;let⟨v,w,rfl,hx,hw⟩:=hv.two;obtain rfl:=hx.int;obtain rfl:=hw.int;exact⟨_,_,rfl,q _ H (aG.refl H) jJ⟩
 ·cases h
def uH:List (M×D)→Qzq
 |[(m,.lst ds)]=>iC m ds
 |[(m,.tup ds)]=>iC m ds
 |_=>none
def Vr:lE K (λxs H Q=>∃p ys,xs=[.ref p]∧(b0 K H p ys∨bC K H p ys)∧∀l,H l=none→Q (.ref l) (upd H l (.lst ys))) uH:=by
 intro H₀ O H vs ay Q m d od hd hv h q;unfold uH at h;split at h
 ·let⟨v,rfl,hw⟩:=hv.one;let⟨a,xs,rfl,r,s⟩:=hw.lst;exact⟨_,_,rfl,.inl r,λl hl=>q _ _ (cW hl) (x5 od hd hl s h)⟩
 ·let⟨v,rfl,hw⟩:=hv.one;let⟨a,xs,rfl,r,s⟩:=hw.tup;exact⟨_,_,rfl,.inr r,λl hl=>q _ _ (cW hl) (x5 od hd hl s h)⟩
 ·cases h
def vO(K:PySem.W.Frag)(t:TO)(f:Ev→Option (Option Int)):Prop :=
 ∀H₀ O H σ env Q b,eW K H₀ O H σ env→f env=some b→(∀H',aG H H'→Q b H')→t σ H Q
abbrev jh:Ev→Option (Option Int):=λ_=>some none
abbrev oW:M×D→Option Int
 | (_,.int i)=>some i
 |_=>none
def CL{a:M×D}{b:Int}(h:oW a=some b):a.2=.int b:=by
 let⟨m,d⟩:=a;cases d<;>simp only[oW]at h<;>first | (cases h;rfl)|cases h
def gP(f:Qqj):Ev→Option (Option Int):=λe=>(f e).bind λx=>(oW x).map some
def Vs:vO K Kt jh:=by
 intro H₀ O H σ env Q b R h q;cases h;exact q H (aG.refl H)
def Vt{t:TE}{f:Qqj}(h:JT K t f):vO K (Nw t) (gP f):=by
 intro H₀ O H σ env Q b R e q;let⟨a,ea,e⟩:=av e;cases ei:oW a with
 |none=>rw[ei]at e;cases e
 |some i =>
  rw[ei]at e;cases e;refine h H₀ O H σ env _ a.1 a.2 R ea λx H1 s1 h1=>?_;rw[CL ei]at h1;exact⟨i,h1.int,q H1 s1⟩
def n8(K:PySem.W.Frag)(r:V→Option Int→Option Int→Hp→VK→Prop)(g:M×D→Option Int→Option Int→Qzq):Prop :=
 ∀H₀ O H x lo hi a Q m d,(∀a,O a→∃o,H a=some o)→(∀a o,H₀ a=some o→∃o',H a=some o')→Val K H₀ O HE H (Prod.fst a) a.2 x→g a lo hi=some (m,d)→(∀v H',aG H H'→Val K H₀ O H H' m d v→Q v H')→r x lo hi H Q
abbrev iD(g:M×D→Option Int→Option Int→Qzq)(f:Qqj)(l u:Ev→Option (Option Int)):Qqj:=λe=>(f e).bind λx=>(l e).bind λlo=>(u e).bind λhi=>g x lo hi
def abC{r:V→Option Int→Option Int→Hp→VK→Prop}{g:M×D→Option Int→Option Int→Qzq}{te:TE}{tl th:TO}{f:Qqj}{l u:Ev→Option (Option Int)}(hr:n8 K r g)(he:JT K te f)(hl:vO K tl l)(hu:vO K th u):JT K (Qj r te tl th) (iD g f l u):=by
 intro H₀ O H σ env Q m d R h q;let⟨x,ex,h⟩:=av h;let⟨lo,el,h⟩:=av h;let⟨hi,eh,h⟩:=av h;refine he H₀ O H σ env _ x.1 x.2 R ex λv H1 s1 h1=>?_;refine hl H₀ O H1 σ env _ lo (R.keep s1) el λH2 s2=>?_;refine hu H₀ O H2 σ env _ hi ((R.keep s1).keep s2) eh λH3 s3=>?_;have R3:=((R.keep s1).keep s2).keep s3;exact hr H₀ O H3 v lo hi x Q m d R3.od R3.hd ((h1.keep s2).keep s3).h0 h λv H4 s4 h4=>q v H4 (((s1.trans s2).trans s3).trans s4) (h4.hb λa z=>((s1.trans s2).trans s3).free z)
def cut{α:Type}(xs:List α)(lo hi:Option Int):List α:=(xs.drop (HT.bh xs.length 0 lo)).take (HT.bh xs.length xs.length hi-HT.bh xs.length 0 lo)
def Ew:M×D→Option Int→Option Int→Qzq
 | (m,.lst ds),lo,hi=>iC m (cut ds lo hi)
 |_,_,_=>none
theorem aB.cut{N:Addr→Prop}{xs:List V}{ds:Qzz}{lo hi:Option Int}(r:aB K N H xs ds):aB K N H (jP xs lo hi) (J.cut ds lo hi):=by
 unfold jP J.cut;rw[r.len];exact(r.drop _).take _
def Vu:n8 K (Ee K) Ew:=by
 intro H₀ O H x lo hi a Q m d od hd h1 h q;let⟨ma,da⟩:=a;cases da<;>try (cases h;done)
 let⟨p,xs,rfl,r,s⟩:=h1.lst;exact⟨p,xs,rfl,r,λl hl=>q _ _ (cW hl) (x5 od hd hl s.cut h)⟩
abbrev mJ:M→M→M
 |.al,_=>.al
 |_,.al=>.al
 |.rb,_=>.rb
 |_,.rb=>.rb
 |_,_=>.fr
def NM.Qu{a b:M}{x:Addr}(ha:aY a≠.rb)(hb:aY b≠.rb)(h:NM H₀ O (aY a) x):NM H₀ O (aY (mJ a b)) x:=by
 cases a<;>cases b<;>first|exact h|exact h.1|exact absurd rfl ha|exact absurd rfl hb
def NM.Qv{a b:M}{x:Addr}(ha:aY a≠.rb)(hb:aY b≠.rb)(h:NM H₀ O (aY b) x):NM H₀ O (aY (mJ a b)) x:=by
 cases a<;>cases b<;>first|exact h|exact h.1|exact absurd rfl ha|exact absurd rfl hb
def rn:M×D→M×D→Qzq
 | (m,.lst ds),(n,.lst es)=>if aY m=.rb∨aY n=.rb then none else if ds.length+es.length≤sizeLine then iC (mJ m n) (ds++es)else none
 |_,_=>none
def yN(K:PySem.W.Frag):R2:=λx y H Q=>∃l b xs zs,x=.ref l∧y=.ref b∧b0 K H l xs∧b0 K H b zs∧xs.length+zs.length≤sizeLine∧∀p,H p=none→Q (.ref p) (upd H p (.lst (xs++zs)))
def ZH:JR K (yN K) rn:=by
 intro H₀ O H x y a b Q m d od hd h1 h2 h q;let⟨ma,da⟩:=a;let⟨mb,db⟩:=b;cases da<;>try (cases h;done)
 cases db<;>try (cases h;done)
 simp only[rn]at h;split at h
 ·cases h
 ·rename_i hn;split at h
  ·rename_i hl;let⟨p,xs,rfl,r,s⟩:=h1.lst;let⟨p',F8,rfl,r',s'⟩:=h2.lst;have n1:aY ma≠.rb:=λz=>hn (.inl z);have n2:aY mb≠.rb:=λz=>hn (.inr z);refine⟨p,p',xs,F8,rfl,rfl,r,r',by rw[s.len,s'.len];exact hl,λl hl=>q _ _ (cW hl) (x5 od hd hl (aB.app (s.wk λ_ h _=>NM.Qu n1 n2 h) (s'.wk λ_ h _=>NM.Qv n1 n2 h)) h)⟩
  ·cases h
end
abbrev own:M→Bool
 |.bo=>true
 |.bi=>true
 |_=>false
def W9{m:M}(h:own m=true):jw m=true:=by cases m<;>first|rfl|cases h
theorem kz{α β:Type}{F:α→β→Prop}:∀{l:List α}{r:List β},l.length=r.length→(∀(j:Nat) a b,l[j]?=some a→r[j]?=some b→F a b)→Paired F l r
 |[],[],_,_=>.nil
 |a::l,b::r,e,h=>.cons (h 0 a b rfl rfl) (kz (by simpa using e) λj x y h1 h2=>h (j+1) x y (by simpa using h1) (by simpa using h2))
 |[],_::_,e,_=>by simp at e
 |_::_,[],e,_=>by simp at e
def Ao(H:Hp)(σ:St)(env:Ev):Prop :=
 (∀(i j:Nat) (d d':D),env[i]?=some (some (.nb,d))→env[j]?=some (some (.nb,d'))→i=j) ∧
 ∀(i j:Nat) (d:D) (x:M×D) (p q:Addr) (xs:List V),env[i]?=some (some (.nb,d))→σ[i]?=some (some (.ref p))→env[j]?=some (some x)→own x.1=true→σ[j]?=some (some (.ref q))→H p=some (.lst xs)→q≠p∧V.ref q∉xs
structure Rel (K:PySem.W.Frag)(H₀:Hp)(I:Nat→Option Addr)(O:Addr→Prop)(H:Hp)(σ:St)(env:Ev):Prop where
 e:eW K H₀ O H σ env
 fr:∀a o,(∀i,I i≠some a)→H₀ a=some o→H a=some o
 ow:∀a,O a→(∃i,I i=some a)∨H₀ a=none
 ba:∀(i:Nat) d p,env[i]?=some (some (.bi,d))→σ[i]?=some (some (.ref p))→I i=some p
 dj:∀(i j:Nat) (x y:M×D) (p:Addr),env[i]?=some (some x)→env[j]?=some (some y)→own x.1=true→own y.1=true→σ[i]?=some (some (.ref p))→σ[j]?=some (some (.ref p))→i=j
 nd:Ao H σ env
def aO(O:Addr→Prop)(H:Hp)(O':Addr→Prop)(H':Hp):Prop:=∀a o,H a=some o→¬O a→H' a=some o∧¬O' a
inductive Fl where
 |nx (e:Ev)|bk (e:Ev)|ct (e:Ev)|rt (e:Ev) (m:M) (d:D)
noncomputable abbrev Qqq:=Ev→Option Fl
def oX(K:PySem.W.Frag)(H₀:Hp)(I:Nat→Option Addr)(O:Addr→Prop)(H:Hp)(Ds:Ends):Fl→Prop
 |.nx e=>∀O' H' σ',Rel K H₀ I O' H' σ' e→aO O H O' H'→Ds.nx σ' H'
 |.bk e=>∀O' H' σ',Rel K H₀ I O' H' σ' e→aO O H O' H'→Ds.bk σ' H'
 |.ct e=>∀O' H' σ',Rel K H₀ I O' H' σ' e→aO O H O' H'→Ds.ct σ' H'
 |.rt e m d=>∀O' H' σ' v,Rel K H₀ I O' H' σ' e→aO O H O' H'→Val K H₀ O' HE H' m d v→Ds.rt v H'
def JS(K:PySem.W.Frag)(ts:TS)(g:Qqq):Prop :=
 ∀H₀ I O H σ env Ds fl,Rel K H₀ I O H σ env→g env=some fl→oX K H₀ I O H Ds fl→ts Ds σ H
section
variable {K:PySem.W.Frag}{H H' H₀:Hp}{I:Nat→Option Addr}{O O':Addr→Prop}{σ:St}{env:Ev}
def aO.refl:aO O H O H:=λa o h n=>⟨h,n⟩
def aO.trans{O1 O2:Addr→Prop}{H1 H2:Hp}(a:aO O H O1 H1)(b:aO O1 H1 O2 H2):aO O H O2 H2:=λx o h n=>b x o (a x o h n).1 (a x o h n).2
def aO.same(s:aG H H'):aO O H O H':=λa o h n=>⟨s a o h,n⟩
def Ao.keep(h:Ao H σ env)(w:∀(i:Nat) d p,env[i]?=some (some (.nb,d))→σ[i]?=some (some (.ref p))→H' p=H p):Ao H' σ env :=
 ⟨h.1,λi j d x p q xs h1 h2 h3 h4 h5 h6=>h.2 i j d x p q xs h1 h2 h3 h4 h5 (by rw[←w i d p h1 h2];exact h6)⟩
def eW.nest(R:eW K H₀ O H σ env){i:Nat}{d:D}{p:Addr}(h1:env[i]?=some (some (.nb,d)))(h2:σ[i]?=some (some (.ref p))):∃(qs:List Addr) (aQ:List (Qzz)),d=.lst (aQ.map D.lst)∧O p∧H₀ p=none∧H p=some (.lst (qs.map V.ref))∧qs.Nodup∧(∀q∈qs,O q∧H₀ q=none∧q≠p) ∧
  Paired (λq ds=>∃xs,H q=some (.lst xs)∧aB K (λa=>¬O a∧H₀ a=none) H xs ds) qs aQ:=by
 let⟨v,hv,_,hm⟩:=R.at h1;rw[h2]at hv;cases hv;let⟨p',qs,aQ,e,r⟩:=hm;cases e;exact⟨qs,aQ,r⟩
theorem Rel.keep(R:Rel K H₀ I O H σ env)(s:aG H H'):Rel K H₀ I O H' σ env:=⟨R.e.keep s,λa o n h=>s _ _ (R.fr a o n h),R.ow,R.ba,R.dj,R.nd.keep λi d p h1 h2=>by
 let⟨qs,aQ,_,_,_,e,_⟩:=R.e.nest h1 h2;rw[s _ _ e,e]⟩
abbrev Qw:M→Bool
 |.al=>true
 |.fr=>true
 |_=>false
def Xa{m:M}(h:Qw m=true):jw m=true:=by cases m<;>first|rfl|cases h
def oX.pre{O1:Addr→Prop}{H1:Hp}{Ds:Ends}{fl:Fl}(s:aO O H O1 H1)(h:oX K H₀ I O H Ds fl):oX K H₀ I O1 H1 Ds fl:=by
 cases fl<;>simp only[oX]at h ⊢
 ·exactλO' H' σ' R t=>h O' H' σ' R (s.trans t)
 ·exactλO' H' σ' R t=>h O' H' σ' R (s.trans t)
 ·exactλO' H' σ' R t=>h O' H' σ' R (s.trans t)
 ·exactλO' H' σ' v R t=>h O' H' σ' v R (s.trans t)
abbrev aS:Qqq:=λe=>some (.nx e)
def Xb:JS K yH aS:=by
 intro H₀ I O H σ env Ds fl R h q;cases h;exact q O H σ R aO.refl
abbrev aq(f g:Qqq):Qqq:=λe=>(f e).bind λr=>match r with
 |.nx e'=>g e'
 |.bk e'=>some (.bk e')
 |.ct e'=>some (.ct e')
 |.rt e' m d=>some (.rt e' m d)
def ZI{t u:TS}{f g:Qqq}(ht:JS K t f)(hu:JS K u g):JS K (ny t u) (aq f g):=by
 intro H₀ I O H σ env Ds fl R h q;let⟨r,er,h⟩:=av h;refine ht H₀ I O H σ env _ r R er ?_;cases r with
 |nx e'=>exactλO' H' σ' R' s=>hu H₀ I O' H' σ' e' Ds fl R' h (q.pre s)
 |bk e'=>cases h;exact q
 |ct e'=>cases h;exact q
 |rt e' m d=>cases h;exact q
abbrev aF(f:Qqj):Qqq:=λe=>(f e).bind λx=>some (.rt e x.1 x.2)
def ZJ{t:TE}{f:Qqj}(h:JT K t f):JS K (qY t) (aF f):=by
 intro H₀ I O H σ env Ds fl R e q;let⟨x,ex,e⟩:=av e;cases e;exact h H₀ O H σ env _ x.1 x.2 R.e ex λv H1 s1 h1=>q O H1 σ v (R.keep s1) (aO.same s1) h1.h0
abbrev aM(c:Qqx)(f g:Qqq):Qqq:=λe=>(c e).bind λb=>if b=true then f e else g e
def abD{c:TT}{t u:TS}{fc:Qqx}{f g:Qqq}(hc:fO K c fc)(ht:JS K t f)(hu:JS K u g):JS K (y7 c t u) (aM fc f g):=by
 intro H₀ I O H σ env Ds fl R h q;let⟨b,eb,h⟩:=av h;refine hc H₀ O H σ env _ b R.e eb λH1 s1=>?_;cases b with
 |true =>
  rw[if_pos rfl]at h ⊢;exact ht H₀ I O H1 σ env Ds fl (R.keep s1) h (q.pre (aO.same s1))
 |false =>
  rw[if_neg bw]at h ⊢;exact hu H₀ I O H1 σ env Ds fl (R.keep s1) h (q.pre (aO.same s1))
abbrev NF:M→Option M
 |.al=>some .al
 |.fr=>some .fr
 |.un=>some .bo
 |.ut=>some .fr
 |_=>none
def qF(x:M×D):Qzq:=match NF x.1 with
 |some m=>some (m,x.2)
 |none=>if x.2.cq=true then some (.fr,x.2)else none
theorem Ex{α β:Type}{F:α→β→Prop}{a:α}{b:β}(q:F a b):∀{l:List α}{r:List β} (i:Nat),Paired F l r→Paired F (l.set i a) (r.set i b)
 |_,_,_,.nil=>.nil
 |_,_,0,.cons _ t=>.cons q t
 |_,_,i+1,.cons h t=>.cons h (Ex q i t)
def get_set{α:Type}{l:List α}{i j:Nat}{a b:α}(h:(l.set i a)[j]?=some b):(j=i∧b=a)∨(j≠i∧l[j]?=some b):=by
 rw[mz]at h;split at h
 ·rename_i e;split at h
  ·exact .inl ⟨e.symm,(dP h).symm⟩
  ·cases h
 ·rename_i e;exact .inr ⟨λz=>e z.symm,h⟩
def Rel.oF{i:Nat}{x:M×D}{p:Addr}(R:Rel K H₀ I O H σ env)(hx:env[i]?=some (some x))(ho:own x.1=true)(hp:σ[i]?=some (some (.ref p))):O p∧Cell K (λa=>¬O a∧H₀ a=none) H p x.2:=by
 let⟨m,d⟩:=x;let⟨v,hv,n,hm⟩:=R.e.at hx;rw[hp]at hv;cases hv;cases m<;>simp only[own]at ho<;>try (cases ho;done)
 ·let⟨p',e,h1,_,c⟩:=hm;cases e;exact⟨h1,c⟩
 ·let⟨p',e,h1,c⟩:=hm;cases e;exact⟨h1,c⟩
theorem Cp{F:Addr→Qzz→Prop}:∀{qs:List Addr}{aQ:List (Qzz)}{q:Addr},Paired F qs aQ→q∈qs→∃ds,F q ds
 |_,_,_,.nil,h=>nomatch h
 |_,_,_,.cons a t,h=>by
  rcases dQ.mp h with rfl|h
  ·exact⟨_,a⟩
  ·exact Cp t h
def Rel.set_plain{i:Nat}{m:M}{d:D}{v:V}(R:Rel K H₀ I O H σ env)(hm:own m=false)(hu:Qw m=true)(h:Val K H₀ O HE H m d v):Rel K H₀ I O H (σ.set i (some v)) (env.set i (some (m,d))):=by
 refine⟨⟨Ex (λm' d' q=>?_) i R.e.sl,R.e.od,R.e.hd,R.e.on⟩,R.fr,R.ow,λi' d' p h1 p1=>?_,λi' j x y p h1 h2 o1 o2 p1 p2=>?_,⟨λi' j d1 d2 h1 h2=>?_,λi' j d1 x p q xs h1 p1 h2 o2 p2 e=>?_⟩⟩
 ·cases q;exact⟨Xa hu,v,rfl,h⟩
 ·rcases get_set h1 with⟨rfl,q⟩|⟨n1,q1⟩
  ·cases q;cases hm
  ·rw[dY (λz=>n1 z.symm)]at p1;exact R.ba i' d' p q1 p1
 ·rcases get_set h1 with⟨rfl,q⟩|⟨n1,q1⟩
  ·cases q;rw[hm]at o1;cases o1
  ·rcases get_set h2 with⟨rfl,q⟩|⟨n2,q2⟩
   ·cases q;rw[hm]at o2;cases o2
   ·rw[dY (λz=>n1 z.symm)]at p1;rw[dY (λz=>n2 z.symm)]at p2;exact R.dj i' j x y p q1 q2 o1 o2 p1 p2
 ·rcases get_set h1 with⟨rfl,q⟩|⟨n1,q1⟩
  ·cases q;cases hu
  ·rcases get_set h2 with⟨rfl,q⟩|⟨n2,q2⟩
   ·cases q;cases hu
   ·exact R.nd.1 i' j d1 d2 q1 q2
 ·rcases get_set h1 with⟨rfl,q⟩|⟨n1,q1⟩
  ·cases q;cases hu
  ·rcases get_set h2 with⟨rfl,q⟩|⟨n2,q2⟩
   ·cases q;rw[hm]at o2;cases o2
   ·rw[dY (λz=>n1 z.symm)]at p1;rw[dY (λz=>n2 z.symm)]at p2;exact R.nd.2 i' j d1 x p q xs q1 p1 q2 o2 p2 e
def Rel.ZK{i:Nat}{d:D}{v:V}{H1:Hp}(R:Rel K H₀ I O H σ env)(s:aG H H1)(h:Val K H₀ O H H1 .un d v):∃O',Rel K H₀ I O' H1 (σ.set i (some v)) (env.set i (some (.bo,d)))∧aO O H O' H1:=by
 let⟨p,rfl,hp,h0,ho,c⟩:=h;have np:∀a,(∃o,H a=some o)→a≠p:=λa ⟨o,e⟩=>eR e hp;have wk:∀{N:Addr→Prop}{d:D}{v:V},Rp K N H v d→Rp K (λa=>N a∧a≠p) H1 v d:=λr=>(r.wk λa n e=>⟨n,np a e⟩).keep (.same s);have vP:∀{N:Addr→Prop}{d:D}{q:Addr},Cell K N H q d→Cell K (λa=>N a∧a≠p) H1 q d:=λ{N d q} r=>by
  let⟨o,e,_⟩:=r.some;exact(r.wk λa n e=>⟨n,np a e⟩).keep (.same s) ((s _ _ e).trans e.symm)
 let⟨o,eo,nto⟩:=c.some;refine⟨λa=>O a∨a=p,⟨⟨Ex (λm' d' q=>?_) i (m7 (λe x h m d q=>?_) R.e.sl),?_,?_,?_⟩,?_,?_,?_,?_,?_⟩,?_⟩
 ·cases q;exact⟨rfl,_,rfl,p,rfl,.inr rfl,h0,c.wk λa h _=>⟨λz=>z.elim h.1.1 h.2,h.1.2⟩⟩
 ·let⟨n,v,rfl,z⟩:=h m d q;refine⟨n,v,rfl,?_⟩;cases m
  ·exact(wk z).wk λa h _=>λz=>z.elim h.1 h.2
  ·exact(wk z).wk λa h _=>⟨λz=>z.elim h.1.1 h.2,h.1.2⟩
  ·cases n
  ·let⟨q,rfl,h1,h2,c'⟩:=z;exact⟨q,rfl,.inl h1,h2,(vP c').wk λa h _=>⟨λz=>z.elim h.1.1 h.2,h.1.2⟩⟩
  ·let⟨q,rfl,h1,c'⟩:=z;exact⟨q,rfl,.inl h1,(vP c').wk λa h _=>⟨λz=>z.elim h.1.1 h.2,h.1.2⟩⟩
  ·cases n
  ·let⟨q,qs,aQ,e1,e2,h1,h2,h3,h4,h5,h6⟩:=z;exact⟨q,qs,aQ,e1,e2,.inl h1,h2,s _ _ h3,h4,λx hx=>⟨.inl (h5 x hx).1,(h5 x hx).2⟩,kR (λx ds _ ⟨xs,a,r⟩=>⟨xs,s _ _ a,((r.wk λa n e=>(⟨n,np a e⟩:(¬O a∧H₀ a=none)∧a≠p)).keep (.same s)).wk λa h _=>⟨λz=>z.elim h.1.1 h.2,h.1.2⟩⟩) h6⟩
  ·cases n
 ·intro a ha;rcases ha with ha|rfl
  ·let⟨o,e⟩:=R.e.od a ha;exact⟨o,s _ _ e⟩
  ·exact⟨o,eo⟩
 ·exactλa o h=>let ⟨o,e⟩:=R.e.hd a o h;⟨o,s _ _ e⟩
 ·intro a u ha e;rcases ha with ha|rfl
  ·exact(R.e.keep s).on a u ha e
  ·rw[eo]at e;cases e;exact nto
 ·exactλa o n h=>s _ _ (R.fr a o n h)
 ·intro a ha;rcases ha with ha|rfl
  ·exact R.ow a ha
  ·exact .inr h0
 ·intro i' d' p' h1 p1;rcases get_set h1 with⟨rfl,q⟩|⟨n1,q1⟩
  ·cases q
  ·rw[dY (λz=>n1 z.symm)]at p1;exact R.ba i' d' p' q1 p1
 ·intro i' j x y q h1 h2 o1 o2 p1 p2;rcases get_set h1 with⟨rfl,q1⟩|⟨n1,q1⟩
  ·rcases get_set h2 with⟨rfl,q2⟩|⟨n2,q2⟩
   ·rfl
   ·exfalso;rw[dY (λz=>n2 z.symm)]at p2;rcases get_set p1 with⟨_,z⟩|⟨z,_⟩
    ·cases z;let⟨_,c'⟩:=R.oF q2 o2 p2;let⟨o',e',_⟩:=c'.some;rw[hp]at e';cases e'
    ·exact z rfl
  ·rcases get_set h2 with⟨rfl,q2⟩|⟨n2,q2⟩
   ·exfalso;rw[dY (λz=>n1 z.symm)]at p1;rcases get_set p2 with⟨_,z⟩|⟨z,_⟩
    ·cases z;let⟨_,c'⟩:=R.oF q1 o1 p1;let⟨o',e',_⟩:=c'.some;rw[hp]at e';cases e'
    ·exact z rfl
   ·rw[dY (λz=>n1 z.symm)]at p1;rw[dY (λz=>n2 z.symm)]at p2;exact R.dj i' j x y q q1 q2 o1 o2 p1 p2
 ·refine⟨λi' j d1 d2 h1 h2=>?_,λi' j d1 x p' q xs h1 p1 h2 o2 p2 e=>?_⟩
  ·rcases get_set h1 with⟨rfl,z⟩|⟨n1,q1⟩
   ·cases z
   ·rcases get_set h2 with⟨rfl,z⟩|⟨n2,q2⟩
    ·cases z
    ·exact R.nd.1 i' j d1 d2 q1 q2
  ·rcases get_set h1 with⟨rfl,z⟩|⟨n1,q1⟩
   ·cases z
   ·rw[dY (λz=>n1 z.symm)]at p1;let⟨qs,aQ,_,_,_,e3,_,_,h6⟩:=R.e.nest q1 p1;rw[s _ _ e3]at e;cases e;rcases get_set h2 with⟨rfl,z⟩|⟨n2,q2⟩
    ·rcases get_set p2 with⟨_,z⟩|⟨z,_⟩
     ·cases z;refine⟨(λz=>by rw[z,e3]at hp;cases hp),λz=>?_⟩;let⟨a,ha,ea⟩:=bQ.mp z;cases ea;let⟨ds,xs,hx,_⟩:=Cp h6 ha;rw[hp]at hx;cases hx
     ·exact absurd rfl z
    ·rw[dY (λz=>n2 z.symm)]at p2;exact R.nd.2 i' j d1 x p' q _ q1 p1 q2 o2 p2 e3
 ·intro a o h n;exact⟨s a o h,λz=>z.elim n (np a ⟨o,h⟩)⟩
def Rel.give{i:Nat}{x y:M×D}{v:V}{H1:Hp}(R:Rel K H₀ I O H σ env)(s:aG H H1)(h:Val K H₀ O H H1 x.1 x.2 v)(e:qF x=some y):∃O',Rel K H₀ I O' H1 (σ.set i (some v)) (env.set i (some y))∧aO O H O' H1:=by
 let⟨m,d⟩:=x;unfold qF at e;cases m<;>simp only[NF]at e
 ·cases e;exact⟨O,(R.keep s).set_plain rfl rfl h,.same s⟩
 ·cases e;exact⟨O,(R.keep s).set_plain rfl rfl h,.same s⟩
 ·cases e;exact R.ZK s h
 ·split at e
  ·rename_i hi;cases e;exact⟨O,(R.keep s).set_plain rfl rfl (show Rp K _ H1 v d from h.weak.im hi),.same s⟩
  ·cases e
 ·split at e
  ·rename_i hi;cases e;exact⟨O,(R.keep s).set_plain rfl rfl (show Rp K _ H1 v d from h.weak.im hi),.same s⟩
  ·cases e
 ·split at e
  ·rename_i hi;cases e;exact⟨O,(R.keep s).set_plain rfl rfl (show Rp K _ H1 v d from h.weak.im hi),.same s⟩
  ·cases e
 ·split at e
  ·rename_i hi;cases e;exact⟨O,(R.keep s).set_plain rfl rfl (show Rp K _ H1 v d from h.weak.im hi),.same s⟩
  ·cases e
 ·cases e;exact⟨O,(R.keep s).set_plain rfl rfl (show Rp K _ H1 v d from h.c9 rfl),.same s⟩
def aw(i:Nat)(f:Qqj):Qqq:=λe=>(f e).bind λx=>(qF x).bind λy=>some (.nx (e.set i (some y)))
def Mi{i:Nat}{t:TE}{f:Qqj}(h:JT K t f):JS K (il t (gO i)) (aw i f):=by
 intro H₀ I O H σ env Ds fl R e q;let⟨x,ex,e⟩:=av e;let⟨y,ey,e⟩:=av e;cases e;refine h H₀ O H σ env _ x.1 x.2 R.e ex λv H1 s1 h1=>?_;let⟨O',R',st⟩:=R.give (i:=i) s1 h1 ey;exact q O' H1 _ R' st
def Rel.mut{i:Nat}{m:M}{d d':D}{p:Addr}{o:HO}(R:Rel K H₀ I O H σ env)(hx:env[i]?=some (some (m,d)))(ho:own m=true)(hp:σ[i]?=some (some (.ref p)))
  (c:Cell K (λa=>¬O a∧H₀ a=none) (upd H p o) p d'):Rel K H₀ I O (upd H p o) σ (env.set i (some (m,d')))∧aO O H O (upd H p o):=by
 let⟨hO,c0⟩:=R.oF hx ho hp;let⟨o0,e0,nt⟩:=c0.some;have kp:∀{N:Addr→Prop},(∀a,N a→¬O a)→Keeps N H (upd H p o):=λw a u h z=>by
  have f7:a≠p:=by
   rintro rfl;rcases z with z|z
   ·exact w _ z hO
   ·rw[e0]at h;cases h;exact nt z
  rw[aI f7];exact h
 have hi:i<env.length:=by
  rcases vh i env.length with h|h
  ·exact h
  ·rw[pO h]at hx;cases hx
 have hσ:σ=σ.set i (some (.ref p)):=by
  refine List.ext_getElem? λj=>?_;rw[mz];split
  ·rename_i z;subst z;have hl:i<σ.length:=by rw[←cE R.e.sl];exact hi
   rw[if_pos hl,hp]
  ·rfl
 refine⟨⟨⟨?_,?_,?_,?_⟩,?_,R.ow,?_,?_,?_⟩,?_⟩
 ·
  have base:∀(j:Nat) (e:Qzq) (x:Option V),(env.set i (some (m,d')))[j]?=some e→σ[j]?=some x→∀m d,e=some (m,d)→jw m=true∧∃v,x=some v∧Val K H₀ O HE (upd H p o) m d v:=by
   intro j e x he vQ m1 d1 q;subst q;rcases get_set he with⟨rfl,q⟩|⟨nj,q⟩
   ·cases q;rw[hp]at vQ;cases vQ;refine⟨W9 ho,_,rfl,?_⟩;cases m<;>simp only[own]at ho<;>try (cases ho;done)
    ·let⟨v,hv,n,hm⟩:=R.e.at hx;rw[hp]at hv;cases hv;let⟨p',e,h1,h2,_⟩:=hm;cases e;exact⟨p,rfl,h1,h2,c⟩
    ·exact⟨p,rfl,hO,c⟩
   ·let⟨v,hv,n,hm⟩:=R.e.at q;rw[vQ]at hv;cases hv;refine⟨n,v,rfl,?_⟩;have nq:∀{p':Addr},own m1=true→v=.ref p'→p'≠p:=λ{p'} F9 ev z=>by
     subst ev;subst z;exact nj (R.dj j i _ _ p' q hx F9 ho vQ hp)
    cases m1
    ·exact Rp.keep (kp λa h=>h) hm
    ·exact Rp.keep (kp λa h=>h.1) hm
    ·cases n
    ·let⟨p',rfl,h1,h2,c'⟩:=hm;exact⟨p',rfl,h1,h2,c'.keep (kp λa h=>h.1) (aI (nq rfl rfl))⟩
    ·let⟨p',rfl,h1,c'⟩:=hm;exact⟨p',rfl,h1,c'.keep (kp λa h=>h.1) (aI (nq rfl rfl))⟩
    ·cases n
    ·let⟨p',qs,aQ,rfl,e2,h1,h2,h3,h4,h5,h6⟩:=hm;let⟨z1,z2⟩:=R.nd.2 j i d1 (m,d) p' p _ q vQ hx ho hp h3;refine⟨p',qs,aQ,rfl,e2,h1,h2,by rw[aI (λz=>z1 z.symm)];exact h3,h4,h5,kR (λx ds hx ⟨xs,a,r⟩=>⟨xs,?_,r.keep (kp λa h=>h.1)⟩) h6⟩;rw[aI (λz=>z2 (bQ.mpr ⟨x,hx,by rw[z]⟩))];exact a
    ·cases n
  refine kz ?_ λj e x h1 h2=>base j e x h1 h2;rw[fZ];exact cE R.e.sl
 ·intro a ha;by_cases z:a=p
  ·subst z;exact⟨o,bN⟩
  ·rw[aI z];exact R.e.od a ha
 ·intro a u h;by_cases z:a=p
  ·subst z;exact⟨o,bN⟩
  ·rw[aI z];exact R.e.hd a u h
 ·intro a u ha e;by_cases z:a=p
  ·subst z;let⟨o1,e1,n1⟩:=c.some;rw[e]at e1;cases e1;exact n1
  ·rw[aI z]at e;exact R.e.on a u ha e
 ·intro a u n h;have z:a≠p:=by
   rintro rfl;rcases R.ow a hO with⟨i,q⟩|q
   ·exact n i q
   ·rw[h]at q;cases q
  rw[aI z];exact R.fr a u n h
 ·intro i' e' p' h1 p1;rcases get_set h1 with⟨rfl,q⟩|⟨n1,q1⟩
  ·cases q;exact R.ba _ d p' hx p1
  ·exact R.ba i' e' p' q1 p1
 ·intro i' j x y q h1 h2 o1 o2 p1 p2;have f:∀{k:Nat}{x:M×D},(env.set i (some (m,d')))[k]?=some (some x)→own x.1=true→∃x',env[k]?=some (some x')∧own x'.1=true:=λ{k x} h o=>by
   rcases get_set h with⟨rfl,q⟩|⟨_,q⟩
   ·exact⟨_,hx,ho⟩
   ·exact⟨x,q,o⟩
  let⟨x',a1,b1⟩:=f h1 o1;let⟨y',a2,b2⟩:=f h2 o2;exact R.dj i' j x' y' q a1 a2 b1 b2 p1 p2
 ·have g:∀{k:Nat}{d1:D},(env.set i (some (m,d')))[k]?=some (some (.nb,d1))→env[k]?=some (some (.nb,d1)):=λ{k d1} h=>by
   rcases get_set h with⟨rfl,q⟩|⟨_,q⟩
   ·cases q;cases ho
   ·exact q
  refine⟨λi' j d1 d2 h1 h2=>R.nd.1 i' j d1 d2 (g h1) (g h2),λi' j d1 x p' q xs h1 p1 h2 o2 p2 e=>?_⟩;let⟨qs,aQ,_,_,_,e3,_⟩:=R.e.nest (g h1) p1;let⟨z1,_⟩:=R.nd.2 i' i d1 (m,d) p' p _ (g h1) p1 hx ho hp e3;rw[aI (λz=>z1 z.symm)]at e;rcases get_set h2 with⟨rfl,z⟩|⟨_,z⟩
  ·cases z;exact R.nd.2 i' j d1 (m,d) p' q xs (g h1) p1 hx ho p2 e
  ·exact R.nd.2 i' j d1 x p' q xs (g h1) p1 z o2 p2 e
 ·intro a u h n;have z:a≠p:=by rintro rfl;exact n hO
  exact⟨by rw[aI z];exact h,n⟩
end
section
variable {K:PySem.W.Frag}{H H' H₀:Hp}{I:Nat→Option Addr}{O O':Addr→Prop}{σ:St}{env:Ev}
def ft(i:Nat)(e:Ev):Option (M×Qzz):=match e[i]? with
 |some (some (m,.lst ds))=>if own m=true then some (m,ds)else none
 |_=>none
def KH{i:Nat}{e:Ev}{m:M}{ds:Qzz}(h:ft i e=some (m,ds)):e[i]?=some (some (m,.lst ds))∧own m=true:=by
 unfold ft at h;split at h
 ·rename_i e;split at h
  ·cases h;exact⟨e,by assumption⟩
  ·cases h
 ·cases h
theorem Rel.lst{i:Nat}{m:M}{ds:Qzz}(R:Rel K H₀ I O H σ env)(h:ft i env=some (m,ds)):∃p xs,σ[i]?=some (some (.ref p))∧O p∧H p=some (.lst xs)∧aB K (λa=>¬O a∧H₀ a=none) H xs ds:=by
 let⟨e,o⟩:=KH h;let⟨v,hv,n,hm⟩:=R.e.at e;cases m<;>simp only[own]at o<;>try (cases o;done)
 ·let⟨p,rfl,h1,h2,xs,c,r⟩:=hm;exact⟨p,xs,hv,h1,c,r⟩
 ·let⟨p,rfl,h1,xs,c,r⟩:=hm;exact⟨p,xs,hv,h1,c,r⟩
theorem aB.upd{xs:List V}{ds:Qzz}{p:Addr}{o:HO}{o0:HO}(hO:O p)(h0:H p=some o0)(nt:¬hJ o0)(r:aB K (λa=>¬O a∧H₀ a=none) H xs ds):aB K (λa=>¬O a∧H₀ a=none) (L2.upd H p o) xs ds:=by
 refine r.keep λa u e z=>?_;have f7:a≠p:=by
  rintro rfl;rcases z with z|z
  ·exact z.1 hO
  ·rw[h0]at e;cases e;exact nt z
 rw[aI f7];exact e
def Rel.zm{i:Nat}{m:M}{ds:Qzz}{p:Addr}{xs ys:List V}{es:Qzz}(R:Rel K H₀ I O H σ env)(h:ft i env=some (m,ds))(hp:σ[i]?=some (some (.ref p)))(hx:H p=some (.lst xs))(r:aB K (λa=>¬O a∧H₀ a=none) H ys es) :
  Rel K H₀ I O (L2.upd H p (.lst ys)) σ (env.set i (some (m,.lst es)))∧aO O H O (L2.upd H p (.lst ys)):=by
 let⟨e,o⟩:=KH h;have hO:=(R.oF e o hp).1;exact R.mut e o hp ⟨ys,bN,r.upd hO hx (λz=>z)⟩
def cJ(i:Nat)(f:Qqj):Qqq:=λe=>(f e).bind λx=>if c9 x.1 x.2=true then (ft i e).bind λy=>if y.2.length<sizeLine then some (.nx (e.set i (some (y.1,.lst (y.2++[x.2])))))else none else none
def ZL{i:Nat}{t:TE}{f:Qqj}(h:JT K t f):JS K (qN (vD K "list" tZ (ik i) (mZ t lY))) (cJ i f):=by
 intro H₀ I O H σ env Ds fl R e q;let⟨x,ex,e⟩:=av e;split at e
 ·rename_i hs;let⟨⟨m,ds⟩,ey,e⟩:=av e;split at e
  ·rename_i hl;cases e;let⟨p,xs,hp,hO,hx,r⟩:=R.lst ey;refine⟨.ref p,hp,.inl ⟨rfl,xs,.inl (.inl hx)⟩,?_⟩;refine h H₀ O H σ env _ x.1 x.2 R.e ex λv H1 s1 h1=>?_;refine⟨p,xs,v,rfl,rfl,s1 _ _ hx,by rw[r.len];exact hl,?_⟩;have R1:=R.keep s1;let⟨R2,st⟩:=R1.zm (ys:=xs++[v]) (es:=ds++[x.2]) ey hp (s1 _ _ hx) ((r.keep (.same s1)).app (.cons (h1.c9 hs) .nil));exact q O _ σ R2 ((aO.same s1).trans st)
  ·cases e
 ·cases e
def fS(i:Nat)(fk fe:Qqj):Qqq:=λe=>(fe e).bind λx=>(fk e).bind λk=>(oW k).bind λk=>if c9 x.1 x.2=true then (ft i e).bind λy=>(dR y.2.length k).bind λj=>some (.nx (e.set i (some (y.1,.lst (y.2.set j x.2)))))else none
def Vv{i:Nat}{t tk:TE}{f fk:Qqj}(h:JT K t f)(hk:JT K tk fk):JS K (il t (Oo (ik i) tk Nx)) (fS i fk f):=by
 intro H₀ I O H σ env Ds fl R e q;let⟨x,ex,e⟩:=av e;let⟨k,ek,e⟩:=av e;let⟨k',ek',e⟩:=av e;split at e
 ·rename_i hs;let⟨⟨m,ds⟩,ey,e⟩:=av e;let⟨j,ej,e⟩:=av e;cases e;let⟨p,xs,hp,hO,hx,r⟩:=R.lst ey;refine h H₀ O H σ env _ x.1 x.2 R.e ex λv H1 s1 h1=>?_;refine⟨.ref p,hp,?_⟩;refine hk H₀ O H1 σ env _ k.1 k.2 (R.keep s1).e ek λw H2 s2 h2=>?_;rw[CL ek']at h2;have s:=s1.trans s2;refine⟨p,xs,k',j,rfl,h2.int,s _ _ hx,by rw[r.len];exact ej,?_⟩;let⟨R2,st⟩:=(R.keep s).zm (ys:=xs.set j v) (es:=ds.set j x.2) ey hp (s _ _ hx) ((r.keep (.same s)).set ((h1.keep s2).c9 hs) j);exact q O _ σ R2 ((aO.same s).trans st)
 ·cases e
def uU(j i:Nat):Qqq:=λe=>(ft i e).bind λy=>(y.2[y.2.length-1]?).bind λd=>some (.nx ((e.set i (some (y.1,.lst y.2.dropLast))).set j (some (.fr,d))))
def ZM{i j:Nat}:JS K (il (zg K "list" Ov (ik i)) (gO j)) (uU j i):=by
 intro H₀ I O H σ env Ds fl R e q;let⟨⟨m,ds⟩,ey,e⟩:=av e;let⟨d,ed,e⟩:=av e;cases e;let⟨p,xs,hp,hO,hx,r⟩:=R.lst ey;refine⟨.ref p,hp,.inl ⟨rfl,xs,.inl (.inl hx)⟩,?_⟩;let⟨v,hv,rv⟩:=r.get ed;refine⟨p,xs,v,rfl,rfl,hx,by rw[r.len];exact hv,?_⟩;let⟨R2,st⟩:=R.zm (ys:=xs.dropLast) (es:=ds.dropLast) ey hp hx r.dl;have sg:Rp K (λa=>¬O a∧H₀ a=none) (L2.upd H p (.lst xs.dropLast)) v d:=by
  have z:=aB.upd (o:=.lst xs.dropLast) hO hx (λz=>z) (aB.cons rv .nil);cases z with|cons a _=>exact a
 exact q O _ _ (R2.set_plain (i:=j) (m:=.fr) rfl rfl sg) st
def zo(i:Nat):Qqq:=λe=>(ft i e).bind λy=>some (.nx (e.set i (some (y.1,.lst y.2.reverse))))
def ZN{i:Nat}:JS K (qN (zg K "list" Jz (ik i))) (zo i):=by
 intro H₀ I O H σ env Ds fl R e q;let⟨⟨m,ds⟩,ey,e⟩:=av e;cases e;let⟨p,xs,hp,hO,hx,r⟩:=R.lst ey;refine⟨.ref p,hp,.inl ⟨rfl,xs,.inl (.inl hx)⟩,p,xs,rfl,rfl,hx,?_⟩;let⟨R2,st⟩:=R.zm (ys:=xs.reverse) (es:=ds.reverse) ey hp hx r.rev;exact q O _ σ R2 st
abbrev aW(i:Nat)(e:Ev):Ev:=match e[i]? with
 |some (some (.bo,d))=>e.set i (some (.fr,d))
 |_=>e
def bT(i:Nat)(g:Qqq):Qqq:=λe=>g (aW i e)
set_option tactic.hygienic true in
theorem Rel.aW{i:Nat}(R:Rel K H₀ I O H σ env):∃O',Rel K H₀ I O' H σ (J.aW i env)∧aO O H O' H:=by
 unfold J.aW;split
 ·rename_i d e;let⟨v,hv,n,p,rfl,hO,h0,c⟩:=R.e.at e;have hi:i<env.length:=by
   rcases vh i env.length with h|h
   ·exact h
   ·rw[pO h]at e;cases e
  have W:∀{a:Addr},¬O a→¬(O a∧a≠p):=λh z=>h z.1;refine⟨λa=>O a∧a≠p,⟨⟨?_,λa h=>R.e.od a h.1,R.e.hd,λa o h=>R.e.on a o h.1⟩,R.fr,λa h=>R.ow a h.1,?_,?_,?_⟩,λa o h n=>⟨h,W n⟩⟩
  ·have base:∀(j:Nat) (y:Qzq) (x:Option V),(env.set i (some (.fr,d)))[j]?=some y→σ[j]?=some x→∀m d,y=some (m,d)→jw m=true∧∃v,x=some v∧Val K H₀ (λa=>O a∧a≠p) HE H m d v:=by
    intro j y x hy hx m1 d1 q;subst q;rcases get_set hy with⟨rfl,q⟩|⟨nj,q⟩
    ·cases q;rw[hv]at hx;cases hx;exact⟨rfl,_,rfl,(c.wk λa h _=>(⟨W h.1,h.2⟩:¬(O a∧a≠p)∧H₀ a=none)).rp ⟨λz=>z.2 rfl,h0⟩⟩
    ·let⟨v,iE,n1,hm⟩:=R.e.at q;rw[hx]at iE;cases iE;refine⟨n1,v,rfl,?_⟩;have nq:∀{p':Addr},own m1=true→v=.ref p'→p'≠p:=λ{p'} F9 ev z=>by
      subst ev;subst z;exact nj (R.dj j i _ _ p' q e F9 rfl hx hv)
     cases m1
     ·exact Rp.wk (λa h _=>W h) hm
     ·exact Rp.wk (λa h _=>⟨W h.1,h.2⟩) hm
     ·cases n1
     ·let⟨p',rfl,h1,h2,c'⟩:=hm;exact⟨p',rfl,⟨h1,nq rfl rfl⟩,h2,c'.wk λa h _=>⟨W h.1,h.2⟩⟩
     ·let⟨p',rfl,h1,c'⟩:=hm;exact⟨p',rfl,⟨h1,nq rfl rfl⟩,c'.wk λa h _=>⟨W h.1,h.2⟩⟩
     ·cases n1
     ·let⟨p',qs,aQ,rfl,e2,h1,h2,h3,h4,h5,h6⟩:=hm;let⟨z1,z2⟩:=R.nd.2 j i d1 (.bo,d) p' p _ q hx e rfl hv h3;exact⟨p',qs,aQ,rfl,e2,⟨h1,λz=>z1 z.symm⟩,h2,h3,h4,λx hx=>⟨⟨(h5 x hx).1,λz=>z2 (bQ.mpr ⟨x,hx,by rw[z]⟩)⟩,(h5 x hx).2⟩,kR (λx ds _ ⟨xs,a,r⟩=>⟨xs,a,r.wk λa h _=>⟨W h.1,h.2⟩⟩) h6⟩
     ·cases n1
   refine kz ?_ λj e x h1 h2=>base j e x h1 h2;rw[fZ];exact cE R.e.sl
  ·intro i' d' p' h1 p1;rcases get_set h1 with⟨rfl,z⟩|⟨_,z1⟩
   ·cases z
   ·exact R.ba i' d' p' z1 p1
  ·intro i' j x y q h1 h2 o1 o2 p1 p2;rcases get_set h1 with⟨rfl,z⟩|⟨_,z1⟩
   ·cases z;cases o1
   ·rcases get_set h2 with⟨rfl,z⟩|⟨_,z2⟩
    ·cases z;cases o2
    ·exact R.dj i' j x y q z1 z2 o1 o2 p1 p2
  ·refine⟨λi' j d1 d2 h1 h2=>?_,λi' j d1 x p' q xs h1 p1 h2 o2 p2 e'=>?_⟩
   ·rcases get_set h1 with⟨rfl,z⟩|⟨_,z1⟩
    ·cases z
    ·rcases get_set h2 with⟨rfl,z⟩|⟨_,z2⟩
     ·cases z
     ·exact R.nd.1 i' j d1 d2 z1 z2
   ·rcases get_set h1 with⟨rfl,z⟩|⟨_,z1⟩
    ·cases z
    ·rcases get_set h2 with⟨rfl,z⟩|⟨_,z2⟩
     ·cases z;cases o2
     ·exact R.nd.2 i' j d1 x p' q xs z1 p1 z2 o2 p2 e'
 ·exact⟨O,R,aO.refl⟩
def ZO{i:Nat}{t:TS}{g:Qqq}(h:JS K t g):JS K t (bT i g):=by
 intro H₀ I O H σ env Ds fl R e q;let⟨O',R',st⟩:=R.aW (i:=i);exact h H₀ I O' H σ _ Ds fl R' e (q.pre st)
def Rp.stp{N:Addr→Prop}{v:V}{d:D}{O2:Addr→Prop}{H2:Hp}(on:∀a o,O a→H a=some o→¬hJ o)(st:aO O H O2 H2)(w:∀a,N a→¬O a)(r:Rp K N H v d):Rp K (λa=>N a∧¬O2 a) H2 v d:=by
 refine(Rp.wk (N':=λa=>N a∧¬O2 a) (λa n ⟨o,e⟩=>⟨n,(st a o e (w a n)).2⟩) r).keep λa o e z=>?_;refine(st a o e ?_).1;rcases z with z|z
 ·exact w a z.1
 ·exactλh=>on a o h e z
structure k9 (K:PySem.W.Frag)(H₀:Hp)(O:Addr→Prop)(J:It)(H:Hp)(m:M)(ds:Qzz):Prop where
 go:∀O2 H2 i,aO O H O2 H2→i<ds.length→J.go i H2
 j6:∀O2 H2 i x H3,aO O H O2 H2→i<ds.length→J.j6 i H2 x H3→aG H2 H3∧∃d,ds[i]?=some d∧Val K H₀ O2 HE H3 m d x
 stop:∀O2 H2,aO O H O2 H2→J.stop ds.length H2
abbrev fH:M→Bool
 |.al=>true
 |.fr=>true
 |_=>false
def JI(K:PySem.W.Frag)(wi:TI)(it:Ev→Option (M×Qzz)):Prop :=
 ∀H₀ O H σ env R m ds,eW K H₀ O H σ env→it env=some (m,ds)→(∀J H',aG H H'→fH m=true→k9 K H₀ O J H' m ds→R J H')→wi σ H R
abbrev b9:M→Option M
 |.al=>some .al
 |.fr=>some .fr
 |.un=>some .fr
 |_=>none
def bF(f:Qqj):Ev→Option (M×Qzz):=λe=>(f e).bind λx=>match x.2 with
 |.lst ds=>(b9 x.1).map λm=>(m,ds)
 |_=>none
def KJ{m n:M}{ds:Qzz}{v:V}{Hb:Hp}(e:b9 m=some n)(h:Val K H₀ O Hb H m (.lst ds) v):fH n=true∧∃a xs,v=.ref a∧((Rd H a (.lst xs)∧¬O a)∨Am K a xs)∧aB K (NM H₀ O n) H xs ds:=by
 cases m<;>simp only[b9]at e<;>cases e
 ·cases h with
  |lst r n q=>exact⟨rfl,_,_,rfl,.inl ⟨r,n⟩,q⟩
  |lstK r q=>exact⟨rfl,_,_,rfl,.inr r,q⟩
 ·cases h with
  |lst r n q=>exact⟨rfl,_,_,rfl,.inl ⟨r,n.1⟩,q⟩
  |lstK r q=>exact⟨rfl,_,_,rfl,.inr r,q⟩
 ·let⟨p,rfl,_,_,h2,xs,q,r⟩:=h;exact⟨rfl,_,_,rfl,.inl ⟨.inl q,h2⟩,r.wk λa h _=>h.1⟩
def NM.no{n:M}{a:Addr}(e:fH n=true)(h:NM H₀ O n a):¬O a:=by
 cases n<;>first|exact h|exact h.1|cases e
def CM{n:M}{d:D}{v:V}{O2:Addr→Prop}{H2:Hp}(e:fH n=true)(on:∀a o,O a→H a=some o→¬hJ o)(st:aO O H O2 H2)(r:Rp K (NM H₀ O n) H v d):Val K H₀ O2 HE H2 n d v:=by
 have z:=Rp.stp on st (λa h=>NM.no e h) r;cases n
 ·exact z.wk λa h _=>h.2
 ·exact z.wk λa h _=>⟨h.2,h.1.2⟩
 ·cases e
 ·cases e
 ·cases e
 ·cases e
 ·cases e
 ·cases e
def UE{a:Addr}{xs:List V}{ds:Qzz}{n:M}(e:fH n=true)(on:∀a o,O a→H a=some o→¬hJ o)(hr:(Rd H a (.lst xs)∧¬O a)∨Am K a xs)(r:aB K (NM H₀ O n) H xs ds):k9 K H₀ O (FE K a) H n ds:=by
 have st:∀{O2:Addr→Prop}{H2:Hp},aO O H O2 H2→b0 K H2 a xs:=λ{O2 H2} s=>by
  rcases hr with⟨h|⟨o,h⟩,ha⟩|h
  ·exact .inl (.inl (s _ _ h ha).1)
  ·exact .inl (.inr ⟨o,(s _ _ h ha).1⟩)
  ·exact .inr h
 refine⟨λO2 H2 i s hi=>?_,λO2 H2 i x H3 s hi y=>?_,λO2 H2 s=>⟨xs,st s,by rw[r.len];exact aU _⟩⟩
 ·exact⟨xs,xs[i]'(by rw[r.len];exact hi),st s,by simp⟩
 ·let⟨rfl,y⟩:=y;have y:=y xs (st s);let⟨v,hv,rv⟩:=r.get (i:=i) (d:=ds[i]) (by simp[hi]);rw[y]at hv;cases hv;exact⟨aG.refl _,ds[i],by simp[hi],CM e on s rv⟩
def Xc{t:TE}{f:Qqj}(h:JT K t f):JI K (DG K t) (bF f):=by
 intro H₀ O H σ env R m ds Re e q;let⟨⟨m0,d0⟩,ex,e⟩:=av e;cases d0<;>simp only at e<;>try (cases e;done)
 cases em:b9 m0 with
 |none=>rw[em]at e;cases e
 |some n =>
  rw[em]at e;cases e;refine h H₀ O H σ env _ _ _ Re ex λv H1 s1 h1=>?_;let⟨e1,a,xs,rfl,hr,r⟩:=KJ em h1;exact⟨a,rfl,⟨xs,hr.elim (λz=>.inl z.1) .inr⟩,q _ H1 s1 e1 (UE e1 (Re.keep s1).on hr r)⟩
def Vw{a:Addr}{xs:List V}{ds:Qzz}{n:M}(e:fH n=true)(on:∀a o,O a→H a=some o→¬hJ o)(hr:bC K H a xs)(r:aB K (NM H₀ O n) H xs ds):k9 K H₀ O (FG K a) H n ds:=by
 have st:∀{O2:Addr→Prop}{H2:Hp},aO O H O2 H2→bC K H2 a xs:=λ{O2 H2} s=>by
  rcases hr with h|h
  ·exact .inl (s _ _ h λz=>on _ _ z h trivial).1
  ·exact .inr h
 refine⟨λO2 H2 i s hi=>?_,λO2 H2 i x H3 s hi y=>?_,λO2 H2 s=>⟨xs,st s,by rw[r.len];exact aU _⟩⟩
 ·exact⟨xs,xs[i]'(by rw[r.len];exact hi),st s,by simp⟩
 ·let⟨rfl,y⟩:=y;have y:=y xs (st s);let⟨v,hv,rv⟩:=r.get (i:=i) (d:=ds[i]) (by simp[hi]);rw[y]at hv;cases hv;exact⟨aG.refl _,ds[i],by simp[hi],CM e on s rv⟩
def Qx(f:Qqj):Ev→Option (M×Qzz):=λe=>(f e).bind λx=>match x.2 with
 |.tup ds=>(b9 x.1).map λm=>(m,ds)
 |_=>none
def ZP{t:TE}{f:Qqj}(h:JT K t f):JI K (D8 K t) (Qx f):=by
 intro H₀ O H σ env R m ds Re e q;let⟨⟨m0,d0⟩,ex,e⟩:=av e;cases d0<;>simp only at e<;>try (cases e;done)
 cases em:b9 m0 with
 |none=>rw[em]at e;cases e
 |some n =>
  rw[em]at e;cases e;refine h H₀ O H σ env _ _ _ Re ex λv H1 s1 h1=>?_;let⟨a,xs,rfl,hr,r⟩:=h1.tup;have e1:aY m0=m∧fH m=true:=by clear ex h1 r;cases m0<;>cases em<;>exact⟨rfl,rfl⟩
  rw[e1.1]at r;exact⟨a,rfl,⟨xs,hr⟩,q _ H1 s1 e1.2 (Vw e1.2 (Re.keep s1).on hr r)⟩
abbrev cj(lo:Int)(n:Nat):Qzz:=(List.range n).map λ(k:Nat)=>.int (lo+(k:Int))
def JK{lo:Int}{n:Nat}:k9 K H₀ O (vx lo n) H .fr (cj lo n):=by
 have l:(cj lo n).length=n:=by simp[cj]
 refine⟨λO2 H2 i s hi=>by rw[l]at hi;exact hi,λO2 H2 i x H3 s hi y=>?_,λO2 H2 s=>by rw[l];exact aU n⟩;let⟨rfl,rfl⟩:=y;rw[l]at hi;exact⟨aG.refl _,.int (lo+i),by simp[cj,hi],Rp.int _⟩
def Ap:(2:Int)^62=4611686018427387904:=by decide
def cf(fs:Qqz):Ev→Option (M×Qzz):=λe=>(fs e).bind λl=>match l with
 |[(_,.int j)]=>if -4611686018427387904≤j∧j<4611686018427387904 then some (.fr,cj 0 j.toNat)else none
 |_=>none
def Xd{t:TA}{fs:Qqz}(h:iB K t fs):JI K (Nt t) (cf fs):=by
 intro H₀ O H σ env R m ds Re e q;let⟨l,el,e⟩:=av e;split at e
 ·split at e
  ·rename_i hj;cases e;refine h H₀ O H σ env _ _ Re el λvs H1 s1 h1=>?_;let⟨v,rfl,hv⟩:=h1.one;obtain rfl:=hv.int;exact⟨_,rfl,by rw[Ap];exact hj.1,by rw[Ap];exact hj.2,q _ H1 s1 rfl JK⟩
  ·cases e
 ·cases e
def uV(fs:Qqz):Ev→Option (M×Qzz):=λe=>(fs e).bind λl=>match l with
 |[(_,.int i),(_,.int j)]=>if -4611686018427387904≤i∧i<4611686018427387904∧-4611686018427387904≤j∧j<4611686018427387904 then some (.fr,cj i (j-i).toNat)else none
 |_=>none
def Xe{t:TA}{fs:Qqz}(h:iB K t fs):JI K (Nu t) (uV fs):=by
 intro H₀ O H σ env R m ds Re e q;let⟨l,el,e⟩:=av e;split at e
 ·split at e
  ·rename_i hj;cases e;refine h H₀ O H σ env _ _ Re el λvs H1 s1 h1=>?_;let⟨v,w,rfl,hv,hw⟩:=h1.two;obtain rfl:=hv.int;obtain rfl:=hw.int;exact⟨_,_,rfl,by rw[Ap];exact hj,q _ H1 s1 rfl JK⟩
  ·cases e
 ·cases e
end
section
variable {K:PySem.W.Frag}{H H' H₀:Hp}{I:Nat→Option Addr}{O O':Addr→Prop}{σ:St}{env:Ev}
def JG(K:PySem.W.Frag)(g:TG)(fg:M×D→Ev→Option Ev):Prop :=
 ∀H₀ I O H σ env x v env' Q,Rel K H₀ I O H σ env→fH (Prod.fst x)=true→Val K H₀ O HE H (Prod.fst x) x.2 v→fg x env=some env'→(∀σ',Rel K H₀ I O H σ' env'→Q σ' H)→g v σ H Q
def sj(K:PySem.W.Frag)(g:iT)(fg:M→Qzz→Ev→Option Ev):Prop :=
 ∀H₀ I O H σ env m ds vs env' Q,Rel K H₀ I O H σ env→fH m=true→aB K (NM H₀ O m) H vs ds→fg m ds env=some env'→(∀σ',Rel K H₀ I O H σ' env'→Q σ' H)→g vs σ H Q
abbrev gN(i:Nat):M×D→Ev→Option Ev:=λx e=>some (e.set i (some x))
def Xf{i:Nat}:JG K (gO i) (gN i):=by
 intro H₀ I O H σ env x v env' Q R hm hv e q;cases e;let⟨m,d⟩:=x;exact q _ (R.set_plain (by cases m<;>first|rfl|cases hm) (by cases m<;>first|rfl|cases hm) hv)
abbrev dJ:M→Qzz→Ev→Option Ev:=λ_ ds e=>match ds with
 |[]=>some e
 |_=>none
abbrev bR(f:M×D→Ev→Option Ev)(g:M→Qzz→Ev→Option Ev):M→Qzz→Ev→Option Ev:=λm ds e=>match ds with
 |d::r=>(f (m,d) e).bind λe'=>g m r e'
 |[]=>none
def Xg:sj K D6 dJ:=by
 intro H₀ I O H σ env m ds vs env' Q R hm hv e q;cases hv with
 |nil=>cases e;exact⟨rfl,q _ R⟩
 |cons=>cases e
def Vx{g:TG}{gs:iT}{f:M×D→Ev→Option Ev}{fs:M→Qzz→Ev→Option Ev}(h:JG K g f)(hs:sj K gs fs):sj K (yI g gs) (bR f fs):=by
 intro H₀ I O H σ env m ds vs env' Q R hm hv e q;cases hv with
 |nil=>cases e
 |@cons v d vs ds hv r =>
  let⟨e',e1,e⟩:=av e;refine⟨v,vs,rfl,?_⟩;have iE:Val K H₀ O HE H m d v:=by cases m<;>first|exact hv|cases hm
  exact h H₀ I O H σ env (m,d) v e' _ R hm iE e1 λσ' R'=>hs H₀ I O H σ' e' m ds vs env' Q R' hm r e q
def gT(n:Nat)(f:M→Qzz→Ev→Option Ev):M×D→Ev→Option Ev:=λx e=>match x.2 with
 |.tup ds=>if ds.length=n then f (aY x.1) ds e else none
 |_=>none
def ZQ{n:Nat}{gs:iT}{fs:M→Qzz→Ev→Option Ev}(hs:sj K gs fs):JG K (D7 K n gs) (gT n fs):=by
 intro H₀ I O H σ env x v env' Q R hm hv e q;let⟨m,d⟩:=x;cases d<;>simp only[gT]at e<;>try (cases e;done)
 split at e
 ·rename_i hl;let⟨a,xs,rfl,mN,r⟩:=hv.tup;exact⟨a,xs,rfl,mN,by rw[r.len];exact hl,hs H₀ I O H σ env (aY m) _ xs env' Q R (by cases m<;>first|rfl|cases hm) r e q⟩
 ·cases e
def gL(n:Nat)(f:M→Qzz→Ev→Option Ev):M×D→Ev→Option Ev:=λx e=>match x.2 with
 |.lst ds=>if ds.length=n then f (aY x.1) ds e else none
 |_=>none
abbrev Ey:M→M
 |.un=>.fr
 |m=>m
def oY(fg:M×D→Ev→Option Ev)(f:Qqj):Qqq:=λe=>(f e).bind λx=>if fH (Ey x.1)=true then (fg (Ey x.1,x.2) e).bind λe'=>some (.nx e')else none
def ZR{t:TE}{g:TG}{f:Qqj}{fg:M×D→Ev→Option Ev}(h:JT K t f)(hg:JG K g fg):JS K (il t g) (oY fg f):=by
 intro H₀ I O H σ env Ds fl R e q;let⟨⟨m,d⟩,ex,e⟩:=av e;split at e
 ·rename_i hm;let⟨e',e1,e⟩:=av e;cases e;refine h H₀ O H σ env _ m d R.e ex λv H1 s1 h1=>?_;refine hg H₀ I O H1 σ env _ v e' _ (R.keep s1) hm ?_ e1 λσ' R'=>q O H1 σ' R' (aO.same s1);cases m
  ·exact h1
  ·exact h1
  ·exact h1.c9 rfl
  ·cases hm
  ·cases hm
  ·cases hm
  ·cases hm
  ·cases hm
 ·cases e
abbrev forL(g:M×D→Ev→Option Ev)(b:Qqq)(m:M):Qzz→Qqq
 |[],e=>some (.nx e)
 |d::ds,e=>(g (m,d) e).bind λe1=>(b e1).bind λr=>match r with
  |.nx e2=>forL g b m ds e2
  |.ct e2=>forL g b m ds e2
  |.bk e2=>some (.nx e2)
  |.rt e2 m' d'=>some (.rt e2 m' d')
def aT(it:Ev→Option (M×Qzz))(g:M×D→Ev→Option Ev)(b:Qqq):Qqq:=λe=>(it e).bind λx=>forL g b x.1 x.2 e
def ZS{wi:TI}{g:TG}{tb:TS}{it:Ev→Option (M×Qzz)}{fg:M×D→Ev→Option Ev}{b:Qqq}(hi:JI K wi it)(hg:JG K g fg)(hb:JS K tb b):JS K (oS wi g tb) (aT it fg b):=by
 intro H₀ I O H σ env Ds fl R e q;let⟨⟨m,ds⟩,ei,e⟩:=av e;refine hi H₀ O H σ env _ m ds R.e ei λJ H1 s1 hm ok=>?_;have q1:=q.pre (aO.same s1);refine⟨λi n σ2 H2=>∃O2 dG,Rel K H₀ I O2 H2 σ2 dG∧aO O H1 O2 H2∧i≤ds.length∧n=ds.length-i∧forL fg b m (ds.drop i) dG=some fl,⟨_,O,env,R.keep s1,aO.refl,jt _,rfl,e⟩,?_⟩;rintro i n σ2 H2 ⟨O2,dG,R2,st,hle,rfl,ef⟩;by_cases aX:i<ds.length
 ·refine .inr ⟨ok.go O2 H2 i st aX,λσ' H'=>∃O2 dG,Rel K H₀ I O2 H' σ' dG∧aO O H1 O2 H'∧forL fg b m (ds.drop (i+1)) dG=some fl,?_,?_⟩
  ·rintro σ' H' ⟨O3,Ez,R3,bH,Ga⟩;exact⟨ds.length-(i+1),by omega,O3,Ez,R3,bH,aX,rfl,Ga⟩
  ·intro x H3 y;let⟨s3,d,hd,hv⟩:=ok.j6 O2 H2 i x H3 st aX y;have vR:ds.drop i=d::ds.drop (i+1):=by
    rw[Ft aX];rw[du aX]at hd;cases hd;rfl
   rw[vR]at ef;simp only[forL]at ef;let⟨e1,g1,ef⟩:=av ef;let⟨r,br,ef⟩:=av ef;refine hg H₀ I O2 H3 σ2 dG (m,d) x e1 _ (R2.keep s3) hm hv g1 λσ4 R4=>?_;have mP:=st.trans (aO.same (O:=O2) s3);refine hb H₀ I O2 H3 σ4 e1 _ r R4 br ?_;cases r with
   |nx e2=>exactλO5 H5 σ5 R5 fM=>⟨O5,e2,R5,mP.trans fM,ef⟩
   |ct e2=>exactλO5 H5 σ5 R5 fM=>⟨O5,e2,R5,mP.trans fM,ef⟩
   |bk e2=>cases ef;exact(q1.pre mP)
   |rt e2 m' d'=>cases ef;exact(q1.pre mP)
 ·have hi:i=ds.length:=by omega
  subst hi;rw[Fu]at ef;cases ef;exact .inl ⟨ok.stop O2 H2 st,q1 O2 H2 σ2 R2 st⟩
abbrev dB(c:Qqx)(b:Qqq):Nat→Qqq
 |0,_=>none
 |n+1,e=>(c e).bind λk=>if k=true then (b e).bind λr=>(match r with
  |.nx e2=>dB c b n e2
  |.ct e2=>dB c b n e2
  |.bk e2=>some (.nx e2)
  |.rt e2 m' d'=>some (.rt e2 m' d'))else some (.nx e)
theorem xt{c:Qqx}{b:Qqq}{fl:Fl}:∀{n k:Nat}{e:Ev},n≤k→dB c b n e=some fl→dB c b k e=some fl
 |0,_,_,_,h=>by cases h
 |n+1,0,_,h,_=>by omega
 |n+1,k+1,e,hk,h=>by
  simp only[dB]at h ⊢;let⟨x,ex,h⟩:=av h;rw[ex,z4];cases x with
  |false=>exact h
  |true =>
   rw[if_pos rfl]at h ⊢;let⟨r,er,h⟩:=av h;rw[er,z4];cases r with
   |nx e2=>exact xt (by omega) h
   |ct e2=>exact xt (by omega) h
   |bk e2=>exact h
   |rt e2 m' d'=>exact h
open Classical in
def ic(c:Qqx)(b:Qqq):Qqq:=λe=>if h:∃n fl,dB c b n e=some fl then some (Classical.choose (vi h))else none
def Cg{c:Qqx}{b:Qqq}{fl:Fl}{n:Nat}{e:Ev}(h:dB c b n e=some fl):ic c b e=some fl:=by
 have hx:∃n fl,dB c b n e=some fl:=⟨n,fl,h⟩;unfold ic;rw[dif_pos hx];have s:=vi (vi hx);have a:=xt (Nat.le_max_left n (Classical.choose hx)) h;have b':=xt (Nat.le_max_right n (Classical.choose hx)) s;rw[a]at b';exact b'.symm
def T9{c:Qqx}{b:Qqq}{fl:Fl}{e:Ev}(h:ic c b e=some fl):∃n,dB c b n e=some fl:=by
 unfold ic at h;split at h
 ·rename_i hx;cases h;exact⟨_,vi (vi hx)⟩
 ·cases h
def Vy{c:TT}{tb:TS}{fc:Qqx}{b:Qqq}(hc:fO K c fc)(hb:JS K tb b):JS K (Dj c tb) (ic fc b):=by
 intro H₀ I O H σ env Ds fl R e q;let⟨n,e⟩:=T9 e;refine⟨λn σ2 H2=>∃O2 dG,Rel K H₀ I O2 H2 σ2 dG∧aO O H O2 H2∧dB fc b n dG=some fl,⟨n,O,env,R,aO.refl,e⟩,?_⟩;rintro n σ2 H2 ⟨O2,dG,R2,st,ef⟩;cases n with
 |zero=>cases ef
 |succ n =>
  simp only[dB]at ef;let⟨k,ek,ef⟩:=av ef;refine hc H₀ O2 H2 σ2 dG _ k R2.e ek λH3 s3=>?_;have bH:=st.trans (aO.same (O:=O2) s3);cases k with
  |false =>
   rw[if_neg bw]at ef ⊢;cases ef;exact q O2 H3 σ2 (R2.keep s3) bH
  |true =>
   rw[if_pos rfl]at ef ⊢;let⟨r,er,ef⟩:=av ef;refine⟨λσ' H'=>∃O2 dG,Rel K H₀ I O2 H' σ' dG∧aO O H O2 H'∧dB fc b n dG=some fl,λσ' H' ⟨O3,e3,R3,s3,f3⟩=>⟨n,Nat.lt_succ_self n,O3,e3,R3,s3,f3⟩,?_⟩;refine hb H₀ I O2 H3 σ2 dG _ r (R2.keep s3) er ?_;cases r with
   |nx e2=>exactλO5 H5 σ5 R5 fM=>⟨O5,e2,R5,bH.trans fM,ef⟩
   |ct e2=>exactλO5 H5 σ5 R5 fM=>⟨O5,e2,R5,bH.trans fM,ef⟩
   |bk e2=>cases ef;exact(q.pre bH)
   |rt e2 m' d'=>cases ef;exact(q.pre bH)
def yO(K:PySem.W.Frag)(H H':Hp):M→D→V→Prop
 |.un,d,v=>∃p,v=.ref p∧H p=none∧Cell K (λa=>H a=none∧a≠p) H' p d
 |.fr,d,v=>Rp K (λa=>H a=none) H' v d
 |.ut,d,v=>eV K (λq=>H q=none) H' d v
 |_,_,_=>False
def p5(K:PySem.W.Frag)(n:Nat)(F:Qqk):Sp:=λvs H Q _=>vs.length=n∧∃ds m d,aB K (λ_=>True) H vs ds∧F ds=some (m,d)∧∀v H',aG H H'→yO K H H' m d v→Q v H'
def out:Fl→Qzq
 |.nx _=>some (.fr,.non)
 |.rt _ .un d=>some (.un,d)
 |.rt _ .bo d=>some (.un,d)
 |.rt _ .fr d=>some (.fr,d)
 |.rt _ .rb d=>some (.fr,d)
 |.rt _ .nb d=>some (.fr,d)
 |.rt _ .ut d=>some (.ut,d)
 |.rt _ .al d=>if d.cq=true then some (.fr,d)else none
 |_=>none
def fn(L:Nat)(g:Qqq):Qqk:=λds=>(g (ds.map (λd=>some (.al,d))++List.replicate (L-ds.length) none)).bind out
def UG{vs:List V}{ds:Qzz}(r:aB K (λ_=>True) H vs ds)(k:Nat):Paired (λ(e:Qzq) (x:Option V)=>∀m d,e=some (m,d)→jw m=true∧∃v,x=some v∧Val K H (λ_=>False) HE H m d v) (ds.map (λd=>some (.al,d))++List.replicate k none) (vs.map some++List.replicate k none):=by
 have rep:∀k,Paired (λ(e:Qzq) (x:Option V)=>∀m d,e=some (m,d)→jw m=true∧∃v,x=some v∧Val K H (λ_=>False) HE H m d v) (List.replicate k none) (List.replicate k none):=λk=>by
  induction k with
  |zero=>exact .nil
  |succ k ih=>exact .cons (λm d e=>nomatch e) ih
 have go:∀{vs:List V}{ds:Qzz},aB K (λ_=>True) H vs ds→Paired (λ(e:Qzq) (x:Option V)=>∀m d,e=some (m,d)→jw m=true∧∃v,x=some v∧Val K H (λ_=>False) HE H m d v) (ds.map (λd=>some (.al,d))++List.replicate k none) (vs.map some++List.replicate k none):=by
  intro vs ds
  induction vs generalizing ds with
  |nil=>intro r;cases r;exact rep k
  |cons v vs ih=>intro r;cases r with|cons h r=>exact .cons (λm d e=>by cases e;exact⟨rfl,v,rfl,h.wk λ_ _ _ z=>z⟩) (ih r)
 exact go r
def UH{ds:Qzz}{k i:Nat}{d:D}(h:(ds.map (λd=>some (M.al,d))++List.replicate k none)[i]?=some (some (M.bi,d))):False:=by
 have hm:=dH h;rcases iq.mp hm with z|z
 ·let⟨d,_,e⟩:=bQ.mp z;cases e
 ·have:=z5 z;cases this
def Il{ds:Qzz}{k i:Nat}{d:D}(h:(ds.map (λd=>some (M.al,d))++List.replicate k none)[i]?=some (some (M.nb,d))):False:=by
 have hm:=dH h;rcases iq.mp hm with z|z
 ·let⟨d,_,e⟩:=bQ.mp z;cases e
 ·have:=z5 z;cases this
def KL{ts:TS}{g:Qqq}{n:Nat}{N:List Str}{vs:List V}{Q:VK}{E:XK}(h:JS K ts g)(hs:p5 K n (fn N.length g) vs H Q E):ts { nx:=λ_ H'=>Q .non H',rt:=Q } (L2.start N vs) H:=by
 let⟨hl,ds,m,d,r,e,q⟩:=hs;let⟨fl,ef,eo⟩:=av e;have R:Rel K H (λ_=>none) (λ_=>False) H (L2.start N vs) (ds.map (λd=>some (.al,d))++List.replicate (N.length-ds.length) none) :=
  ⟨⟨by unfold L2.start;rw[r.len];exact UG r _,λ_ z=>z.elim,λa o e=>⟨o,e⟩,λ_ _ z=>z.elim⟩,λa o _ e=>e,λ_ z=>z.elim,λi d p h1=>(UH h1).elim,(λi j x y p h1 h2 o1 o2=>by
   exfalso;have k:∀{i:Nat}{x:M×D},(ds.map (λd=>some (M.al,d))++List.replicate (N.length-ds.length) none)[i]?=some (some x)→x.1=.al:=λ{i x} h=>by
    have hm:=dH h;rcases iq.mp hm with z|z
    ·let⟨d,_,e⟩:=bQ.mp z;cases e;rfl
    ·have:=z5 z;cases this
   rw[k h1]at o1;cases o1),⟨λi j d d' h1=>(Il h1).elim,λi j d x p q xs h1=>(Il h1).elim⟩⟩
 refine h H (λ_=>none) (λ_=>False) H _ _ _ fl R ef ?_;cases fl with
 |nx e'=>cases eo;exactλO' H' σ' R' st=>q .non H' (λa o e=>R'.fr a o (λ_ z=>nomatch z) e) Rp.non
 |bk e'=>cases eo
 |ct e'=>cases eo
 |rt e' m' d' =>
  intro O' H' σ' v R' st hv;have sm:aG H H':=λa o e=>R'.fr a o (λ_ z=>nomatch z) e;cases m'<;>simp only[out]at eo
  ·split at eo
   ·rename_i hi;cases eo;exact q v H' sm (show Rp K _ H' v d from hv.weak.im hi)
   ·cases eo
  ·cases eo;exact q v H' sm (show Rp K _ H' v d from Rp.wk (λa h _=>h.2) hv)
  ·cases eo;let⟨p,rfl,_,h0,_,c⟩:=hv;exact q _ H' sm ⟨p,rfl,h0,c.wk λa h _=>⟨h.1.2,h.2⟩⟩
  ·cases eo;let⟨p,rfl,hO,h0,c⟩:=hv;exact q _ H' sm ⟨p,rfl,h0,c.wk λa h _=>⟨h.2,λz=>h.1 (z▸hO)⟩⟩
  ·cases eo
  ·cases eo;exact q v H' sm (show Rp K _ H' v d from hv)
  ·cases eo;exact q v H' sm (show Rp K _ H' v d from i9.rp (λ_ z=>z) hv)
  ·cases eo;exact q v H' sm (show eV K _ H' d v from eV.wk (λq z=>z.2.1) hv)
abbrev aC(F:Qqk)(fs:Qqz):Qqj:=λe=>(fs e).bind λay=>F (ay.map (·.2))
def KN{m:M}{d:D}{v:V}(od:∀a,O a→∃o,H a=some o)(hd:∀a o,H₀ a=some o→∃o',H a=some o')(h:yO K H H' m d v):Val K H₀ O H H' m d v:=by
 cases m<;>try exact h.elim
 ·exact Rp.wk (λa h _=>⟨iG od h,kC hd h⟩) h
 ·let⟨p,rfl,hp,c⟩:=h;exact⟨p,rfl,hp,kC hd hp,iG od hp,c.wk λa h _=>⟨⟨iG od h.1,kC hd h.1⟩,h.2⟩⟩
 ·exact eV.wk (λq z=>⟨z,kC hd z,iG od z⟩) h
def Xh{n:Nat}{F:Qqk}{ta:TA}{fs:Qqz}{E:XK}(ha:iB K ta fs)(hl:∀e ay,fs e=some ay→ay.length=n):JT K (m3 (p5 K n F) [] E ta) (aC F fs):=by
 intro H₀ O H σ env Q m d R h q;let⟨ay,e,h⟩:=av h;refine ha H₀ O H σ env _ ay R e λvs H1 s1 h1=>?_;have R1:=R.keep s1;rw[rJ];refine⟨by rw[←cE h1];exact hl _ _ e,ay.map (·.2),m,d,h1.iA (λmd hm v hv=>hv.weak),h,λv H2 s2 h2=>?_⟩;exact q v H2 (s1.trans s2) ((KN R1.od R1.hd h2).hb λa z=>s1.free z)
end
section
variable {K:PySem.W.Frag}{H H' H₀:Hp}{O O':Addr→Prop}{σ:St}{env:Ev}
abbrev gQ:M×D→Qzq
 | (_,.int i)=>some (.fr,.int (-i))
 |_=>none
abbrev nF:M×D→Qzq
 | (_,.int i)=>some (.fr,.int (Builtin.bitNot i))
 |_=>none
def ZT:JU K (rU λi=>.int (-i)) gQ:=by
 intro H₀ O H x a Q m d _ _ h1 h q;let⟨ma,da⟩:=a;cases da<;>cases h;exact⟨_,h1.int,q _ H (aG.refl H) jJ⟩
def ZU:JU K (rU λi=>.int (Builtin.bitNot i)) nF:=by
 intro H₀ O H x a Q m d _ _ h1 h q;let⟨ma,da⟩:=a;cases da<;>cases h;exact⟨_,h1.int,q _ H (aG.refl H) jJ⟩
def gD:=vM Builtin.bitAnd
def rq:=vM Builtin.bitOr
def Xi:JR K (fN λi j=>.int (Builtin.bitAnd i j)) gD:=yM
def ZV:JR K (fN λi j=>.int (Builtin.bitOr i j)) rq:=yM
def NK(i j:Int):Prop:=0<j∧j<1606938044258990275541962092341162602522202993782792835301376
abbrev cC:=gI (λ_ j=>0<j∧j<1606938044258990275541962092341162602522202993782792835301376) (· / ·)
def Xj:JR K (rI NK λi j=>.int (i/j)) cC:=rh λ_ _ h=>h
theorem log2_lt{n:Nat}(h:n<2^200):n.log2<9000:=by
 rcases Nat.eq_zero_or_pos n with rfl|h0
 ·decide
 ·exact Nat.lt_trans ((Nat.log2_lt (by omega)).mpr h) (by decide)
def Vz{X:Cx}:bM X (binaryOp .FloorDiv) (rI NK λi j=>.int (i/j)):=rZ λi j _ _ _ _ _ hc q=>by
 have e:i/j=i.fdiv j:=(PN i (Int.le_of_lt hc.1)).symm;rw[e]at q;have h1:=hc.1;have h2:=hc.2;have hl:j.natAbs<2^200:=by
  have e2:(2:Nat)^200=1606938044258990275541962092341162602522202993782792835301376:=by decide
  rw[e2];omega
 exact PyProof.Rows.floordiv_int (Int.ne_of_gt hc.1) q (.inl (PyProof.noPylong_of_log2 (log2_lt hl)))
def Xk{X:Cx}:bM X (binaryOp .Add) (yN X.K):=by
 intro pins s σ H x y v u Q I rx ry h;let⟨l,b,xs,zs,rfl,rfl,hl,hb,hz,q⟩:=h;cases (show v=Value.ref l from rx);cases (show u=Value.ref b from ry);let⟨its,r,pl,_⟩:=I.list hl;let⟨uO,r2,pm,_⟩:=I.list hb;let⟨⟨cls,dd,data,sl⟩,ho,hc,n,hd⟩:=pl.isList;let⟨⟨ac4,Ah,data2,r6⟩,j9,iy,n2,hd2⟩:=pm.isList;simp only at hc hd iy hd2;subst hc hd iy hd2;have ea:its.toArray++uO.toArray=(its++uO).toArray:=by simp
 have e1:=r.length;have e2:=r2.length;refine zK ⟨_,ho,rfl⟩ ⟨_,j9,rfl⟩ noFill_list_add seq_list_add PySem.F.slot_list_add PySem.F.entry_list_add (PySem.F.args_list_add_2 _ _) (PyProof.Rows.list_addW l b its.toArray uO.toArray n n2 dd Ah sl r6 (by rw[gu,gu];omega)) ⟨ho,j9,?_⟩;rw[ea];exact⟨.ref _,_,I.ac7 (t':=s.toks) (r.append r2) (by rw[fw];omega),rfl,q _ I.fresh⟩
def VA{X:Cx}(h:X.K=K):bM X (binaryOp .Add) (yN K):=by subst h;exact Xk
def VB{r r':R2}{g g':M×D→M×D→Qzq}{ta tb tc:TE}{fa fb fc:Qqj}(hr:JR K r g)(hr':JR K r' g')(ha:JT K ta fa)(hb:JT K tb fb)(hc:JT K tc fc):JT K (L0 r r' ta tb tc) (mW g g' fa fb fc):=by
 intro H₀ O H σ env Q m d R h q;let⟨a,ea,h⟩:=av h;let⟨b,eb,h⟩:=av h;let⟨z,ez,h⟩:=av h;let⟨k,ek,h⟩:=av h;refine ha H₀ O H σ env _ a.1 a.2 R ea λx H1 s1 h1=>?_;refine hb H₀ O H1 σ env _ b.1 b.2 (R.keep s1) eb λy H2 s2 h2=>?_;have R2:=(R.keep s1).keep s2;refine hr H₀ O H2 x y a b _ z.1 z.2 R2.od R2.hd (h1.keep s2).h0 h2.h0 ez λv H3 s3 h3=>?_;rw[qE ek]at h3;refine⟨k,h3.bl,?_⟩;cases k with
 |false =>
  rw[if_neg bw]at h ⊢;cases h;exact q _ H3 ((s1.trans s2).trans s3) fG
 |true =>
  rw[if_pos rfl]at h ⊢;let⟨c,ec,h⟩:=av h;refine hc H₀ O H3 σ env _ c.1 c.2 (R2.keep s3) ec λw H4 s4 h4=>?_;have R4:=(R2.keep s3).keep s4;refine hr' H₀ O H4 y w b c Q m d R4.od R4.hd ((h2.keep s3).keep s4).h0 h4.h0 h λv H5 s5 h5=>?_;have s:=((s1.trans s2).trans s3).trans s4;exact q v H5 (s.trans s5) (h5.hb λa z=>s.free z)
def oZ:Qzz→Option (List V)
 |[]=>some []
 |d::ds=>(gJ d).bind λv=>(oZ ds).bind λr=>some (v::r)
theorem KP{N:Addr→Prop}:∀{ds:Qzz}{vs ws:List V},aB K N H vs ds→oZ ds=some ws→vs=ws∧ws.all kU=true
 |_,_,_,.nil,e=>by cases e;exact⟨rfl,rfl⟩
 |d::ds,v::vs,ws,.cons h r,e=>by
  let⟨w,ew,e⟩:=av e;let⟨r',er,e⟩:=av e;cases e;let⟨rfl,f⟩:=KP r er;obtain rfl:=qQ h ew;refine⟨rfl,?_⟩;rw[pM,f,Bool.and_true];cases h<;>simp only[gJ]at ew<;>first|rfl|cases ew
abbrev zp:D→Option (Qzz)
 |.lst ds=>some ds
 |.tup ds=>some ds
 |_=>none
def eZ(neg:Bool):M×D→M×D→Qzq:=λa b=>(gJ a.2).bind λx=>(zp b.2).bind λds=>(oZ ds).bind λvs=>some (.fr,.bl (if neg then !dS x vs else dS x vs))
def seq_val{m:M}{d:D}{ds:Qzz}{v:V}{Hb:Hp}(e:zp d=some ds)(h:Val K H₀ O Hb H m d v):∃p xs,v=.ref p∧(b0 K H p xs∨bC K H p xs)∧aB K (NM H₀ O (aY m)) H xs ds:=by
 cases d<;>simp only[zp]at e<;>cases e
 ·let⟨p,xs,rfl,h,r⟩:=h.tup;exact⟨p,xs,rfl,.inr h,r⟩
 ·let⟨p,xs,rfl,h,r⟩:=h.lst;exact⟨p,xs,rfl,.inl h,r⟩
def VC{d:D}{x:V}(e:gJ d=some x):kU x=true:=by
 cases d<;>simp only[gJ]at e<;>cases e<;>rfl
def NP{neg:Bool}:JR K (vC K neg) (eZ neg):=by
 intro H₀ O H x y a b Q m d _ _ h1 h2 h q;let⟨x',ex,h⟩:=av h;let⟨ds,ed,h⟩:=av h;let⟨vs,ev,h⟩:=av h;cases h;let⟨p,xs,rfl,hs,r⟩:=seq_val ed h2;let⟨rfl,f⟩:=KP r ev;obtain rfl:=qQ h1.weak ex;exact⟨p,_,rfl,hs,VC ex,f,q _ H (aG.refl H) fG⟩
def VD{m:M}(h:fH m=true):jw m=true:=by cases m<;>first|rfl|cases h
abbrev dN:Qqx:=λ_=>some true
def KQ:fO K zi dN:=by
 intro H₀ O H σ env Q b R h q;cases h;exact q H (aG.refl H)
abbrev f9(e:Ev)(ix:List Nat):Ev:=ix.map λi=>(e[i]?).getD none
abbrev dM(fc:Qqx)(fe:Qqj)(m:M)(fr:Ev):Qzz→Option (List (M×D))
 |[]=>some []
 |d::ds=>(fc (some (m,d)::fr)).bind λb=>if b=true then (fe (some (m,d)::fr)).bind λx=>(dM fc fe m fr ds).bind λr=>some (x::r)else dM fc fe m fr ds
def cv(it:Ev→Option (M×Qzz))(ix:List Nat)(fc:Qqx)(fe:Qqj):Qqj:=λe=>(it e).bind λx=>(dM fc fe x.1 (f9 e ix) x.2).bind i6
def eW.fr{ix:List Nat}(R:eW K H₀ O H σ env):Paired (λ(e:Qzq) (x:Option V)=>∀m d,e=some (m,d)→jw m=true∧∃v,x=some v∧Val K H₀ O HE H m d v) (f9 env ix) (gn σ ix):=by
 unfold f9 gn
 induction ix with
 |nil=>exact .nil
 |cons i ix ih =>
  refine .cons (λm d e=>?_) ih;have e':env[i]?=some (some (m,d)):=by
   have e:(env[i]?).getD none=some (m,d):=e;cases q:env[i]? with
   |none=>rw[q]at e;cases e
   |some z=>rw[q]at e;exact dD some e
  let⟨v,hv,n,h⟩:=R.at e';exact⟨n,v,by show(σ[i]?).getD none=_;rw[hv];rfl,h⟩
def eW.more{C:Addr}(R:eW K H₀ O H σ env)(hC:H C=none){H2:Hp}(s:aG H H2)(ys:List V)(e:H2 C=some (.lst ys)):eW K H₀ (λa=>O a∨a=C) H2 σ env:=by
 have np:∀a,(∃o,H a=some o)→a≠C:=λa ⟨o,e⟩=>eR e hC;have w:∀{N:Addr→Prop}{d:D}{v:V},Rp K N H v d→Rp K (λa=>N a∧a≠C) H2 v d:=λr=>(r.wk λa n e=>⟨n,np a e⟩).keep (.same s);have ws:∀{N:Addr→Prop}{d:D}{q:Addr},Cell K N H q d→Cell K (λa=>N a∧a≠C) H2 q d:=λ{N d q} r=>by
  let⟨o,e,_⟩:=r.some;exact(r.wk λa n e=>⟨n,np a e⟩).keep (.same s) ((s _ _ e).trans e.symm)
 refine⟨m7 (λe x h m d q=>?_) R.sl,λa h=>?_,λa o h=>?_,λa o h q=>?_⟩
 ·let⟨n,v,rfl,z⟩:=h m d q;refine⟨n,v,rfl,?_⟩;cases m
  ·exact(w z).wk λa h _=>λz=>z.elim h.1 h.2
  ·exact(w z).wk λa h _=>⟨λz=>z.elim h.1.1 h.2,h.1.2⟩
  ·cases n
  ·let⟨q,rfl,h1,h2,c'⟩:=z;exact⟨q,rfl,.inl h1,h2,(ws c').wk λa h _=>⟨λz=>z.elim h.1.1 h.2,h.1.2⟩⟩
  ·let⟨q,rfl,h1,c'⟩:=z;exact⟨q,rfl,.inl h1,(ws c').wk λa h _=>⟨λz=>z.elim h.1.1 h.2,h.1.2⟩⟩
  ·cases n
  ·let⟨q,qs,aQ,e1,e2,h1,h2,h3,h4,h5,h6⟩:=z;exact⟨q,qs,aQ,e1,e2,.inl h1,h2,s _ _ h3,h4,λx hx=>⟨.inl (h5 x hx).1,(h5 x hx).2⟩,kR (λx ds _ ⟨xs,a,r⟩=>⟨xs,s _ _ a,((r.wk λa n e=>(⟨n,np a e⟩:(¬O a∧H₀ a=none)∧a≠C)).keep (.same s)).wk λa h _=>⟨λz=>z.elim h.1.1 h.2,h.1.2⟩⟩) h6⟩
  ·cases n
 ·rcases h with h|rfl
  ·let⟨o,q⟩:=R.od a h;exact⟨o,s _ _ q⟩
  ·exact⟨_,e⟩
 ·let⟨o',q⟩:=R.hd a o h;exact⟨o',s _ _ q⟩
 ·rcases h with h|rfl
  ·exact(R.keep s).on a o h q
  ·rw[e]at q;cases q;exactλz=>z
def Jc{J:It}{m:M}{ds:Qzz}{tc:TT}{te:TE}{fc:Qqx}{fe:Qqj}{H1:Hp}{ix:List Nat}{cL:List (M×D)}{bb:Bool}{Q:Addr→Hp→Prop}{C:Addr}
  (R:eW K H₀ O H1 σ env) (hm:fH m=true) (ok:k9 K H₀ O J H1 m ds) (hc:fO K tc fc) (he:JT K te fe) (hl:cL.length≤sizeLine) (et:dM fc fe m (f9 env ix) ds=some cL)
  (hs:∀x∈cL,(if bb then c9 x.1 x.2 else hU x.1 x.2)=true) (hC:H1 C=none)
  (q:∀ys H',aG H1 H'→H' C=some (.lst ys)→aB K (λa=>¬(O a∨a=C)∧(bb=true→H₀ a=none)) H' ys (cL.map (·.2))→Q C H'):uF J C H1 (gn σ ix) tc te Q:=by
 have hN:∀{N:Addr→Prop}{Ha Hb:Hp},(∀a,N a→a≠C)→(∀b o,b≠C→Ha b=some o→Hb b=some o)→(∀o,Ha C=some o→¬hJ o)→Keeps N Ha Hb:=λw s nt a o e z=>s a o (by
  rcases z with z|z
  ·exact w a z
  ·rintro rfl;exact nt o e z) e
 refine⟨λi n H2=>n=ds.length-i∧i≤ds.length∧aG H1 H2∧∃ys acc rest,H2 C=some (.lst ys)∧dM fc fe m (f9 env ix) (ds.drop i)=some rest∧cL=acc++rest∧aB K (λa=>¬(O a∨a=C)∧(bb=true→H₀ a=none)) H2 ys (acc.map (·.2)),⟨_,rfl,jt _,cW hC,[],[],cL,bN,et,rfl,.nil⟩,?_⟩;rintro i n H2 ⟨rfl,hle,s2,ys,acc,rest,pY,er,rA,rr⟩;have bE:aO O H1 O H2:=aO.same s2;by_cases aX:i<ds.length
 ·refine .inr ⟨ok.go O H2 i bE aX,λx H3 y=>?_⟩;have adi:aO O H1 (λa=>O a∨a=C) H2:=λa o e n=>⟨s2 a o e,λz=>z.elim n (eR e hC)⟩;let⟨s3,d,hd,hv⟩:=ok.j6 (λa=>O a∨a=C) H2 i x H3 adi aX y;have R2:=R.more hC s2 ys pY;have R3:=R2.keep s3;have Qy:eW K H₀ (λa=>O a∨a=C) H3 (some x::gn σ ix) (some (m,d)::f9 env ix) :=
   ⟨.cons (λm' d' e=>by cases e;exact⟨VD hm,x,rfl,hv⟩) R3.fr,R3.od,R3.hd,R3.on⟩
  have vR:ds.drop i=d::ds.drop (i+1):=by
   rw[Ft aX];rw[du aX]at hd;cases hd;rfl
  rw[vR]at er;simp only[dM]at er;let⟨b,eb,er⟩:=av er;refine hc H₀ _ H3 _ _ _ b Qy eb λH4 s4=>?_;cases b with
  |true =>
   rw[if_pos rfl]at er ⊢;let⟨z,ez,er⟩:=av er;let⟨r',er',er⟩:=av er;cases er;refine he H₀ _ H4 _ _ _ z.1 z.2 (Qy.keep s4) ez λw H5 s5 h5=>?_;have Aq:aG H2 H5:=(s3.trans s4).trans s5;have hyl:ys.length=acc.length:=by rw[rr.len,dZ]
   have p6:acc.length<sizeLine:=by
    have e1:=dD List.length rA;rw[fw,f6]at e1;omega
   refine⟨ys,Aq _ _ pY,by rw[hyl];exact p6,ds.length-(i+1),by omega,rfl,aX,?_,ys++[w],acc++[z],r',bN,er',by rw[rA,List.append_assoc];rfl,?_⟩
   ·intro a o e;rw[aI (eR e hC)];exact Aq _ _ (s2 _ _ e)
   ·rw[ly];have hz:Rp K (λa=>¬(O a∨a=C)∧(bb=true→H₀ a=none)) H5 w z.2:=by
     have h:=hs z (by rw[rA];exact jo _ cg);cases bb with
     |true=>exact(h5.c9 h).wk λa h _=>⟨h.1,λ_=>h.2⟩
     |false=>exact(h5.hU h).wk λa h _=>⟨h,λz=>nomatch z⟩
    have kp:Keeps (λa=>¬(O a∨a=C)∧(bb=true→H₀ a=none)) H5 (upd H5 C (.lst (ys++[w]))):=hN (λa h z=>h.1 (.inr z)) (λb o ne e=>by rw[aI ne];exact e) (λo e=>by rw[Aq _ _ pY]at e;cases e;exactλz=>z);exact((rr.keep (.same Aq)).keep kp).app (.cons (hz.keep kp) .nil)
  |false =>
   rw[if_neg bw]at er ⊢;have Gb:=s3.trans s4;exact⟨ds.length-(i+1),by omega,rfl,aX,s2.trans Gb,ys,acc,rest,Gb _ _ pY,er,rA,rr.keep (.same Gb)⟩
 ·have hi:i=ds.length:=by omega
  subst hi;rw[Fu]at er;cases er;rw[rJ]at rA;subst rA;exact .inl ⟨ok.stop O H2 bE,q ys H2 s2 pY rr⟩
def x6{wi:TI}{ix:List Nat}{tc:TT}{te:TE}{it:Ev→Option (M×Qzz)}{fc:Qqx}{fe:Qqj}(hi:JI K wi it)(hc:fO K tc fc)(he:JT K te fe):JT K (qP wi ix tc te) (cv it ix fc fe):=by
 intro H₀ O H σ env Q m d R e q;let⟨⟨mi,ds⟩,ei,e⟩:=av e;let⟨cL,et,e⟩:=av e;refine hi H₀ O H σ env _ mi ds R ei λJ H1 s1 hm ok C hC=>?_;have R1:=R.keep s1;unfold i6 at e;split at e
 ·rename_i hl;split at e
  ·rename_i ha;cases e;rw[lu]at ha;refine Jc (bb:=true) R1 hm ok hc he hl et (λx hx=>ha x hx) hC λys H' s' hy r=>?_;refine q _ H' (s1.trans s') ⟨C,rfl,s1.free hC,kC R1.hd hC,iG R1.od hC,ys,hy,r.wk λa h _=>⟨⟨λz=>h.1 (.inl z),h.2 rfl⟩,λz=>h.1 (.inr z)⟩⟩
  ·split at e
   ·rename_i ha;cases e;rw[lu]at ha;refine Jc (bb:=false) R1 hm ok hc he hl et (λx hx=>ha x hx) hC λys H' s' hy r=>?_;exact q _ H' (s1.trans s') (Rp.lst (.inl hy) (iG R1.od hC) (r.wk λa h _=>λz=>h.1 (.inl z)))
   ·cases e
 ·cases e
def Xl:∀e ay,ai e=some ay→ay.length=0:=λe ay h=>by cases h;rfl
def VF{n:Nat}{f:Qqj}{g:Qqz}(h:∀e ay,g e=some ay→ay.length=n):∀e ay,ag f g e=some ay→ay.length=n+1:=λe ay q=>by
 let⟨x,ex,q⟩:=av q;let⟨r,er,q⟩:=av q;cases q;rw[f6,h e r er]
end
section
variable {K:PySem.W.Frag}{H H' H₀:Hp}{O O':Addr→Prop}{σ:L2.St}{env:Ev}
def EA{X:Cx}{f:Value→Value→Sem Value}{r r':R2}(h:bM X f r)(h':bM X f r'):bM X f (λx y H Q=>r x y H Q∨r' x y H Q) :=
 λpins s σ H x y v u Q I rx ry q=>q.elim (h pins s σ H x y v u Q I rx ry) (h' pins s σ H x y v u Q I rx ry)
abbrev p7(g g':M×D→M×D→Qzq):M×D→M×D→Qzq:=λa b=>match g a b with
 |some z=>some z
 |none=>g' a b
set_option tactic.hygienic true in
def DN{r r':R2}{g g':M×D→M×D→Qzq}(h:JR K r g)(h':JR K r' g'):JR K (λx y H Q=>r x y H Q∨r' x y H Q) (p7 g g'):=by
 intro H₀ O H x y a b Q m d od hd h1 h2 e q;unfold p7 at e;split at e
 ·rename_i z ez;cases e;exact .inl (h H₀ O H x y a b Q m d od hd h1 h2 ez q)
 ·exact .inr (h' H₀ O H x y a b Q m d od hd h1 h2 e q)
abbrev qR:M×D→M×D→Qzq
 | (_,.str x),(_,.str y)=>if x.length+y.length≤sizeLine then some (.fr,.str (x++y))else none
 |_,_=>none
def Xm:JR K (λx y H Q=>∃i j,x=.str i∧y=.str j∧i.length+j.length≤sizeLine∧Q (.str (i++j)) H) qR:=by
 intro H₀ O H x y a b Q m d _ _ h1 h2 h q;let⟨ma,da⟩:=a;let⟨mb,db⟩:=b;cases da<;>try (cases h;done)
 cases db<;>try (cases h;done)
 simp only[qR]at h;split at h
 ·rename_i hl;cases h;exact⟨_,_,h1.str,h2.str,hl,q _ H (aG.refl H) DL⟩
 ·cases h
abbrev yP(K:PySem.W.Frag):R2:=λx y H Q=>∃a b xs ys,x=.ref a∧y=.ref b∧bC K H a xs∧bC K H b ys∧xs.length+ys.length≤sizeLine∧∀p H',aG H H'→bC K H' p (xs++ys)→Q (.ref p) H'
def Xn{X:Cx}:bM X (binaryOp .Add) (yP X.K):=by
 intro pins s σ H x y v u Q I rx ry h;let⟨a,b,xs,ys,rfl,rfl,ha,hb,hz,q⟩:=h;by_cases e:xs=[]
 ·subst e;cases rx;cases ry;let⟨its,r1,p1,_⟩:=I.tuple ha;let⟨uO,r2,p2,_⟩:=I.tuple hb;cases r1;exact Vp p1 p2 ⟨.ref b,H,I,rfl,q b H (aG.refl H) hb⟩
 ·refine WT pins s σ H (.ref a) (.ref b) v u Q I rx ry ⟨a,b,xs,ys,rfl,rfl,ha,hb,e,hz,λe2=>?_,λ_ p hp=>q p _ (cW hp) (bC.of bN)⟩;subst e2;exact q a H (aG.refl H) (by rw[rJ];exact ha)
def VG{X:Cx}(h:X.K=K):bM X (binaryOp .Add) (yP K):=by subst h;exact Xn
def yQ:M×D→M×D→Qzq
 | (m,.tup ds),(n,.tup es)=>if aY m=.rb∨aY n=.rb then none else if ds.length+es.length≤sizeLine then some (aY (mJ m n),.tup (ds++es))else none
 |_,_=>none
def Xo:JR K (yP K) yQ:=by
 intro H₀ O H x y a b Q m d od hd h1 h2 h q;let⟨ma,da⟩:=a;let⟨mb,db⟩:=b;cases da<;>try (cases h;done)
 cases db<;>try (cases h;done)
 simp only[yQ]at h;split at h
 ·cases h
 ·rename_i hn;split at h
  ·rename_i hl;cases h;let⟨p,xs,rfl,r,s⟩:=h1.tup;let⟨p',F8,rfl,r',s'⟩:=h2.tup;have n1:aY ma≠.rb:=λz=>hn (.inl z);have n2:aY mb≠.rb:=λz=>hn (.inr z);refine⟨p,p',xs,F8,rfl,rfl,r,r',by rw[s.len,s'.len];exact hl,λl H' sm hq=>q _ _ sm (Val.el (Rp.tup hq ?_))⟩;exact(aB.app (s.wk λ_ h _=>NM.Qu n1 n2 h) (s'.wk λ_ h _=>NM.Qv n1 n2 h)).keep (.same sm)
  ·cases h
def EB(K:PySem.W.Frag):V→Option Int→Option Int→Hp→VK→Prop:=λx lo hi H Q=>∃a xs,x=.ref a∧bC K H a xs∧∀p H',aG H H'→bC K H' p (jP xs lo hi)→Q (.ref p) H'
def Xp{X:Cx}:mG X (EB X.K):=by
 intro pins s σ H x v vl vu lo hi sl Q I rx hs pl pu h;let⟨a,xs,rfl,hx,q⟩:=h;by_cases e:HT.bh xs.length 0 lo=0∧HT.bh xs.length xs.length hi=xs.length
 ·cases rx;let⟨its,r,ht,hz⟩:=I.tuple hx;have hlen:its.toArray.size=xs.length:=by rw[gu];exact r.length.symm
  refine⟨"tuple",_,rK.lookup,ht.typeIs,Tb ht hs pl pu (by rw[hlen];exact e.1) (by rw[hlen];exact e.2) ⟨.ref a,H,I,rfl,q a H (aG.refl H) ?_⟩⟩;have ec:jP xs lo hi=xs:=by unfold jP;rw[e.1,e.2,List.drop_zero,Nat.sub_zero];exact List.take_of_length_le (aU _)
  rw[ec];exact hx
 ·exact Y6 pins s σ H (.ref a) v vl vu lo hi sl Q I rx hs pl pu ⟨a,xs,rfl,hx,e,λp hp=>q p _ (cW hp) (bC.of bN)⟩
def Oz:M×D→Option Int→Option Int→Qzq
 | (m,.tup ds),lo,hi=>some (aY m,.tup (cut ds lo hi))
 |_,_,_=>none
def Xq:n8 K (EB K) Oz:=by
 intro H₀ O H x lo hi a Q m d od hd h1 h q;let⟨ma,da⟩:=a;cases da<;>try (cases h;done)
 cases h;let⟨p,xs,rfl,r,s⟩:=h1.tup;exact⟨p,xs,rfl,r,λl H' sm hq=>q _ _ sm (Val.el (Rp.tup hq (s.cut.keep (.same sm))))⟩
abbrev EC:M×D→Option Int→Option Int→Qzq
 | (_,.str z),lo,hi=>if z.length≤sizeLine then some (.fr,.str (Txt.slice z lo hi))else none
 |_,_,_=>none
def Xr:n8 K (λx lo hi H Q=>∃z:Str,x=.str z∧z.length≤sizeLine∧Q (.str (Txt.slice z lo hi)) H) EC:=by
 intro H₀ O H x lo hi a Q m d od hd h1 h q;let⟨ma,da⟩:=a;cases da<;>try (cases h;done)
 simp only[EC]at h;split at h
 ·rename_i hl;cases h;exact⟨_,h1.str,hl,q _ H (aG.refl H) DL⟩
 ·cases h
abbrev uW(g g':M×D→Option Int→Option Int→Qzq):M×D→Option Int→Option Int→Qzq:=λa l h=>match g a l h with
 |some z=>some z
 |none=>g' a l h
set_option tactic.hygienic true in
def Mj{r r':V→Option Int→Option Int→Hp→VK→Prop}{g g':M×D→Option Int→Option Int→Qzq}(h:n8 K r g)(h':n8 K r' g'):n8 K (λx l u H Q=>r x l u H Q∨r' x l u H Q) (uW g g'):=by
 intro H₀ O H x lo hi a Q m d od hd h1 e q;unfold uW at e;split at e
 ·rename_i z ez;cases e;exact .inl (h H₀ O H x lo hi a Q m d od hd h1 ez q)
 ·exact .inr (h' H₀ O H x lo hi a Q m d od hd h1 e q)
def Ml{X:Cx}{r r':V→Option Int→Option Int→Hp→VK→Prop}(h:mG X r)(h':mG X r'):mG X (λx l u H Q=>r x l u H Q∨r' x l u H Q) :=
 λpins s σ H x v vl vu lo hi sl Q I rx hs pl pu q=>q.elim (h pins s σ H x v vl vu lo hi sl Q I rx hs pl pu) (h' pins s σ H x v vl vu lo hi sl Q I rx hs pl pu)
@[reducible]def Ec(K:PySem.W.Frag):R2:=λx y H Q=>fN (λi j=>.int (i+j)) x y H Q∨(λx y H Q=>(λx y H Q=>∃i j,x=.str i∧y=.str j∧i.length+j.length≤sizeLine∧Q (.str (i++j)) H) x y H Q∨(λx y H Q=>yN K x y H Q∨yP K x y H Q) x y H Q) x y H Q
def bW:=p7 Oy (p7 qR (p7 rn yQ))
def Xs{X:Cx}(h:X.K=K):bM X (binaryOp .Add) (Ec K):=EA YR (EA TV (EA (VA h) (VG h)))
def Xt:JR K (Ec K) bW:=DN Zo (DN Xm (DN ZH Xo))
@[reducible]def Qz(K:PySem.W.Frag):V→Option Int→Option Int→Hp→VK→Prop:=λx l u H Q=>Ee K x l u H Q∨(λx l u H Q=>EB K x l u H Q∨(λx lo hi H Q=>∃z:Str,x=.str z∧z.length≤sizeLine∧Q (.str (Txt.slice z lo hi)) H) x l u H Q) x l u H Q
def iV:=uW Ew (uW Oz EC)
def adj{X:Cx}(h:X.K=K):mG X (Qz K):=by subst h;exact Ml WV (Ml Xp Zk)
def abE:n8 K (Qz K) iV:=Mj Vu (Mj Xq Xr)
abbrev vS:D→String
 |.non => "NoneType"
 |.bl _ => "bool"
 |.int _ => "int"
 |.str _ => "str"
 |.ty _ => "type"
 |.tup _ => "tuple"
 |.lst _ => "list"
 |.dk _ => "dict"
 |.dt _ => "dict"
def jj:List (M×D)→Qzq
 |[(_,d),(_,.ty T)]=>if vS d = "type" then none else if ["bool", "int", "str", "tuple", "list", "dict"].contains T=true then some (.fr,.bl (vS d==T||(vS d == "bool" && T == "int")))else none
 |_=>none
end
inductive TyJ (K:PySem.W.Frag)(H:Hp):V→String→Prop where
 |non:TyJ K H .non "NoneType"
 |bl (x:Bool):TyJ K H (.bl x) "bool"
 |int (i:Int):TyJ K H (.int i) "int"
 |str (x:Str):TyJ K H (.str x) "str"
 |lst {a:Addr}{xs:List V} (e:b0 K H a xs):TyJ K H (.ref a) "list"
 |tup {a:Addr}{xs:List V} (e:bC K H a xs):TyJ K H (.ref a) "tuple"
 |dK {a:Addr}{aj:List (Key×V)} (e:Rd H a (.dK aj)):TyJ K H (.ref a) "dict"
 |dT {a:Addr}{aj:List (List Key×V)} (e:Rd H a (.dT aj)):TyJ K H (.ref a) "dict"
abbrev vT(t T:String):Bool:=t==T||(t == "bool" && T == "int")
def ZW (K:PySem.W.Frag) {t T:String} (h1:["NoneType", "bool", "int", "str", "tuple", "list", "dict"].contains t=true) (h2:["bool", "int", "str", "tuple", "list", "dict"].contains T=true):PySem.W.kitOne K (.type t) (.type T)=some (vT t T):=by
 simp only[List.contains_cons,List.contains_nil,Bool.or_false,Bool.or_eq_true,beq_iff_eq]at h1 h2;rcases h1 with rfl|rfl|rfl|rfl|rfl|rfl|rfl<;>rcases h2 with rfl|rfl|rfl|rfl|rfl|rfl<;>rfl
section
variable {K:PySem.W.Frag}{H H' H₀:Hp}{O O':Addr→Prop}{σ:L2.St}{env:Ev}
def ZX{x:V}{t:String}(h:TyJ K H x t):["NoneType", "bool", "int", "str", "tuple", "list", "dict"].contains t=true:=by cases h<;>decide
def UI{X:Cx}(hK:X.K=K):iJ X (.builtin "isinstance") (λxs H Q=>∃x T t,xs=[x,.ty T]∧TyJ K H x t∧["bool", "int", "str", "tuple", "list", "dict"].contains T=true∧Q (.bl (vT t T)) H):=by
 subst hK;intro pins s σ H xs us Q I r h;let⟨x,T,t,rfl,ty,hT,q⟩:=h;let⟨u,u',rfl,rx,ry⟩:=vals2 r;cases (show u'=Value.type T from ry);have e:=ZW X.K (ZX ty) hT;have fin:∀tk,EP X pins σ Q (.bool (vT t T)) { s with toks:=tk }:=λtk=>⟨.bl (vT t T),H,I.tok tk,rfl,q⟩;cases ty with
 |non=>cases (show u=Value.none from rx);exact nS PySem.W.kitx_none I.iu True.intro e (λz=>nomatch z) fin
 |bl y=>cases (show u=Value.bool y from rx);exact nS PySem.W.kitx_bool I.iu True.intro e (λz=>nomatch z) fin
 |int i=>let⟨t,q⟩:=(show ∃t,u=Value.int i t from rx);cases q;exact nS PySem.W.kitx_int I.iu True.intro e (λz=>nomatch z) fin
 |str y=>let⟨t,q⟩:=(show ∃t,u=Value.str y t from rx);cases q;exact nS PySem.W.kitx_str I.iu True.intro e (λz=>nomatch z) fin
 |@lst a xs ea =>
  cases (show u=Value.ref a from rx);let⟨its,_,⟨o,n,h1,h2,_⟩,_⟩:=I.list ea;exact nS PySem.W.kitx_list I.iu ⟨o,h1,h2⟩ e (λz=>nomatch z) fin
 |@tup a xs ea =>
  cases (show u=Value.ref a from rx);let⟨its,_,p,_⟩:=I.tuple ea;let⟨o,h1,h2,_⟩:=p;exact nS PySem.W.kitx_tuple I.iu ⟨o,h1,h2⟩ e (λz=>nomatch z) fin
 |@dK a aj ea =>
  cases (show u=Value.ref a from rx);let⟨_,_,vs,_,p⟩:=ea.ok I.aH;let⟨o,es,ep,h1,h2,_⟩:=p;exact nS PySem.W.kitx_dict I.iu ⟨o,h1,h2.1⟩ e (λz=>nomatch z) fin
 |@dT a aj ea =>
  cases (show u=Value.ref a from rx);let⟨_,_,vs,_,o,es,ep,h1,h2,_⟩:=ea.ok I.aH;exact nS PySem.W.kitx_dict I.iu ⟨o,h1,h2.1⟩ e (λz=>nomatch z) fin
def ZY {N:Addr→Prop}{v:V}{d:D} (h:Rp K N H v d) (n:vS d ≠ "type"):TyJ K H v (vS d):=by
 cases h with
 |non=>exact .non
 |bl b=>exact .bl b
 |int i=>exact .int i
 |str x=>exact .str x
 |ty x=>exact absurd rfl n
 |tup h _=>exact .tup h
 |lst h _ _=>exact .lst (.inl h)
 |lstK h _=>exact .lst (.inr h)
 |dk h _ _ _=>exact .dK h
 |dt h _ _ _=>exact .dT h
def Xu:lE K (λxs H Q=>∃x T t,xs=[x,.ty T]∧TyJ K H x t∧["bool", "int", "str", "tuple", "list", "dict"].contains T=true∧Q (.bl (vT t T)) H) jj:=by
 intro H₀ O H vs ay Q m d _ _ hv h q;unfold jj at h;split at h
 ·split at h
  ·cases h
  ·rename_i hn;split at h
   ·rename_i hT;cases h;let⟨v,w,rfl,hx,hw⟩:=hv.two;obtain rfl:=hw.ty;exact⟨v,_,_,rfl,ZY hx.weak hn,hT,q _ H (aG.refl H) fG⟩
   ·cases h
 ·cases h
end
section
variable {K:PySem.W.Frag}{H:Hp}
theorem CN{N:Addr→Prop}:∀(ns:List Int),aB K N H (ns.map V.int) (ns.map D.int)
 |[]=>.nil
 |n::ns=>.cons (.int n) (CN ns)
def ZZ{F:Qqk}{a:Addr}{ns:List Int}{E:XK}(h:b0 K H a (ns.map V.int))(e:∃m,F [.lst (ns.map .int)]=some (m,.bl true)):p5 K 1 F [.ref a] H (λv _=>v=.bl true) E:=by
 let⟨m,e⟩:=e;refine⟨rfl,_,m,_,.cons ?_ .nil,e,λv H' _ r=>?_⟩
 ·rcases h with h|h
  ·exact .lst h trivial (CN ns)
  ·exact .lstK h (CN ns)
 ·cases m<;>try exact r.elim
  ·exact Rp.Mh r
  ·let⟨p,_,_,c⟩:=r;exact c.elim
  ·let⟨_,_,_,_,e,_⟩:=r;cases e
end
section
variable {m n:M}{i j:Int}{x y:Str}{b c:Bool}{ds es:Qzz}{d:D}
def m8:aP (m,.int i) (n,.int j)=some (.fr,.bl (decide (i=j))):=by
 show(if true=true then some (M.fr,D.bl (decide (V.int i=V.int j)))else none)=_;simp
def fV:aP (m,.str x) (n,.str y)=some (.fr,.bl (decide (x=y))):=by
 show(if true=true then some (M.fr,D.bl (decide (V.str x=V.str y)))else none)=_;simp
def abF:aP (m,.str x) (n,.int j)=some (.fr,.bl false):=by
 show(if true=true then some (M.fr,D.bl (decide (V.str x=V.int j)))else none)=_;simp
def DP:kg (m,.int i) (n,.int j)=some (.fr,.bl (!decide (i=j))):=by
 show(if true=true then some (M.fr,D.bl (!decide (V.int i=V.int j)))else none)=_;simp
def NQ:kg (m,.str x) (n,.str y)=some (.fr,.bl (!decide (x=y))):=by
 show(if true=true then some (M.fr,D.bl (!decide (V.str x=V.str y)))else none)=_;simp
def Dm:bW (m,.int i) (n,.int j)=some (.fr,.int (i+j)):=rfl
def yl(h:x.length+y.length≤sizeLine):bW (m,.str x) (n,.str y)=some (.fr,.str (x++y)):=by
 show(match (none:Qzq) with|some z=>some z|none=>p7 qR (p7 rn yQ) (m,.str x) (n,.str y))=_
 show(match qR (m,.str x) (n,.str y) with|some z=>some z|none=>_)=_
 simp only[qR,if_pos h]
def Mm(hm:aY m≠.rb)(hn:aY n≠.rb)(h:ds.length+es.length≤sizeLine):bW (m,.lst ds) (n,.lst es)=iC (mJ m n) (ds++es):=by
 show(match rn (m,.lst ds) (n,.lst es) with|some z=>some z|none=>none)=_
 simp only[rn,hm,hn,or_self,if_false,h,if_true];cases iC (mJ m n) (ds++es)<;>rfl
def ym:jf (m,.int i) (n,.int j)=some (.fr,.int (i-j)):=rfl
def mul_r(h:-18446744073709551616<j∧j<18446744073709551616):fW (m,.int i) (n,.int j)=some (.fr,.int (i*j)):=by show(if _ then _ else _)=_;rw[if_pos (.inr h)]
def DQ(h:-18446744073709551616<i∧i<18446744073709551616):fW (m,.int i) (n,.int j)=some (.fr,.int (i*j)):=by show(if _ then _ else _)=_;rw[if_pos (.inl h)]
def oG(h:0<j):bf (m,.int i) (n,.int j)=some (.fr,.int (i%j)):=by show(if _ then _ else _)=_;rw[if_pos h]
def div_ii(h:0<j∧j<1606938044258990275541962092341162602522202993782792835301376):cC (m,.int i) (n,.int j)=some (.fr,.int (i/j)):=by show(if _ then _ else _)=_;rw[if_pos h]
def Z0(h:0≤j∧j≤1000000∧i.natAbs<2^64):jQ (m,.int i) (n,.int j)=some (.fr,.int (i^j.toNat)):=by show(if _ then _ else _)=_;rw[if_pos h]
def Z1(h:0≤j∧j≤1000000∧i.natAbs<2^64):oV (m,.int i) (n,.int j)=some (.fr,.int (i*2^j.toNat)):=by show(if _ then _ else _)=_;rw[if_pos h]
def Z2(h:0≤j):nC (m,.int i) (n,.int j)=some (.fr,.int (i/2^j.toNat)):=by show(if _ then _ else _)=_;rw[if_pos h]
def abG:jQ (m,.int 2) (n,.int 64)=some (.fr,.int 18446744073709551616):=by
 rw[Z0 (by decide)];have:(2:Int)^(64:Int).toNat=18446744073709551616:=by decide
 rw[this]
def DS:gx (m,.int i) (n,.int j)=some (.fr,.bl (decide (i<j))):=rfl
def DT:pZ (m,.int i) (n,.int j)=some (.fr,.bl (decide (i≤j))):=rfl
def oM:iU (m,.int i) (n,.int j)=some (.fr,.bl (decide (j<i))):=rfl
def CP:gD (m,.int i) (n,.int j)=some (.fr,.int (Builtin.bitAnd i j)):=rfl
def Mp:rq (m,.int i) (n,.int j)=some (.fr,.int (Builtin.bitOr i j)):=rfl
def qS:gQ (m,.int i)=some (.fr,.int (-i)):=rfl
def abH:nF (m,.int i)=some (.fr,.int (Builtin.bitNot i)):=rfl
def cR:au (m,.lst ds) (n,.int i)=(bz ds i).map λd=>(aY m,d):=rfl
def abI(h:x.length≤sizeLine):au (m,.str x) (n,.int i)=(bz x.cps.toList i).map λc=>(.fr,.str ⟨#[c]⟩):=by simp[au,h]
def dF:bG [(m,.lst ds)]=some (.fr,.int ds.length):=rfl
def abJ:nE [(m,.bl b)]=some (.fr,.int (if b then 1 else 0)):=rfl
def bO:n6 (m,.bl b)=some b:=rfl
def mX:oW (m,.int i)=some i:=rfl
def kH:qF (.fr,d)=some (.fr,d):=rfl
def KR:qF (.al,d)=some (.al,d):=rfl
def kJ:qF (.un,d)=some (.bo,d):=rfl
def uh{e:Ev}:out (.rt e .fr d)=some (.fr,d):=rfl
def ui{e:Ev}:out (.rt e .un d)=some (.un,d):=rfl
def yn{e:Ev}:out (.rt e .bo d)=some (.un,d):=rfl
def Mq{e:Ev}(h:d.cq=true):out (.rt e .al d)=some (.fr,d):=by simp[out,h]
def ig:c9 .fr d=true:=rfl
def uj:c9 .al d=d.cq:=rfl
def pf:D.cq (.int i)=true:=by simp only[D.cq]
def OB:D.cq (.str x)=true:=by simp only[D.cq]
def VH:D.cI (d::ds)=(d.cq&&D.cI ds):=by simp only[D.cI]
def fT:aY .al=.al:=rfl
def yo:aY .fr=.fr:=rfl
def Z3:aY .un=.fr:=rfl
def oH:aY .bo=.fr:=rfl
def Z4(h:D.cI ds=true):iC .al ds=some (.un,.lst ds):=by simp[iC,aY,h]
def Mr:iC .fr ds=some (.un,.lst ds):=by simp[iC,aY]
def ax{f g:Qqq}{e e':Ev}(h:f e=some (.nx e')):aq f g e=g e':=by simp[aq,h]
def dW{f g:Qqq}{e e':Ev}(h:f e=some (.rt e' m d)):aq f g e=some (.rt e' m d):=by simp[aq,h]
def bK{c:Qqx}{f g:Qqq}{e:Ev}(h:c e=some true):aM c f g e=f e:=by simp[aM,h]
def bL{c:Qqx}{f g:Qqq}{e:Ev}(h:c e=some false):aM c f g e=g e:=by simp[aM,h]
theorem Ci:∀ns:List Int,D.cI (ns.map .int)=true
 |[]=>by simp only[List.map_nil,D.cI]
 |n::ns=>by simp only[List.map_cons,D.cI,D.cq,Ci ns,Bool.and_self]
def kE{α:Type}{l:List α}{k:Nat}(h:k<l.length):L2.bz l (k:Int)=some l[k]:=by
 unfold L2.bz L2.dR;rw[if_pos (zI k),if_pos (by omega)];simp[h]
def iZ{α:Type}{l:List α}{k:Int}(h0:0≤k)(h1:k<l.length):L2.bz l k=some (l[k.toNat]'(by omega)):=by
 unfold L2.bz L2.dR;rw[if_pos h0,if_pos h1];have:k.toNat<l.length:=by omega
 simp[this]
def JL{ns:List Int}{k:Int}(h0:0≤k)(h1:k<ns.length):∃c,L2.bz (ns.map D.int) k=some (.int c):=by
 rw[iZ h0 (by simpa using h1)];exact⟨ns[k.toNat]'(by omega),by simp⟩
end
theorem dh{g:M×D→Ev→Option Ev}{b:Qqq}{m:M}:∀{ds:Qzz}{e:Ev} (Iv:Nat→Ev→Prop),Iv 0 e →
  (∀(k:Nat) d e,ds[k]?=some d→Iv k e→∃e1 e2,g (m,d) e=some e1∧b e1=some (.nx e2)∧Iv (k+1) e2)→∃e',forL g b m ds e=some (.nx e')∧Iv ds.length e'
 |[],e,Iv,h0,_=>⟨e,rfl,h0⟩
 |d::ds,e,Iv,h0,hs=>by
  let⟨e1,e2,h1,h2,h3⟩:=hs 0 d e rfl h0;let⟨e',h4,h5⟩:=dh (ds:=ds) (e:=e2) (λk e=>Iv (k+1) e) h3 λk d e hd hi=>hs (k+1) d e (by simpa using hd) hi;refine⟨e',?_,h5⟩;simp only[forL,h1,h2,Option.bind_some];exact h4
def lR{lo:Int}{n k:Nat}{d:D}(h:(cj lo n)[k]?=some d):k<n∧d=.int (lo+k):=by
 unfold cj at h;rw[cF]at h;have hk:k<n:=by
  rcases vh k n with z|z
  ·exact z
  ·rw[pO (by simpa using z)]at h;cases h
 rw[Fv hk]at h;cases h;exact⟨hk,rfl⟩
def kK{lo:Int}{n:Nat}:(cj lo n).length=n:=by simp[cj]
def Jd{c:Qqx}{b:Qqq}{e:Ev}(Iv:Ev→Prop)(μ:Ev→Nat)(h0:Iv e)
  (hs:∀e,Iv e→c e=some false∨(c e=some true∧∃e2,b e=some (.nx e2)∧Iv e2∧μ e2<μ e)):∃e',ic c b e=some (.nx e')∧Iv e'∧c e'=some false:=by
 have:∀(n:Nat) e,μ e≤n→Iv e→∃e',dB c b (n+1) e=some (.nx e')∧Iv e'∧c e'=some false:=by
  intro n
  induction n with
  |zero =>
   intro e hn hi;rcases hs e hi with h|⟨_,e2,_,_,h⟩
   ·exact⟨e,by simp[dB,h],hi,h⟩
   ·omega
  |succ n ih =>
   intro e hn hi;rcases hs e hi with h|⟨h,e2,h1,h2,h3⟩
   ·exact⟨e,by simp[dB,h],hi,h⟩
   ·let⟨e',q1,q2,q3⟩:=ih e2 (by omega) h2;refine⟨e',?_,q2,q3⟩;rw[dB,h,z4,if_pos rfl,h1,z4];exact q1
 let⟨e',h1,h2,h3⟩:=this (μ e) e (aU _) h0;exact⟨e',Cg h1,h2,h3⟩
def szT{n:Nat}(h:n≤1000):(n≤sizeLine)=True:=eq_true (dC h (by decide))
end J
namespace J
open PySem PySem.Spec PyProof.Rows L2
section
variable {X:Cx}{pins:List (Addr×Obj)}{σ:L2.St}{H:Hp}{s:Shared}{h':Heap}
def Ua{fp:List Addr}{t':Nat}(I:L2.Inv X pins σ H s)(k:∀b o,b∉fp→s.heap.get? b=some o→h'.get? b=some o)(hf:∀b∈fp,jN X pins H b):L2.Inv X pins σ H { s with heap:=h',toks:=t' }:=by
 have nV:∀b u,H b=some u→b∉fp:=λb u e z=>by rw[(hf b z).1]at e;cases e
 refine I.step (g':=s.gens) (d':=s.drawn) (ch:=fp) (λb hb=>?_) (λb o _ _ hc e _=>k b o hc e) (λb o _ _ hc e _=>⟨o.slots,k b o hc e⟩) (λ_ _ _ _ n=>n)
  (λb o hc e=>⟨o,k b o hc e⟩) (λ_ _ e=>e) (λ_ _ _ e=>e) (λb ps e=>⟨#[],by rw[e];simp⟩) (λm hm=>?_) (λb u e=>?_) I.bare
 ·let⟨f0,f1,f2,f3,f4,f5⟩:=hf b hb;exact⟨f3,f1,f4,f5⟩
 ·let⟨o,es,ep,ho,r⟩:=hm;exact⟨o,es,ep,k _ o (λz=>(hf _ z).2.1 rfl) ho,r⟩
 ·refine(I.aH b u e).nr (λc v hc q=>k c v ?_ q) (λ_ q=>q) λ_ _ q=>q;rcases hc with z|z
  ·rw[z];exact nV b u e
  ·exact nV c _ z
def TF{fp:List Addr}{t':Nat}{o:HO}(I:L2.Inv X pins σ H s)(k:∀b o,b∉fp→s.heap.get? b=some o→h'.get? b=some o)(hf:∀b∈fp,jN X pins H b)(new:cB X.prog X.w (upd H s.heap.objs.size o) h' s.heap.objs.size o) :
  L2.Inv X pins σ (upd H s.heap.objs.size o) { s with heap:=h',toks:=t' }:=by
 have nV:∀b u,H b=some u→b∉fp:=λb u e z=>by rw[(hf b z).1]at e;cases e
 have hT:H s.heap.objs.size=none:=I.aH.fresh (aU _);have neT:∀b u,H b=some u→b≠s.heap.objs.size:=λb u e=>eR e hT;have neB:∀b o,s.heap.get? b=some o→b≠s.heap.objs.size:=λb o e=>fu (bZ e);refine I.step (g':=s.gens) (d':=s.drawn) (ch:=fp) (λb hb=>?_) (λb o _ _ hc e _=>k b o hc e) (λb o _ _ hc e _=>⟨o.slots,k b o hc e⟩) (λb o _ e n=>by rw[aI (neB b o e)];exact n)
  (λb o hc e=>⟨o,k b o hc e⟩) (λb xs e=>by rw[aI (neT b _ e)];exact e) (λb _ _ e=>by rw[aI (neT b _ e)];exact e) (λb ps e=>⟨#[],by rw[aI (neT b _ e),e];simp⟩) (λm hm=>?_) (λb u e=>?_) I.bare
 ·let⟨f0,f1,f2,f3,f4,f5⟩:=hf b hb;exact⟨f3,f1,f4,f5⟩
 ·let⟨o,es,ep,ho,r⟩:=hm;exact⟨o,es,ep,k _ o (λz=>(hf _ z).2.1 rfl) ho,r⟩
 ·by_cases hb:b=s.heap.objs.size
  ·subst hb;rw[bN]at e;cases e;exact new
  ·rw[aI hb]at e;refine(I.aH b u e).nr (λc v hc q=>k c v ?_ q) (λc q=>by rw[aI (neT c _ q)];exact q) λc xs q=>by rw[aI (neT c _ q)];exact q
   rcases hc with z|z
   ·rw[z];exact nV b u e
   ·exact nV c _ z
end
def Gd(K:PySem.W.Frag)(a:Addr):It :=
 ⟨λi H=>∃xs x,b0 K H a xs∧xs[i]?=some x,λi H x H'=>∃t y,x=.ref t∧H t=none∧H'=upd H t (.tup [.int i,y])∧∀xs,b0 K H a xs→xs[i]?=some y,λi H=>∃xs,b0 K H a xs∧xs.length≤i⟩
def UJ{P:Program}{w:World}{K:PySem.W.Frag}{elts:List Expr}{x1}{pos:Pos}(a e it:Addr)(lD:e≠it):Turn P w K (.Tuple elts x1 pos) (Gd K a) [e,it] e (λi h=>(∃old,IsEnum h e it i old)∧h.IsListIter it a i) where
 mem:=by simp
 obj:=λi h st b hb=>by
  let⟨⟨old,he⟩,o,ho,c,d⟩:=st;rcases dQ.mp hb with rfl|hb
  ·exact⟨_,he,λv z=>nomatch z⟩
  ·have e:b=it:=by simpa using hb
   subst e;exact⟨o,ho,λv z=>by rw[d]at z;cases z⟩
 keep:=λi h h' st k=>by
  let⟨⟨old,he⟩,hit⟩:=st;exact⟨⟨old,k e (by simp) _ he⟩,hit.at λo q=>k it (by simp) o q⟩
 item:=by
  intro X hP hw hK hc i pins s σ H E I hf st hg;subst hP hw hK;let⟨xs,x,hq,hx⟩:=hg;let⟨its,rv,p,hz⟩:=I.list hq;let⟨u,hu,ru⟩:=rv.get hx;let⟨⟨old,he⟩,hit⟩:=st;have Ge:e<s.heap.objs.size:=bZ he;have QB:it<s.heap.objs.size:=by let⟨_,q,_⟩:=hit;exact bZ q
  have hT:H s.heap.objs.size=none:=I.aH.fresh (aU _);refine wpAny_pyNext_enum_item he hit p.isList (x:=u) (by simpa using hu) lD λh1 ho adk ht hsz hk=>⟨_,rfl,?_⟩;refine wpAny_letOwnedTupleGo_enum ho λh2 he2 sb=>?_;have ht2:h2.get? s.heap.objs.size=some { cls:=.type "tuple",data:=.seq #[.int i s.toks,u] }:=(sb.2 _ (Nat.ne_of_gt Ge)).trans ht;have k2:∀b o,b∉[e,it]→s.heap.get? b=some o→h2.get? b=some o:=λb o nb q=>by
   have n1:b≠e:=λz=>nb (by simp[z]);have n2:b≠it:=λz=>nb (by simp[z]);exact(sb.2 b n1).trans (hk b o n1 n2 q)
  refine⟨.ref s.heap.objs.size,upd H s.heap.objs.size (.tup [.int i,x]),?_,rfl,⟨s.heap.objs.size,x,rfl,hT,rfl,λys hy=>by rw[I.xJ hy hq];exact hx⟩,⟨⟨_,by simpa using he2⟩,adk.at λo q=>(sb.2 it lD.symm).trans q⟩,λb hb=>?_⟩
  ·refine TF (t':=s.toks+1) I k2 hf ⟨by show 2≤sizeLine;decide,[.int i s.toks,u],.cons ⟨_,rfl⟩ (.cons ru .nil),⟨_,ht2,rfl,rfl,_,rfl⟩⟩
  ·have mQ:b<s.heap.objs.size:=by
    rcases dQ.mp hb with rfl|hb
    ·exact Ge
    ·have e:b=it:=by simpa using hb
     rw[e];exact QB
   rw[aI (fu mQ)];exact(hf b hb).1
 done:=by
  intro X hP hw hK hc i pins s σ H E I hf st hg;subst hP hw hK;let⟨xs,hq,hx⟩:=hg;let⟨its,rv,p,hz⟩:=I.list hq;let⟨⟨old,he⟩,hit⟩:=st;have hl:=rv.length;refine wpAny_pyNext_enum_end (I.ok.hd hc) he hit p.isList (by simp;omega) λh1 eb=>⟨rfl,?_⟩;exact Ua (fp:=[e,it]) (t':=s.toks) I (λb o nb q=>eb b o (λz=>nb (by simp[z])) q) hf
 self:=λA i s Q E st h=>by
  let⟨⟨old,he⟩,_⟩:=st;exact wpAny_pyIter_enum he h
section
variable {X:Cx}
def DU(K:PySem.W.Frag)(ta:TA):TI:=λσ H R=>ta σ H λvs H1=>∃a xs,vs=[.ref a]∧b0 K H1 a xs∧R (Gd K a) H1
def Xv {a:Expr}{ta:TA}{p pos pos':Pos}{elts:List Expr} {x1} (hg:Gl X "enumerate") (hm:X.mg "enumerate" = none) (ha:PA X [a] ta) (hs:starEach [a] X.env=[(false,eval a X.env)]:=by rfl):PI X (.Tuple elts x1 pos') (.Call (.Name "enumerate" p) [a] [] pos) (DU X.K ta):=by
 intro pins s σ H R I h;refine Call_ (kQ I hg hm PyProof.Rows.Boot.«enumerate» (pI (aJ (ha pos pins s σ H _ I h) λus s1 ⟨vs,H1,I1,r1,q1⟩=>?_) hs rfl));let⟨l,xs,e,hq,q⟩:=q1;subst e;cases r1 with
 |cons r rr =>
  cases rr;cases r;let⟨its,rv,pl,hz⟩:=I1.list hq;refine call_enumerate_list pl.isList λh1 he hit hsz hk=>?_;have I2:L2.Inv X pins σ H1 { s1 with heap:=h1 }:=I1.kept (t':=s1.toks) hk;refine wpAny_pyIter_enum he ?_;have n1:s1.heap.objs.size+1≠s1.heap.objs.size:=by omega
  refine⟨s1.heap.objs.size+1,[s1.heap.objs.size+1,s1.heap.objs.size],_,_,H1,rfl,I2,UJ l _ _ n1,⟨⟨_,he⟩,hit⟩,λb hb=>?_,q⟩;have mQ:s1.heap.objs.size≤b:=by
   rcases dQ.mp hb with rfl|hb
   ·omega
   ·have e:b=s1.heap.objs.size:=by simpa using hb
    exact rM e.symm
  have z:=I1.qZ (H':=H1) mQ (I1.aH.fresh mQ);exact z
def VJ {K:PySem.W.Frag}{a:Expr}{ta:TA}{p pos pos':Pos}{elts:List Expr} {x1} (hK:X.K=K) (hg:Gl X "enumerate") (hm:X.mg "enumerate" = none) (ha:PA X [a] ta) (hs:starEach [a] X.env=[(false,eval a X.env)]:=by rfl):PI X (.Tuple elts x1 pos') (.Call (.Name "enumerate" p) [a] [] pos) (DU K ta):=by subst hK;exact Xv hg hm ha hs
end
abbrev bY(ds:Qzz):Qzz:=ds.mapIdx λi d=>.tup [.int i,d]
def gb(fs:Qqz):Ev→Option (M×Qzz):=λe=>(fs e).bind λl=>match l with
 |[(m,.lst ds)]=>(b9 m).map λn=>(n,bY ds)
 |_=>none
section
variable {K:PySem.W.Frag}{H H' H₀:Hp}{O O':Addr→Prop}{σ:L2.St}{env:Ev}
def UK{a:Addr}{xs:List V}{ds:Qzz}{n:M}(e:fH n=true)(on:∀a o,O a→H a=some o→¬hJ o)(hr:(Rd H a (.lst xs)∧¬O a)∨Am K a xs)(r:aB K (NM H₀ O n) H xs ds):k9 K H₀ O (Gd K a) H n (bY ds):=by
 have st:∀{O2:Addr→Prop}{H2:Hp},aO O H O2 H2→b0 K H2 a xs:=λ{O2 H2} s=>by
  rcases hr with⟨h|⟨o,h⟩,ha⟩|h
  ·exact .inl (.inl (s _ _ h ha).1)
  ·exact .inl (.inr ⟨o,(s _ _ h ha).1⟩)
  ·exact .inr h
 have l:(bY ds).length=ds.length:=by simp[bY]
 refine⟨λO2 H2 i s hi=>?_,λO2 H2 i x H3 s hi y=>?_,λO2 H2 s=>⟨xs,st s,by rw[r.len,l];exact aU _⟩⟩
 ·rw[l]at hi;exact⟨xs,xs[i]'(by rw[r.len];exact hi),st s,by simp⟩
 ·rw[l]at hi;let⟨t,z,rfl,ht,rfl,y⟩:=y;have y:=y xs (st s);let⟨v,hv,rv⟩:=r.get (i:=i) (d:=ds[i]) (by simp[hi]);rw[y]at hv;cases hv;have sm:aG H2 (upd H2 t (.tup [.int i,z])):=cW ht;have hz:=(CM e on s rv).keep sm;refine⟨sm,.tup [.int i,ds[i]],by simp[bY,hi],?_⟩;cases n
  ·exact Rp.tup (bC.of bN) (.cons (.int _) (.cons hz .nil))
  ·exact Rp.tup (bC.of bN) (.cons (.int _) (.cons hz .nil))
  ·cases e
  ·cases e
  ·cases e
  ·cases e
  ·cases e
  ·cases e
set_option tactic.hygienic true in
def Xw{t:TA}{fs:Qqz}(h:iB K t fs):JI K (DU K t) (gb fs):=by
 intro H₀ O H σ env R m ds Re e q;let⟨l,el,e⟩:=av e;split at e
 ·rename_i m0 d0;cases em:b9 m0 with
  |none=>rw[em]at e;cases e
  |some n =>
   rw[em]at e;cases e;refine h H₀ O H σ env _ _ Re el λvs H1 s1 h1=>?_;let⟨v,rfl,hv⟩:=h1.one;let⟨e1,a,xs,rfl,hr,r⟩:=KJ em hv;exact⟨a,xs,rfl,hr.elim (λz=>.inl z.1) .inr,q _ H1 s1 e1 (UK e1 (Re.keep s1).on hr r)⟩
 ·cases e
end
end J
namespace J
open PySem L2
def gd:D→Bool
 |.lst ds=>D.cI ds
 |.dk ks=>D.cI (ks.map (·.2))
 |.dt ks=>D.cI (ks.map (·.2))
 |_=>false
def hV(io:List Nat)(vs:List V)(a:Addr):Prop:=∃i,i∈io∧vs[i]?=some (.ref a)
structure uk (K:PySem.W.Frag)(H:Hp)(io:List Nat)(vs:List V)(ds:Qzz):Prop where
 len:vs.length=ds.length
 rd:∀(i:Nat) v d,i∉io→vs[i]?=some v→ds[i]?=some d→Rp K (λa=>¬hV io vs a) H v d
 cl:∀(i:Nat) d,i∈io→ds[i]?=some d→∃p,vs[i]?=some (.ref p)∧Cell K (λ_=>False) H p d
 dj:∀(i j:Nat) p,i∈io→j∈io→vs[i]?=some (.ref p)→vs[j]?=some (.ref p)→i=j
def uX(K:PySem.W.Frag)(n:Nat)(io:List Nat)(F:Qzz→Option (M×D×Qzz)):Sp:=λvs H Q _=>vs.length=n∧∃ds m d outs,uk K H io vs ds∧F ds=some (m,d,outs) ∧
 ∀v H',(∀a o,¬hV io vs a→H a=some o→H' a=some o)→outs.length=io.length→(∀(k i:Nat) o,io[k]?=some i→outs[k]?=some o→∃p,vs[i]?=some (.ref p)∧Cell K (λ_=>False) H' p o)→yO K H H' m d v→Q v H'
abbrev envOf:Fl→Ev
 |.nx e=>e
 |.bk e=>e
 |.ct e=>e
 |.rt e _ _=>e
def collect:List Nat→Ev→Option (Qzz)
 |[],_=>some []
 |i::io,e=>match e[i]? with
  |some (some (.bi,d))=>if gd d=true then (collect io e).bind λr=>some (d::r)else none
  |_=>none
def NR(io:List Nat)(fl:Fl):Option (M×D×Qzz):=(out fl).bind λx=>(collect io (envOf fl)).bind λo=>some (x.1,x.2,o)
abbrev i3(io:List Nat)(ds:Qzz):Ev:=ds.mapIdx λi d=>some (if i∈io then M.bi else M.al,d)
def rB(L:Nat)(io:List Nat)(g:Qqq):Qzz→Option (M×D×Qzz):=λds=>(g (i3 io ds++List.replicate (L-ds.length) none)).bind (NR io)
section
variable {K:PySem.W.Frag}{H H' H₀:Hp}{I:Nat→Option Addr}{O O':Addr→Prop}{σ:L2.St}{env:Ev}
theorem Cell.im{N N':Addr→Prop}{p:Addr}{d:D}(e:gd d=true)(h:Cell K N H p d):Cell K N' H p d:=by
 cases d<;>simp only[gd]at e<;>try (cases e;done)
 ·let⟨xs,q,r⟩:=h;exact⟨xs,q,r.im e⟩
 ·let⟨xs,q,z,r⟩:=h;exact⟨xs,q,z,r.im e⟩
 ·let⟨xs,q,z,r⟩:=h;exact⟨xs,q,z,r.im e⟩
theorem HR:∀{io:List Nat}{e:Ev}{r:Qzz},collect io e=some r→r.length=io.length
 |[],_,_,h=>by cases h;rfl
 |i::io,e,r,h=>by
  simp only[collect]at h;split at h
  ·split at h
   ·let⟨r',er,h⟩:=av h;cases h;rw[f6,f6,HR er]
   ·cases h
  ·cases h
set_option tactic.hygienic true in
theorem Im:∀{io:List Nat}{e:Ev}{r:Qzz}{k i:Nat}{o:D},collect io e=some r→io[k]?=some i→r[k]?=some o→e[i]?=some (some (.bi,o))∧gd o=true
 |[],_,_,_,_,_,_,h1,_=>by simp at h1
 |j::io,e,r,k,i,o,h,h1,h2=>by
  simp only[collect]at h;split at h
  ·rename_i d hd;split at h
   ·rename_i hc;let⟨r',er,h⟩:=av h;cases h;cases k with
    |zero=>simp at h1 h2;subst h1;subst h2;exact⟨hd,hc⟩
    |succ k=>exact Im er (by simpa using h1) (by simpa using h2)
   ·cases h
  ·cases h
set_option tactic.hygienic true in
def HS{io:List Nat}{N:List Str}{vs:List V}{ds:Qzz}(A:uk K H io vs ds):∃I0:Nat→Option Addr,(∀{i p},I0 i=some p→i∈io∧vs[i]?=some (.ref p))∧Rel K H I0 (hV io vs) H (L2.start N vs) (i3 io ds++List.replicate (N.length-ds.length) none):=by
 let I0:Nat→Option Addr:=λi=>if i∈io then (match vs[i]? with|some (.ref p)=>some p|_=>none)else none
 have lF:∀{i p},I0 i=some p→i∈io∧vs[i]?=some (.ref p):=λ{i p} z=>by
  simp only[I0]at z;split at z
  ·rename_i hi;split at z
   ·rename_i w hw;cases z;exact⟨hi,hw⟩
   ·cases z
  ·cases z
 have QC:∀{i p},i∈io→vs[i]?=some (.ref p)→I0 i=some p:=λ{i p} hi hv=>by simp only[I0,if_pos hi,hv]
 have uq:∀{i:Nat}{y:M×D},(i3 io ds++List.replicate (N.length-ds.length) none)[i]?=some (some y)→ds[i]?=some y.2∧y.1=(if i∈io then M.bi else M.al):=λ{i y} z=>by
  rw[List.getElem?_append]at z;split at z
  ·rename_i hi;simp only[i3,List.getElem?_mapIdx,List.length_mapIdx]at z hi;rw[du hi]at z ⊢;simp only[Option.map_some,Option.some.injEq]at z;subst z;exact⟨rfl,rfl⟩
  ·have:=dH z;have:=z5 this;cases this
 have zq:∀{i:Nat}{v:V},vs[i]?=some v→(L2.start N vs)[i]?=some (some v):=λ{i v} z=>by
  unfold L2.start;have hi:i<vs.length:=(bp.mp z).1;rw[pL (by simpa using hi),cF,z];rfl
 refine⟨I0,lF,?_⟩;show Rel K H I0 (hV io vs) H (L2.start N vs) (i3 io ds++List.replicate (N.length-ds.length) none);refine⟨⟨kz ?_ ?_,?_,λa o e=>⟨o,e⟩,?_⟩,λa o _ e=>e,?_,?_,?_,?_⟩
 ·unfold L2.start i3;simp[A.len]
 ·intro j y z hy hz m' d' ey;subst ey;let⟨hd,hm⟩:=uq hy;have hj:j<vs.length:=by rw[A.len];exact(bp.mp hd).1
  have hv:vs[j]?=some vs[j]:=du hj;rw[zq hv]at hz;cases hz;simp only at hm hd;by_cases hi:j∈io
  ·rw[if_pos hi]at hm;subst hm;let⟨p,hp,c⟩:=A.cl j d' hi hd;rw[hv]at hp;refine⟨rfl,_,rfl,p,dP hp,⟨j,hi,by rw[hv,hp]⟩,c.wk λ_ z _=>z.elim⟩
  ·rw[if_neg hi]at hm;subst hm;exact⟨rfl,_,rfl,A.rd j _ d' hi hv hd⟩
 ·rintro a ⟨i,hi,hv⟩;have aX:i<ds.length:=by rw[←A.len];exact(bp.mp hv).1
  let⟨p,hp,c⟩:=A.cl i ds[i] hi (du aX);rw[hv]at hp;cases hp;let⟨o,eo,_⟩:=c.some;exact⟨o,eo⟩
 ·rintro a o ⟨i,hi,hv⟩ eo;have aX:i<ds.length:=by rw[←A.len];exact(bp.mp hv).1
  let⟨p,hp,c⟩:=A.cl i ds[i] hi (du aX);rw[hv]at hp;cases hp;let⟨o',QD,nt⟩:=c.some;rw[eo]at QD;cases QD;exact nt
 ·rintro a ⟨i,hi,hv⟩;exact .inl ⟨i,QC hi hv⟩
 ·intro i d' p h1 p1;let⟨hd,hm⟩:=uq h1;by_cases hi:i∈io
  ·let⟨p',hp,_⟩:=A.cl i d' hi hd;rw[zq hp]at p1;cases p1;exact QC hi hp
  ·rw[if_neg hi]at hm;cases hm
 ·intro i j y z p h1 h2 o1 o2 p1 p2;let⟨d1,m1⟩:=uq h1;let⟨d2,m2⟩:=uq h2;have hi:i∈io:=by
   by_cases hi:i∈io
   ·exact hi
   ·rw[if_neg hi]at m1;rw[m1]at o1;cases o1
  have hj:j∈io:=by
   by_cases hj:j∈io
   ·exact hj
   ·rw[if_neg hj]at m2;rw[m2]at o2;cases o2
  let⟨q1,QF,_⟩:=A.cl i _ hi d1;let⟨q2,pW,_⟩:=A.cl j _ hj d2;rw[zq QF]at p1;cases p1;rw[zq pW]at p2;cases p2;exact A.dj i j p hi hj QF pW
 ·have no:∀{i:Nat}{d:D},(i3 io ds++List.replicate (N.length-ds.length) none)[i]?=some (some (M.nb,d))→False:=λ{i d} z=>by
   let⟨_,hm⟩:=uq z;simp only at hm;split at hm<;>cases hm
  exact⟨λi j d d' h1=>(no h1).elim,λi j d x p q xs h1=>(no h1).elim⟩
def UL{ts:TS}{g:Qqq}{n:Nat}{io:List Nat}{N:List Str}{vs:List V}{Q:VK}{E:XK}(h:JS K ts g)(hs:uX K n io (rB N.length io g) vs H Q E):ts { nx:=λ_ H'=>Q .non H',rt:=Q } (L2.start N vs) H:=by
 let⟨hl,ds,m,d,outs,A,e,q⟩:=hs;let⟨fl,ef,eo⟩:=av e;let⟨x,ex,eo⟩:=av eo;let⟨oo,ec,eo⟩:=av eo;cases eo;let⟨I0,lF,R⟩:=HS (N:=N) A;have fin:∀(O':Addr→Prop) (H':Hp) (σ':L2.St) (v:V),Rel K H I0 O' H' σ' (envOf fl)→yO K H H' x.1 x.2 v→Q v H':=by
  intro O' H' σ' v R' ro;refine q v H' (λa o n e=>R'.fr a o (λi z=>n ⟨i,(lF z).1,(lF z).2⟩) e) (HR ec) (λk i o h1 h2=>?_) ro;let⟨he,hc⟩:=Im ec h1 h2;let⟨w,hw,_,p,rfl,_,c⟩:=R'.e.at he;have:=R'.ba i o p he hw;exact⟨p,(lF this).2,c.im hc⟩
 refine h H I0 (hV io vs) H _ _ _ fl R ef ?_;cases fl with
 |nx e'=>cases ex;exactλO' H' σ' R' st=>fin O' H' σ' .non R' Rp.non
 |bk e'=>cases ex
 |ct e'=>cases ex
 |rt e' m' d' =>
  intro O' H' σ' v R' st hv;refine fin O' H' σ' v R' ?_;cases m'<;>simp only[out]at ex
  ·split at ex
   ·rename_i hi;cases ex;exact(show Rp K _ H' v d' from hv.weak.im hi)
   ·cases ex
  ·cases ex;exact(show Rp K _ H' v d' from Rp.wk (λa h _=>h.2) hv)
  ·cases ex;let⟨p,rfl,_,h0,_,c⟩:=hv;exact⟨p,rfl,h0,c.wk λa h _=>⟨h.1.2,h.2⟩⟩
  ·cases ex;let⟨p,rfl,hO,h0,c⟩:=hv;exact⟨p,rfl,h0,c.wk λa h _=>⟨h.2,λz=>h.1 (z▸hO)⟩⟩
  ·cases ex
  ·cases ex;exact(show Rp K _ H' v d' from hv)
  ·cases ex;exact(show Rp K _ H' v d' from i9.rp (λ_ z=>z) hv)
  ·cases ex;exact(show eV K _ H' d' v from eV.wk (λq z=>z.2.1) hv)
end
section
variable {K:PySem.W.Frag}{H H' H₀:Hp}{I:Nat→Option Addr}{O O':Addr→Prop}{σ:L2.St}{env:Ev}
def Rel.adl{env':Ev}{P:Addr→Prop}(R:Rel K H₀ I O H σ env)(hP:∀a,P a→O a)(hW:∀a,P a→∃(j:Nat) (x:M×D),env[j]?=some (some x)∧own x.1=true∧σ[j]?=some (some (.ref a)))(kp:∀a o,¬P a→H a=some o→H' a=some o)(cs:∀a,P a→∃o,H' a=some o∧¬hJ o)(hl:env'.length=env.length)
  (sl:∀(j:Nat) x',env'[j]?=some (some x')→(env[j]?=some (some x')∧∀p,own x'.1=true→σ[j]?=some (some (.ref p))→¬P p) ∨
   (∃d p,env[j]?=some (some (x'.1,d))∧own x'.1=true∧σ[j]?=some (some (.ref p))∧Cell K (λa=>¬O a∧H₀ a=none) H' p x'.2)) :
  Rel K H₀ I O H' σ env'∧aO O H O H':=by
 have kN:∀{N:Addr→Prop},(∀a,N a→¬O a)→Keeps N H H':=λw a u h z=>kp a u (λhp=>by
  rcases z with z|z
  ·exact w a z (hP a hp)
  ·exact R.e.on a u (hP a hp) h z) h
 have old:∀{j:Nat}{x':M×D},env'[j]?=some (some x')→∃d,env[j]?=some (some (x'.1,d)):=λ{j x'} h=>by
  rcases sl j x' h with⟨q,_⟩|⟨d,p,q,_⟩
  ·exact⟨x'.2,q⟩
  ·exact⟨d,q⟩
 have QG:∀{j:Nat}{d:D}{p:Addr}{xs:List V},env[j]?=some (some (.nb,d))→σ[j]?=some (some (.ref p))→H p=some (.lst xs)→∀a,P a→a≠p∧V.ref a∉xs:=λ{j d p xs} h1 h2 h3 a ha=>by
  let⟨j',x,e1,e2,e3⟩:=hW a ha;exact R.nd.2 j j' d x p a xs h1 h2 e1 e2 e3 h3
 have vU:∀{j:Nat}{d:D},env'[j]?=some (some (.nb,d))→env[j]?=some (some (.nb,d)):=λ{j d} h=>by
  rcases sl j (.nb,d) h with⟨q,_⟩|⟨d0,p,q,ow,_⟩
  ·exact q
  ·cases ow
 refine⟨⟨⟨kz (by rw[hl];exact cE R.e.sl) ?_,?_,?_,?_⟩,?_,R.ow,?_,?_,?_⟩,?_⟩
 ·intro j y z hy hz m d ey;subst ey;rcases sl j (m,d) hy with⟨q,np⟩|⟨d0,p,q,ow,hp,c⟩
  ·let⟨v,hv,n,hm⟩:=R.e.at q;rw[hz]at hv;cases hv;refine⟨n,v,rfl,?_⟩;cases m
   ·exact Rp.keep (kN λa h=>h) hm
   ·exact Rp.keep (kN λa h=>h.1) hm
   ·cases n
   ·let⟨p,rfl,h1,h2,c⟩:=hm;let⟨o,eo,_⟩:=c.some;exact⟨p,rfl,h1,h2,c.keep (kN λa h=>h.1) ((kp p o (np p rfl hz) eo).trans eo.symm)⟩
   ·let⟨p,rfl,h1,c⟩:=hm;let⟨o,eo,_⟩:=c.some;exact⟨p,rfl,h1,c.keep (kN λa h=>h.1) ((kp p o (np p rfl hz) eo).trans eo.symm)⟩
   ·cases n
   ·let⟨p',qs,aQ,rfl,e2,h1,h2,h3,h4,h5,h6⟩:=hm;have nb:=QG q hz h3;exact⟨p',qs,aQ,rfl,e2,h1,h2,kp _ _ (λz=>(nb _ z).1 rfl) h3,h4,h5,kR (λx ds hx ⟨xs,a,r⟩=>⟨xs,kp _ _ (λz=>(nb _ z).2 (bQ.mpr ⟨x,hx,rfl⟩)) a,r.keep (kN λa h=>h.1)⟩) h6⟩
   ·cases n
  ·let⟨v,hv,n,hm⟩:=R.e.at q;rw[hz]at hp hv;cases hp;cases hv;refine⟨n,_,rfl,?_⟩;simp only at c ow;cases m<;>simp only[own]at ow<;>try (cases ow;done)
   ·let⟨p',e,h1,h2,_⟩:=hm;cases e;exact⟨p,rfl,h1,h2,c⟩
   ·let⟨p',e,h1,_⟩:=hm;cases e;exact⟨p,rfl,h1,c⟩
 ·intro a ha;by_cases z:P a
  ·let⟨o,e,_⟩:=cs a z;exact⟨o,e⟩
  ·let⟨o,e⟩:=R.e.od a ha;exact⟨o,kp a o z e⟩
 ·intro a o h;let⟨o',e⟩:=R.e.hd a o h;by_cases z:P a
  ·let⟨o,e,_⟩:=cs a z;exact⟨o,e⟩
  ·exact⟨o',kp a o' z e⟩
 ·intro a o ha e;by_cases z:P a
  ·let⟨o',e',n⟩:=cs a z;rw[e]at e';cases e';exact n
  ·let⟨o',e'⟩:=R.e.od a ha;have:=kp a o' z e';rw[e]at this;cases this;exact R.e.on a _ ha e'
 ·intro a o n h;refine kp a o (λz=>?_) (R.fr a o n h);rcases R.ow a (hP a z) with⟨i,q⟩|q
  ·exact n i q
  ·rw[h]at q;cases q
 ·intro i d p h1 p1;let⟨d0,q⟩:=old h1;exact R.ba i d0 p q p1
 ·intro i j x y p h1 h2 o1 o2 p1 p2;let⟨d1,q1⟩:=old h1;let⟨d2,q2⟩:=old h2;exact R.dj i j _ _ p q1 q2 o1 o2 p1 p2
 ·refine⟨λi j d d' h1 h2=>R.nd.1 i j d d' (vU h1) (vU h2),λi j d x p q xs h1 p1 h2 o2 p2 e=>?_⟩;let⟨qs,aQ,_,_,_,e3,_⟩:=R.e.nest (vU h1) p1;have nb:=QG (vU h1) p1 e3;have e4:=kp _ _ (λz=>(nb _ z).1 rfl) e3;rw[e4]at e;cases e;let⟨d2,q2⟩:=old h2;exact R.nd.2 i j d (x.1,d2) p q _ (vU h1) p1 q2 o2 p2 e3
 ·intro a o h n;exact⟨kp a o (λz=>n (hP a z)) h,n⟩
def kh(K:PySem.W.Frag)(ta:TA)(fs:Qqz)(pos:List (Nat×Nat)):Prop :=
 ∀H₀ O H σ env Q ay,eW K H₀ O H σ env→fs env=some ay→(∀vs H',aG H H'→gE K H₀ O H H' ay vs→(∀ij∈pos,∃v x,vs[ij.1]?=some v∧σ[ij.2]?=some (some v)∧env[ij.2]?=some (some x)∧ay[ij.1]?=some x)→Q vs H')→ta σ H Q
def Xx:kh K lY ai []:=by
 intro H₀ O H σ env Q ay R h q;cases h;exact q [] H (aG.refl H) .nil (λ_ z=>nomatch z)
abbrev Ar(pos:List (Nat×Nat)):List (Nat×Nat):=pos.map λij=>(ij.1+1,ij.2)
def VL{te:TE}{ta:TA}{f:Qqj}{g:Qqz}{pos:List (Nat×Nat)}(hf:JT K te f)(hg:kh K ta g pos):kh K (mZ te ta) (ag f g) (Ar pos):=by
 intro H₀ O H σ env Q ay R h q;let⟨x,ex,h⟩:=av h;let⟨r,er,h⟩:=av h;cases h;refine hf H₀ O H σ env _ x.1 x.2 R ex λv H1 s1 h1=>?_;refine hg H₀ O H1 σ env _ r (R.keep s1) er λvs H2 s2 h2 hp=>?_;refine q (v::vs) H2 (s1.trans s2) (.cons (h1.keep s2) (m7 (λ_ _ z=>z.hb λa z=>s1.free z) h2)) (λij p8=>?_);let⟨Gf,hm,rfl⟩:=bQ.mp p8;let⟨w,y,a,b,c,d⟩:=hp Gf hm;exact⟨w,y,by simpa using a,b,c,by simpa using d⟩
def Xy{i:Nat}{ta:TA}{g:Qqz}{pos:List (Nat×Nat)}(hg:kh K ta g pos):kh K (mZ (ik i) ta) (ag (jV i) g) ((0,i)::Ar pos):=by
 intro H₀ O H σ env Q ay R h q;let⟨x,ex,h⟩:=av h;let⟨r,er,h⟩:=av h;cases h;have ei:env[i]?=some (some x):=by
  unfold jV at ex;cases e:env[i]? with
  |none=>rw[e]at ex;cases ex
  |some z=>rw[e]at ex;exact dD some ex
 let⟨v,hv,n,hm⟩:=R.at ei;refine⟨v,hv,?_⟩;refine hg H₀ O H σ env _ r R er λvs H2 s2 h2 hp=>?_;refine q (v::vs) H2 s2 (.cons ((hm.NC n).keep s2) h2) (λij p8=>?_);rcases dQ.mp p8 with rfl|p8
 ·exact⟨v,x,rfl,hv,ei,rfl⟩
 ·let⟨Gf,hm,rfl⟩:=bQ.mp p8;let⟨w,y,a,b,c,d⟩:=hp Gf hm;exact⟨w,y,by simpa using a,b,c,by simpa using d⟩
abbrev lT:List Nat→Qzz→Ev→Option Ev
 |[],[],e=>some e
 |j::sl,o::outs,e=>match e[j]? with
  |some (some (m,_))=>lT sl outs (e.set j (some (m,o)))
  |_=>none
 |_,_,_=>none
end
section
variable {K:PySem.W.Frag}{H H' H₀:Hp}{I:Nat→Option Addr}{O O':Addr→Prop}{σ:L2.St}{env:Ev}
theorem gE.at{Hb:Hp}:∀{ay:List (M×D)}{vs:List V}{i:Nat}{x:M×D},gE K H₀ O Hb H ay vs→ay[i]?=some x→∃v,vs[i]?=some v∧Val K H₀ O Hb H x.1 x.2 v
 |_,_,_,_,.nil,e=>by simp at e
 |_,_,0,_,.cons h _,e=>by simp at e;subst e;exact⟨_,rfl,h⟩
 |_,_,i+1,x,.cons _ r,e=>by
  let⟨v,h1,h2⟩:=gE.at (i:=i) (x:=x) r (by simpa using e);exact⟨v,by simpa using h1,h2⟩
theorem tO{α:Type}:∀{l:List α}{i j:Nat}{a:α},l.Nodup→l[i]?=some a→l[j]?=some a→i=j
 |[],_,_,_,_,h,_=>by simp at h
 |x::l,0,0,_,_,_,_=>rfl
 |x::l,0,j+1,a,nd,h1,h2=>by
  simp at h1;subst h1;exact absurd (dH (show l[j]?=some x by simpa using h2)) (jZ.mp nd).1
 |x::l,i+1,0,a,nd,h1,h2=>by
  simp at h2;subst h2;exact absurd (dH (show l[i]?=some x by simpa using h1)) (jZ.mp nd).1
 |x::l,i+1,j+1,a,nd,h1,h2=>by
  rw[tO (jZ.mp nd).2 (show l[i]?=some a by simpa using h1) (by simpa using h2)]
theorem Je:∀{sl:List Nat}{outs:Qzz}{e e':Ev},lT sl outs e=some e'→e'.length=e.length∧outs.length=sl.length
 |[],[],_,_,h=>by cases h;exact⟨rfl,rfl⟩
 |[],_::_,_,_,h=>by cases h
 |_::_,[],_,_,h=>by cases h
 |j::sl,o::outs,e,e',h=>by
  simp only[lT]at h;split at h
  ·have:=Je h;rw[fZ]at this;exact⟨this.1,by rw[f6,f6,this.2]⟩
  ·cases h
theorem Cq:∀{sl:List Nat}{outs:Qzz}{e e':Ev}{i:Nat},lT sl outs e=some e'→i∉sl→e'[i]?=e[i]?
 |[],[],_,_,_,h,_=>by cases h;rfl
 |[],_::_,_,_,_,h,_=>by cases h
 |_::_,[],_,_,_,h,_=>by cases h
 |j::sl,o::outs,e,e',i,h,hn=>by
  simp only[lT]at h;split at h
  ·rw[Cq h (λz=>hn (cT _ z)),dY (λz=>hn (by rw[z];exact cg))]
  ·cases h
set_option tactic.hygienic true in
theorem JM:∀{sl:List Nat}{outs:Qzz}{e e':Ev}{k j:Nat},lT sl outs e=some e'→sl.Nodup→sl[k]?=some j→∃m d o,e[j]?=some (some (m,d))∧outs[k]?=some o∧e'[j]?=some (some (m,o))
 |[],_,_,_,_,_,_,_,h1=>by simp at h1
 |_::_,[],_,_,_,_,h,_,_=>by cases h
 |i::sl,o::outs,e,e',k,j,h,nd,h1=>by
  simp only[lT]at h;split at h
  ·rename_i m d hd;let⟨n1,n2⟩:=jZ.mp nd;cases k with
   |zero =>
    simp at h1;subst h1;refine⟨m,d,o,hd,rfl,?_⟩;rw[Cq h n1];have hi:i<e.length:=(bp.mp hd).1;rw[List.getElem?_set_self hi]
   |succ k =>
    have QH:sl[k]?=some j:=by simpa using h1
    let⟨m',d',o',a,b,c⟩:=JM h n2 QH;have hj:i≠j:=λz=>n1 (z▸dH QH);rw[dY hj]at a;exact⟨m',d',o',a,by simpa using b,c⟩
  ·cases h
structure OD (io sl:List Nat)(pos:List (Nat×Nat))(ay:List (M×D)):Prop where
 c1:∀(k i:Nat),io[k]?=some i→∃j,sl[k]?=some j∧(i,j)∈pos
 c2:sl.Nodup
 c3:∀(i:Nat) x,i∉io→ay[i]?=some x→hU x.1 x.2=true∨(own x.1=true∧∃j,(i,j)∈pos∧j∉sl)
 c4:∀(i:Nat) x,i∈io→ay[i]?=some x→own x.1=true∧gd x.2=true
 c5:sl.length=io.length
def jz(io sl:List Nat)(pos:List (Nat×Nat))(ay:List (M×D)):Bool :=
 decide (sl.length=io.length)&&decide sl.Nodup&&(List.range io.length).all (λk=>match io[k]?,sl[k]? with|some i,some j=>decide ((i,j)∈pos)|_,_=>false) &&
 (List.range ay.length).all (λi=>match ay[i]? with
  |some x=>if i∈io then own x.1&&gd x.2 else hU x.1 x.2||(own x.1&&pos.any λij=>decide (ij.1=i)&&!decide (ij.2∈sl))
  |none=>true)
def Ms{io sl:List Nat}{pos:List (Nat×Nat)}{ay:List (M×D)}(h:jz io sl pos ay=true):OD io sl pos ay:=by
 unfold jz at h;simp only[Bool.and_eq_true,decide_eq_true_eq,List.all_eq_true,List.mem_range]at h;let⟨⟨⟨h1,h2⟩,h3⟩,h4⟩:=h;refine⟨λk i hk=>?_,h2,λi x hi hx=>?_,λi x hi hx=>?_,h1⟩
 ·have aX:k<io.length:=(bp.mp hk).1;have q:=h3 k aX;rw[hk]at q;cases e:sl[k]? with
  |none=>rw[e]at q;cases q
  |some j=>rw[e]at q;exact⟨j,rfl,by simpa using q⟩
 ·have aX:i<ay.length:=(bp.mp hx).1;have q:=h4 i aX;rw[hx]at q;simp only[if_neg hi,Bool.or_eq_true,Bool.and_eq_true,List.any_eq_true]at q;rcases q with q|⟨q,ij,hm,z⟩
  ·exact .inl q
  ·refine .inr ⟨q,ij.2,?_,by simpa using z.2⟩;have e:ij.1=i:=by simpa using z.1
   rw[←e];exact hm
 ·have aX:i<ay.length:=(bp.mp hx).1;have q:=h4 i aX;rw[hx]at q;simpa only[if_pos hi,Bool.and_eq_true]using q
def KS{io sl:List Nat}{pos:List (Nat×Nat)}{ay:List (M×D)}{vs:List V}{H1:Hp}(R:Rel K H₀ I O H σ env)(R1:Rel K H₀ I O H1 σ env)(ok:OD io sl pos ay)(hv:gE K H₀ O H H1 ay vs)
  (hp:∀ij∈pos,∃v x,vs[ij.1]?=some v∧σ[ij.2]?=some (some v)∧env[ij.2]?=some (some x)∧ay[ij.1]?=some x) :
  (∀{i j:Nat},(i,j)∈pos→∀{x:M×D},ay[i]?=some x→own x.1=true→∃p:Addr,vs[i]?=some (V.ref p)∧σ[j]?=some (some (V.ref p))∧env[j]?=some (some x)∧O p∧Cell K (λa=>¬O a∧H₀ a=none) H1 p x.2) ∧
  (∀{i:Nat}{p:Addr},i∈io→vs[i]?=some (V.ref p)→∃(k j:Nat) (x:M×D),io[k]?=some i∧sl[k]?=some j∧ay[i]?=some x∧σ[j]?=some (some (V.ref p))∧env[j]?=some (some x)∧own x.1=true∧O p∧Cell K (λa=>¬O a∧H₀ a=none) H1 p x.2∧gd x.2=true) ∧
  (∀a,hV io vs a→O a)∧uk K H1 io vs (ay.map (·.2)):=by
 have hlen:ay.length=vs.length:=cE hv;have at_:∀{i:Nat}{x:M×D},ay[i]?=some x→∃v,vs[i]?=some v∧Val K H₀ O H H1 x.1 x.2 v:=λ{i x} hx=>gE.at hv hx;have ph:∀{i j:Nat},(i,j)∈pos→∀{x:M×D},ay[i]?=some x→own x.1=true→∃p:Addr,vs[i]?=some (V.ref p)∧σ[j]?=some (some (V.ref p))∧env[j]?=some (some x)∧O p∧Cell K (λa=>¬O a∧H₀ a=none) H1 p x.2:=λ{i j} p8 {x} hx ox=>by
  let⟨v,x',a,b,c,z⟩:=hp (i,j) p8;simp only at a b c z;rw[hx]at z;cases z;let⟨w,hw,_,hm⟩:=R1.e.at (i:=j) (m:=x.1) (d:=x.2) c;rw[b]at hw;cases hw;let⟨mx,dx⟩:=x;cases mx<;>simp only[own]at ox<;>try (cases ox;done)
  ·let⟨p,rfl,h1,h2,cc⟩:=hm;exact⟨p,a,b,c,h1,cc⟩
  ·let⟨p,rfl,h1,cc⟩:=hm;exact⟨p,a,b,c,h1,cc⟩
 have jR:∀{i:Nat}{p:Addr},i∈io→vs[i]?=some (V.ref p)→∃(k j:Nat) (x:M×D),io[k]?=some i∧sl[k]?=some j∧ay[i]?=some x∧σ[j]?=some (some (V.ref p))∧env[j]?=some (some x)∧own x.1=true∧O p∧Cell K (λa=>¬O a∧H₀ a=none) H1 p x.2∧gd x.2=true:=λ{i p} hi iW=>by
  let⟨k,hk⟩:=List.getElem?_of_mem hi;let⟨j,hj,mh⟩:=ok.c1 k i hk;have aX:i<ay.length:=by rw[hlen];exact(bp.mp iW).1
  have hx:ay[i]?=some ay[i]:=du aX;let⟨ox,cx⟩:=ok.c4 i _ hi hx;let⟨p',a,b,c,h1,cc⟩:=ph mh hx ox;rw[iW]at a;cases a;exact⟨k,j,_,hk,hj,hx,b,c,ox,h1,cc,cx⟩
 have sub:∀a,hV io vs a→O a:=λa ⟨i,hi,iW⟩=>by
  let⟨_,_,_,_,_,_,_,_,_,h1,_⟩:=jR hi iW;exact h1
 have A:uk K H1 io vs (ay.map (·.2)):=by
  refine⟨by rw[dZ,hlen],λi v d hi iW hd=>?_,λi d hi hd=>?_,λi j p hi hj h1 h2=>?_⟩
  ·rw[cF]at hd;cases hx:ay[i]? with
   |none=>rw[hx]at hd;cases hd
   |some x =>
    rw[hx]at hd;cases hd;let⟨v',iE,ED⟩:=at_ hx;rw[iW]at iE;cases iE;rcases ok.c3 i x hi hx with z|⟨z,j,hj,nj⟩
    ·exact(ED.hU z).wk λa h _=>λw=>h (sub a w)
    ·let⟨p,a,b,c,h1,cc⟩:=ph hj hx z;rw[iW]at a;cases a;refine(cc.wk λa h _=>(λw=>h.1 (sub a w):¬hV io vs a)).rp (λ⟨i2,Gg,Gh⟩=>?_);let⟨k,j2,x2,_,Gi,_,s2,e2,o2,_⟩:=jR Gg Gh;have:=R.dj j j2 x x2 p c e2 z o2 b s2;exact nj (this▸dH Gi)
  ·rw[cF]at hd;cases hx:ay[i]? with
   |none=>rw[hx]at hd;cases hd
   |some x =>
    rw[hx]at hd;cases hd;let⟨k,hk⟩:=List.getElem?_of_mem hi;let⟨j,hj,mh⟩:=ok.c1 k i hk;let⟨ox,cx⟩:=ok.c4 i _ hi hx;let⟨p',a,b,c,h1,cc⟩:=ph mh hx ox;exact⟨p',a,cc.im cx⟩
  ·let⟨k1,j1,x1,k1e,j1e,_,s1',e1',o1,_⟩:=jR hi h1;let⟨k2,j2,x2,QI,j2e,_,s2',e2',o2,_⟩:=jR hj h2;have ej:=R.dj j1 j2 x1 x2 p e1' e2' o1 o2 s1' s2';subst ej;have ek:k1=k2:=tO ok.c2 j1e j2e;subst ek;rw[k1e]at QI;exact dP QI
 exact⟨ph,jR,sub,A⟩
def CQ(io sl:List Nat)(pos:List (Nat×Nat))(F:Qzz→Option (M×D×Qzz))(fs:Qqz):Ev→Option (M×D×Ev):=λe=>(fs e).bind λay=>if jz io sl pos ay=true then (F (ay.map (·.2))).bind λr=>(lT sl r.2.2 e).bind λe'=>some (r.1,r.2.1,e')else none
def Z5{n:Nat}{io sl:List Nat}{pos:List (Nat×Nat)}{F:Qzz→Option (M×D×Qzz)}{fs:Qqz}{ta:TA}{E:XK}{m:M}{d:D}{e':Ev}{Q:VK}(R:Rel K H₀ I O H σ env)(ha:kh K ta fs pos)(hl:∀e ay,fs e=some ay→ay.length=n)
  (h:CQ io sl pos F fs env=some (m,d,e')) (q:∀v H',Rel K H₀ I O H' σ e'→aO O H O H'→(m=.un∨m=.fr∨m=.ut)→Rp K (λa=>¬O a∧H₀ a=none) H' v d→Q v H'):m3 (uX K n io F) [] E ta σ H Q:=by
 let⟨ay,em,h⟩:=av h;split at h
 ·rename_i hb;have ok:=Ms hb;let⟨⟨m1,d1,outs⟩,eF,h⟩:=av h;let⟨e1,es,h⟩:=av h;cases h;refine ha H₀ O H σ env _ ay R.e em λvs H1 s1 hv hp=>?_;have R1:=R.keep s1;have hlen:ay.length=vs.length:=cE hv;let⟨ph,jR,sub,A⟩:=KS R R1 ok hv hp;rw[rJ];refine⟨by rw[←hlen];exact hl _ _ em,ay.map (·.2),m1,d1,outs,A,eF,λv H2 kp ol oc ro=>?_⟩;let⟨el,eo⟩:=Je es;have cs:∀a,hV io vs a→∃o,H2 a=some o∧¬hJ o:=λa ⟨i,hi,iW⟩=>by
   let⟨k,hk⟩:=List.getElem?_of_mem hi;have hko:k<outs.length:=by rw[ol];exact(bp.mp hk).1
   let⟨p,Ak,c⟩:=oc k i _ hk (du hko);rw[iW]at Ak;cases Ak;exact c.some
  let⟨R2,st⟩:=R1.adl (P:=hV io vs) (env':=e') sub (λa ⟨i,hi,iW⟩=>by
   let⟨k3,j3,x3,_,_,_,s3,e3,o3,_⟩:=jR hi iW;exact⟨j3,x3,e3,o3,s3⟩) kp cs el (λj x' mM=>by
   by_cases hj:j∈sl
   ·let⟨k,hk⟩:=List.getElem?_of_mem hj;let⟨m0,d0,o0,a,b,c⟩:=JM es ok.c2 hk;rw[mM]at c;cases c;have QJ:k<io.length:=by rw[←ok.c5];exact(bp.mp hk).1
    have vV:io[k]?=some io[k]:=du QJ;let⟨j',sk,mh⟩:=ok.c1 k _ vV;rw[hk]at sk;cases sk;let⟨p,Gj,cell⟩:=oc k _ _ vV b;have NS:io[k]∈io:=rN QJ;let⟨k3,j3,x3,k3e,j3e,_,s3,e3,o3,_⟩:=jR NS Gj;have aX:io[k]<ay.length:=by rw[hlen];exact(bp.mp Gj).1
    have hx:ay[io[k]]?=some ay[io[k]]:=du aX;let⟨ox,_⟩:=ok.c4 _ _ NS hx;let⟨p',a',b',c',_⟩:=ph mh hx ox;rw[Gj]at a';cases a';rw[a]at c';have c'':=dP (dP c');refine .inr ⟨d0,p,a,?_,b',cell.wk λ_ z _=>z.elim⟩;rw[←c'']at ox;exact ox
   ·rw[Cq es hj]at mM;refine .inl ⟨mM,λp ow hs ⟨i2,Gg,Gh⟩=>?_⟩;let⟨k,j2,x2,_,Gi,_,s2,e2,o2,_⟩:=jR Gg Gh;have:=R.dj j j2 x' x2 p mM e2 ow o2 hs s2;exact hj (this▸dH Gi))
  have mm:m1=.un∨m1=.fr∨m1=.ut:=by cases m1<;>first|exact .inl rfl|exact .inr (.inl rfl)|exact .inr (.inr rfl)|exact ro.elim
  have ED:=KN (H₀:=H₀) R1.e.od R1.e.hd ro;exact q v H2 R2 ((aO.same s1).trans st) mm (ED.c9 (by rcases mm with rfl|rfl|rfl<;>rfl))
 ·cases h
def yp(i:Nat)(io sl:List Nat)(pos:List (Nat×Nat))(F:Qzz→Option (M×D×Qzz))(fs:Qqz):Qqq:=λe=>(CQ io sl pos F fs e).bind λr=>some (.nx (r.2.2.set i (some (.fr,r.2.1))))
def VM{i n:Nat}{io sl:List Nat}{pos:List (Nat×Nat)}{F:Qzz→Option (M×D×Qzz)}{fs:Qqz}{ta:TA}{E:XK}(ha:kh K ta fs pos)(hl:∀e ay,fs e=some ay→ay.length=n):JS K (il (m3 (uX K n io F) [] E ta) (gO i)) (yp i io sl pos F fs):=by
 intro H₀ I O H σ env Ds fl R e q;let⟨⟨m,d,e'⟩,er,e⟩:=av e;cases e;exact Z5 R ha hl er λv H' R' st _ hv=>q O H' _ (R'.set_plain (i:=i) (m:=.fr) rfl rfl hv) st
end
mutual
abbrev toPy:D→PyData
 |.non=>.none
 |.bl b=>.bool b
 |.int i=>.int i
 |.str x=>.str x
 |.tup ds=>.tuple (cX ds)
 |.lst ds=>.list (cX ds)
 |.ty _=>.none
 |.dk _=>.none
 |.dt _=>.none
abbrev cX:Qzz→List PyData
 |[]=>[]
 |d::ds=>toPy d::cX ds
end
mutual
abbrev plain:D→Bool
 |.tup ds=>fF ds
 |.lst ds=>fF ds
 |.ty _=>false
 |.dk _=>false
 |.dt _=>false
 |.non=>true
 |.bl _=>true
 |.int _=>true
 |.str _=>true
abbrev fF:Qzz→Bool
 |[]=>true
 |d::ds=>plain d&&fF ds
end
section
variable {K:PySem.W.Frag}{H H' H₀:Hp}{O O':Addr→Prop}{σ:L2.St}{env:Ev}
def qT{N:Addr→Prop}{v:V}{d:D}(e:plain d=true)(h:Rp K N H v d):Dn K H v (toPy d):=Rp.rec (motive_1:=λv d _=>plain d=true→Dn K H v (toPy d)) (motive_2:=λvs ds _=>fF ds=true→bS K H vs (cX ds)) (λ_=>.non) (λb _=>.bl b) (λi _=>.int i) (λx _=>.str x) (λ_ e=>by cases e) (λh _ r e=>.tup h (r e)) (λh _ _ r e=>.lst (.inl h) (r e)) (λh _ r e=>.lst (.inr h) (r e)) (λ_ _ _ _ _ e=>by cases e) (λ_ _ _ _ _ e=>by cases e) (λ_=>.nil) (λ_ _ h r e=>.cons (h (Bool.and_eq_true_iff.mp e).1) (r (Bool.and_eq_true_iff.mp e).2)) h e
def KW{N:Addr→Prop}{vs:List V}{ds:Qzz}(e:fF ds=true)(h:aB K N H vs ds):bS K H vs (cX ds):=aB.rec (motive_1:=λv d _=>plain d=true→Dn K H v (toPy d)) (motive_2:=λvs ds _=>fF ds=true→bS K H vs (cX ds)) (λ_=>.non) (λb _=>.bl b) (λi _=>.int i) (λx _=>.str x) (λ_ e=>by cases e) (λh _ r e=>.tup h (r e)) (λh _ _ r e=>.lst (.inl h) (r e)) (λh _ r e=>.lst (.inr h) (r e)) (λ_ _ _ _ _ e=>by cases e) (λ_ _ _ _ _ e=>by cases e) (λ_=>.nil) (λ_ _ h r e=>.cons (h (Bool.and_eq_true_iff.mp e).1) (r (Bool.and_eq_true_iff.mp e).2)) h e
abbrev oN:D→D→Bool
 |.lst _,.lst _=>true
 |.tup _,.tup _=>true
 |.non,.non=>true
 |_,_=>false
def KY{a b:D}(h:oN a b=true):oU (toPy a) (toPy b):=by
 cases a<;>try (cases h;done)
 all_goals cases b<;>try (cases h;done)
 ·simp only[toPy];exact .non
 ·simp only[toPy];exact .tup _ _
 ·simp only[toPy];exact .lst _ _
def jS(a b:D):Bool:=plain a&&plain b&&oN a b&&decide (min (toPy a).depth (toPy b).depth≤60)
def gF:M×D→M×D→Qzq:=λa b=>if jS a.2 b.2=true then some (.fr,.bl (PyData.eqv (toPy a.2) (toPy b.2)))else none
def ip:M×D→M×D→Qzq:=λa b=>if jS a.2 b.2=true then some (.fr,.bl (!PyData.eqv (toPy a.2) (toPy b.2)))else none
def JN{a b:D}(h:jS a b=true):plain a=true∧plain b=true∧oN a b=true∧min (toPy a).depth (toPy b).depth≤60:=by
 unfold jS at h;simp only[Bool.and_eq_true,decide_eq_true_eq]at h;exact⟨h.1.1.1,h.1.1.2,h.1.2,h.2⟩
def Mt:JR K (zl K) gF:=by
 intro H₀ O H x y a b Q m d _ _ h1 h2 h q;unfold gF at h;split at h
 ·rename_i ok;cases h;let⟨p1,p2,l,dp⟩:=JN ok;exact⟨_,_,qT p1 h1.weak,qT p2 h2.weak,KY l,dp,q _ H (aG.refl H) fG⟩
 ·cases h
def Z6:JR K (Eo K) ip:=by
 intro H₀ O H x y a b Q m d _ _ h1 h2 h q;unfold ip at h;split at h
 ·rename_i ok;cases h;let⟨p1,p2,l,dp⟩:=JN ok;exact⟨_,_,qT p1 h1.weak,qT p2 h2.weak,KY l,dp,q _ H (aG.refl H) fG⟩
 ·cases h
def Z7{X:Cx}(h:X.K=K)(hu:X.A.units+64<cLine):bM X (compareOp .Eq) (zl K):=by subst h;exact Mg hu
def Z8{X:Cx}(h:X.K=K)(hu:X.A.units+64<cLine):bM X (compareOp .NotEq) (Eo K):=by subst h;exact Zi hu
def pj(neg:Bool):M×D→M×D→Qzq
 | (_,d),(_,.lst ds)=>if plain d=true∧fF ds=true∧(toPy d).depth≤50 then some (.fr,.bl (if neg then !((cX ds).any λe=>PyData.eqv e (toPy d))else (cX ds).any λe=>PyData.eqv e (toPy d)))else none
 | (_,d),(_,.tup ds)=>if plain d=true∧fF ds=true∧(toPy d).depth≤50 then some (.fr,.bl (if neg then !((cX ds).any λe=>PyData.eqv e (toPy d))else (cX ds).any λe=>PyData.eqv e (toPy d)))else none
 |_,_=>none
def Z9{neg:Bool}:JR K (Ep K neg) (pj neg):=by
 intro H₀ O H x y a b Q m d _ _ h1 h2 h q;let⟨ma,da⟩:=a;let⟨mb,db⟩:=b;cases db<;>simp only[pj]at h<;>try (cases h;done)
 ·split at h
  ·rename_i ok;cases h;let⟨p,xs,rfl,hs,r⟩:=h2.tup;exact⟨p,xs,_,_,rfl,.inr hs,KW ok.2.1 r,qT ok.1 h1.weak,ok.2.2,q _ H (aG.refl H) fG⟩
  ·cases h
 ·split at h
  ·rename_i ok;cases h;let⟨p,xs,rfl,hs,r⟩:=h2.lst;exact⟨p,xs,_,_,rfl,.inl hs,KW ok.2.1 r,qT ok.1 h1.weak,ok.2.2,q _ H (aG.refl H) fG⟩
  ·cases h
def Ub{X:Cx}(h:X.K=K)(hu:X.A.units+64<cLine):bM X (compareOp .NotIn) (Ep K true):=by subst h;exact UA hu
def aac{n:Nat}{gs:iT}{fs:M→Qzz→Ev→Option Ev}(hs:sj K gs fs):JG K (Ow K n gs) (gL n fs):=by
 intro H₀ I O H σ env x v env' Q R hm hv e q;let⟨m,d⟩:=x;cases d<;>simp only[gL]at e<;>try (cases e;done)
 split at e
 ·rename_i hl;let⟨a,xs,rfl,mN,r⟩:=hv.lst;exact⟨a,xs,rfl,mN,by rw[r.len];exact hl,hs H₀ I O H σ env (aY m) _ xs env' Q R (by cases m<;>first|rfl|cases hm) r e q⟩
 ·cases e
def Xz{X:Cx}{tg l:Expr}{tl:TE}(h:X.K=K)(hl:PE X l tl):PI X tg l (D8 K tl):=by subst h;exact YN hl
def Ti{X:Cx}(h:X.K=K):iJ X (.type "list") (λxs H Q=>∃p ys,xs=[.ref p]∧(b0 K H p ys∨bC K H p ys)∧∀l,H l=none→Q (.ref l) (upd H l (.lst ys))):=by subst h;exact Tp
end
def iH{xs:Qzz}(h:xs.length≤1000):i6 (xs.map λx=>(M.fr,x))=some (.un,.lst xs):=by
 unfold i6;rw[if_pos (by rw[dZ];exact dC h (by decide)),if_pos (by rw[List.all_map];exact lu.mpr λ_ _=>rfl),gw];congr 3;exact List.map_id xs
def One(d:D):Prop:=∃c:Nat,d=.str ⟨#[c]⟩
def CT{m n:M}{x:Str}{i:Int}(hs:x.length≤sizeLine)(h0:0≤i)(h1:i<x.cps.toList.length):∃d,au (m,.str x) (n,.int i)=some (.fr,d)∧One d:=by
 rw[abI hs,iZ h0 h1];exact⟨_,rfl,_,rfl⟩
noncomputable abbrev Ko:=Sum Int Str
abbrev kD:Ko→D
 |.inl i=>.int i
 |.inr x=>.str x
def qG(k:Ko):(kD k).cq=true:=by cases k<;>simp only[kD,D.cq]
inductive Row where
 |rk (x s:Str) (a b:Ko)|cp (x:Str) (a:Ko)|sy (a:Ko)|go (t:Int)|pt (a:Ko) (t:Int)|en
abbrev Row.ds:Row→Qzz
 |.rk x s a b=>[.str "reckon",.str x,.str s,kD a,kD b]
 |.cp x a=>[.str "copy",.str x,kD a]
 |.sy a=>[.str "say",kD a]
 |.go t=>[.str "go",.int t]
 |.pt a t=>[.str "part",kD a,.int t]
 |.en=>[.str "end"]
abbrev Row.d(r:Row):D:=.tup r.ds
theorem Row.cq(r:Row):r.d.cq=true:=by cases r<;>simp only[Row.d,Row.ds,D.cq,D.cI,qG,Bool.and_self]
theorem oB:∀rs:List Row,D.cI (rs.map Row.d)=true
 |[]=>by simp only[List.map_nil,D.cI]
 |r::rs=>by simp only[List.map_cons,D.cI,Row.cq,oB rs,Bool.and_self]
abbrev Row.word:Row→Str
 |.rk _ _ _ _ => "reckon"
 |.cp _ _ => "copy"
 |.sy _ => "say"
 |.go _ => "go"
 |.pt _ _ => "part"
 |.en => "end"
def Row.at0(r:Row):L2.bz r.ds 0=some (.str r.word):=by cases r<;>rfl
def VN{ns:List Str}{k:Int}(h0:0≤k)(h1:k<ns.length):∃c,L2.bz (ns.map D.str) k=some (.str c):=by
 rw[iZ h0 (by simpa using h1)];exact⟨ns[k.toNat]'(by omega),by simp⟩
def VP{rs:List Row}{k:Int}(h0:0≤k)(h1:k<rs.length):L2.bz (rs.map Row.d) k=some (rs[k.toNat]'(by omega)).d:=by
 rw[iZ h0 (by simpa using h1)];simp
section
variable {K:PySem.W.Frag}{H H' H₀:Hp}{O:Addr→Prop}{σ:L2.St}{env:Ev}
abbrev ur:Qqj:=λ_=>some (.un,.dk [])
def VQ:JT K L7 ur:=by
 intro H₀ O H σ env Q m d R h q;cases h;intro p hp;refine q _ _ (cW hp) ⟨p,rfl,hp,kC R.hd hp,iG R.od hp,[],bN,rfl,.nil⟩
def aad{a:Addr}{xs:List V}{ds:Qzz}(w:∀H:Hp,bC K H a xs)(r:∀(N:Addr→Prop) (H:Hp),aB K N H xs ds):JT K (tC (.ref a)) (jC (.tup ds)):=by
 intro H₀ O H σ env Q m d' R h q;cases h;exact q _ H (aG.refl H) (Rp.tup (w H) (r _ H))
theorem Io{N:Addr→Prop}:∀(ys:List Str),aB K N H (ys.map V.str) (ys.map D.str)
 |[]=>.nil
 |y::ys=>.cons (.str y) (Io ys)
end
def XA{u:Value}{y:Str}(h:qX u=some (V.str y)):RelV (.str y) u:=by
 cases u<;>simp only[qX]at h<;>cases h;exact⟨_,rfl⟩
theorem JQ:∀{us:List Value}{ys:List Str},us.map qX=ys.map (λy=>some (V.str y))→Vals (ys.map V.str) us
 |[],[],_=>.nil
 |[],_::_,h=>by cases h
 |_::_,[],h=>by cases h
 |u::us,y::ys,h=>by
  rw[cY,cY]at h;exact .cons (XA (z6 h).1) (JQ (z6 h).2)
def XB {K:PySem.W.Frag}{a:Addr}{its:Array Value}{n:Nat}{sl:Array (Option Value)}{ys:List Str} (l:K.lookup a=some ⟨.type "tuple",none,.seq its n,sl⟩) (v:its.toList.map qX=ys.map (λy=>some (V.str y))) (hz:4≤ys.length∧ys.length≤1000) (H:Hp):bC K H a (ys.map V.str):=by
 have r:=JQ v;have e:=r.length;simp only[List.length_map,Array.length_toList]at e;exact .inr ⟨_,its,n,l,rfl,rfl,rfl,dC (by omega) (show 1000≤sizeLine by decide),by omega,r⟩
section
variable {K:PySem.W.Frag}{H H₀:Hp}{O:Addr→Prop}
abbrev vW(z:Str):Qzz:=z.cps.toList.map λc=>.str ⟨#[c]⟩
def VR{z:Str}:k9 K H₀ O (Al z) H .fr (vW z):=by
 have l:(vW z).length=z.cps.size:=by simp[vW]
 refine⟨λO2 H2 i s hi=>by rw[l]at hi;exact hi,λO2 H2 i x H3 s hi y=>?_,λO2 H2 s=>by rw[l];exact aU z.cps.size⟩;let⟨rfl,c,hc,rfl⟩:=y;refine⟨aG.refl _,.str ⟨#[c]⟩,?_,Rp.str _⟩;unfold vW;rw[cF,nR,hc];rfl
def Gk(f:Qqj):Ev→Option (M×Qzz):=λe=>(f e).bind λx=>match x.2 with
 |.str z=>some (.fr,vW z)
 |_=>none
def aae{t:TE}{f:Qqj}(h:JT K t f):JI K (Ox t) (Gk f):=by
 intro H₀ O H σ env R m ds Re e q;let⟨⟨m0,d0⟩,ex,e⟩:=av e;cases d0<;>simp only at e<;>try (cases e;done)
 cases e;refine h H₀ O H σ env _ _ _ Re ex λv H1 s1 h1=>?_;exact⟨_,h1.str,q _ H1 s1 rfl VR⟩
end
end J
namespace L2
open PySem
end L2
namespace J
open PySem L2
section
variable {m n:M}{z:Str}{i:Int}{b:Bool}{ds:Qzz}{ks:List (Key×D)}{kt:List (List Key×D)}
def B6:jj [(m,.int i),(n,.ty "int")]=some (.fr,.bl true):=rfl
def HC:jj [(m,.int i),(n,.ty "bool")]=some (.fr,.bl false):=rfl
end
section
variable {K:PySem.W.Frag}
end
structure gA (X:Cx)(st:Stmt)(t:TS):Prop where
 go:PS X st t
structure jT (X:Cx)(ss:List Stmt)(t:TS):Prop where
 go:gX X ss t
section
variable {X:Cx}{st:Stmt}{rest a b body:List Stmt}{t u tb:TS}{e c iter tg o i value:Expr}{te td ty tv:TE}{tc:TT}{g:TG}{wi:TI}{pos pos':Pos}{k:Nat}{x:Str}
def KZ:jT X [] yH:=⟨WC⟩
def xO(h1:gA X st t)(h2:jT X rest u):jT X (st::rest) (ny t u):=⟨Vb h1.go h2.go⟩
def K0(h1:gA X st t):jT X [st] t:=⟨WD h1.go⟩
def x8(he:PE X e te)(hs:swapsWith e none pos.line X.env=pure false:=by rfl):gA X (.Expr e pos) (qN te):=⟨WG he hs⟩
def yq(he:PE X e te):gA X (.Return (some e) pos) (qY te):=⟨YH he⟩
def NT(hc:PT X c tc)(ha:jT X a t)(hb:jT X b u):gA X (.If c a b pos) (y7 tc t u):=⟨abd hc ha.go hb.go⟩
def Mu(he:PE X e te)(hg:PG X tg g)(hs:swapsWithSole [tg] e pos.line X.env=pure false:=by rfl)(hw:swappedStores [tg] e X.env=pure none:=by rfl)
 (h1:(assignEach [tg] X.env).map (·.2)=[assign tg X.env]:=by rfl):gA X (.Assign [tg] e pos) (il te g):=⟨YL he hg hs hw h1⟩
def aaf{i:Nat}(hN:X.N.Nodup)(hi:X.N[i]?=some x)(hx:Loc X.env.scope x)(he:PE X e te)(hs:swapsWith e (some (.Name x pos')) pos.line X.env=pure false:=by rfl)(hf:X.fn x=true∨X.env.scope.names.lookup x=some .local:=by first|exact .inl rfl|exact .inr rfl|assumption) :
 gA X (.Assign [.Name x pos'] e pos) (il te (gO i)):=⟨YM hN hi hx he hs hf⟩
def VW(hp:PassesOwn (model X.prog X.w) X.A X.env X.xe)(hc:PT X c tc)(hb:jT X body tb):gA X (.While c body [] pos) (Dj tc tb):=⟨Vd hp hc hb.go⟩
def Mv(hp:PassesOwn (model X.prog X.w) X.A X.env X.xe)(hc:X.calm=true)(hi:PI X tg iter wi)(hg:PG X tg g)(hb:jT X body tb)
 (hs:∀x,foldedSetIterable iter X.env x=pure x:=by intro _;rfl):gA X (.For tg iter body [] pos) (oS wi g tb):=⟨YQ hp hc hi hg hb.go hs⟩
def CV(hu:X.A.units+1<cLine)(ho:PE X o td)(hi:PE X i ty)(hv:PE X value tv)(hs:swapsWith value (some (.Subscript o i pos')) pos.line X.env=pure false) :
 gA X (.Assign [.Subscript o i pos'] value pos) (uE td ty tv):=⟨WY hu ho hi hv hs⟩
def Ip{N':List Str}{aD:Scope}{ix:List Nat}{elt:Expr}{ifs:List Expr}{px:Pos}{i:Nat}{y:Str}{py uR:Pos}(hN:X.N.Nodup)(F3:X.N[i]?=some y)(hy:X.env.scope.names.lookup y=some .local)(ok:lQ X.N N' X.env.scope aD x ix)(hc:X.calm=true)(hi:PI X (.Name x px) iter wi)(gH:∀C s₂ H₂ fp pn,nY (X.cy N' aD C s₂ H₂ fp pn) ifs tc)
 (gZ:∀C s₂ H₂ fp pn,PE (X.cy N' aD C s₂ H₂ fp pn) elt te) (F4:swapsWith (.ListComp elt [⟨.Name x px,iter,ifs,0⟩] aD pos) (some (.Name y py)) uR.line X.env=pure true:=by rfl)
 (hs:∀x,foldedSetIterable iter X.env x=pure x:=by intro _;rfl):gA X (.Assign [.Name y py] (.ListComp elt [⟨.Name x px,iter,ifs,0⟩] aD pos) uR) (il (qP wi ix tc te) (gO i)):=⟨T7 hN F3 hy ok hc hi gH gZ F4 hs⟩
end
abbrev keyOf:D→Option Key
 |.int i=>some (.inl i)
 |.str x=>some (.inr x)
 |.non=>some .non
 |_=>none
abbrev cS{κ:Type}[DecidableEq κ](ks:List (κ×D))(k:κ):Option D:=(ks.find? λkv=>decide (kv.1=k)).map (·.2)
abbrev putD{κ:Type}[DecidableEq κ](ks:List (κ×D))(k:κ)(d:D):List (κ×D) :=
 if (ks.any λkv=>decide (kv.1=k))=true then ks.map (λkv=>if kv.1=k then (kv.1,d)else kv)else ks++[(k,d)]
section
variable {K:PySem.W.Frag}{H H' H₀:Hp}{I:Nat→Option Addr}{O:Addr→Prop}{σ:L2.St}{env:Ev}
def oz{N:Addr→Prop}{d:D}{k:Key}{v:V}(e:keyOf d=some k)(h:Rp K N H v d):v=kV k:=by
 cases d<;>simp only[keyOf]at e<;>cases e
 ·exact h.KG
 ·exact h.int_inv
 ·exact h.str_inv
def Ent{κ:Type}(K:PySem.W.Frag)(N:Addr→Prop)(H:Hp)(aj:List (κ×V))(ks:List (κ×D)):Prop:=aj.map (·.1)=ks.map (·.1)∧aB K N H (aj.map (·.2)) (ks.map (·.2))
def Ent.cons_inv{κ:Type}{N:Addr→Prop}{p:κ×V}{aj:List (κ×V)}{q:κ×D}{ks:List (κ×D)}(h:Ent K N H (p::aj) (q::ks)):p.1=q.1∧Rp K N H p.2 q.2∧Ent K N H aj ks:=by
 let⟨e,r⟩:=h;rw[cY,cY]at e r;let⟨e1,e2⟩:=z6 e;cases r with|cons a b=>exact⟨e1,a,e2,b⟩
def Ent.len{κ:Type}{N:Addr→Prop}{aj:List (κ×V)}{ks:List (κ×D)}(h:Ent K N H aj ks):aj.length=ks.length:=by
 have:=dD List.length h.1;simpa using this
theorem Ent.val{κ:Type}[DecidableEq κ]{N:Addr→Prop}:∀{aj:List (κ×V)}{ks:List (κ×D)} (k:κ),Ent K N H aj ks→(cS ks k=none∧fq aj k=none)∨∃d v,cS ks k=some d∧fq aj k=some v∧Rp K N H v d
 |[],[],k,_=>.inl ⟨rfl,rfl⟩
 |[],_::_,k,h=>absurd h.len (by simp)
 |_::_,[],k,h=>absurd h.len (by simp)
 |p::aj,q::ks,k,h=>by
  let⟨e,r,t⟩:=h.cons_inv;by_cases z:q.1=k
  ·exact .inr ⟨q.2,p.2,by simp[cS,List.find?_cons,z],xM (e.trans z),r⟩
  ·have e1:cS (q::ks) k=cS ks k:=by simp[cS,List.find?_cons,z]
   rw[e1,xN (λw=>z (e.symm.trans w))];exact Ent.val k t
def Ent.put{κ:Type}[DecidableEq κ]{N:Addr→Prop}{aj:List (κ×V)}{ks:List (κ×D)}{k:κ}{v:V}{d:D}(h:Ent K N H aj ks)(hv:Rp K N H v d):Ent K N H (putK aj k v) (putD ks k d):=by
 have ha:(aj.any λkv=>decide (kv.1=k))=(ks.any λkv=>decide (kv.1=k)):=by
  have:∀{α β:Type} (l:List (α×β)) (f:α→Bool),l.any (λkv=>f kv.1)=(l.map (·.1)).any f:=λl f=>by rw[List.any_map];rfl
  rw[this aj λa=>decide (a=k),this ks λa=>decide (a=k),h.1]
 unfold putK putD;rw[ha];split
 ·have go:∀{aj:List (κ×V)}{ks:List (κ×D)},Ent K N H aj ks→Ent K N H (aj.map λkv=>if kv.1=k then (kv.1,v)else kv) (ks.map λkv=>if kv.1=k then (kv.1,d)else kv):=by
   intro aj
   induction aj with
   |nil=>intro ks h;cases ks with
    |nil=>exact⟨rfl,.nil⟩
    |cons _ _=>exact absurd h.len (by simp)
   |cons p aj ih =>
    intro ks h;cases ks with
    |nil=>exact absurd h.len (by simp)
    |cons q ks =>
     let⟨e,r,t⟩:=h.cons_inv;let⟨i1,i2⟩:=ih t;rw[cY,cY];by_cases z:q.1=k
     ·rw[if_pos z,if_pos (e.trans z)];exact⟨by rw[cY,cY,i1,e],.cons hv i2⟩
     ·rw[if_neg z,if_neg (λw=>z (e.symm.trans w))];exact⟨by rw[cY,cY,i1,e],.cons r i2⟩
  exact go h
 ·exact⟨by rw[ly,ly,h.1];rfl,by rw[ly,ly];exact h.2.app (.cons hv .nil)⟩
theorem Val.dk{m:M}{ks:List (Key×D)}{v:V}{Hb:Hp}(h:Val K H₀ O Hb H m (.dk ks) v):∃a aj,v=.ref a∧Rd H a (.dK aj)∧Ent K (NM H₀ O (aY m)) H aj ks:=by
 cases m<;>simp only[Val,Cell]at h
 ·cases h with|dk r n e q=>exact⟨_,_,rfl,r,e,q⟩
 ·cases h with|dk r n e q=>exact⟨_,_,rfl,r,e,q⟩
 ·let⟨p,rfl,_,_,_,xs,q,e,r⟩:=h;exact⟨_,_,rfl,.inl q,e,r.wk λa h _=>h.1⟩
 ·let⟨p,rfl,_,_,xs,q,e,r⟩:=h;exact⟨_,_,rfl,.inl q,e,r⟩
 ·let⟨p,rfl,_,xs,q,e,r⟩:=h;exact⟨_,_,rfl,.inl q,e,r⟩
 ·cases h with|dk r n e q=>exact⟨_,_,rfl,r,e,q⟩
 ·let⟨p,qs,aQ,rfl,e2,_⟩:=h;cases e2
 ·let⟨_,_,_,_,e2,_⟩:=h;cases e2
abbrev jU:D→Option (List (Key×D))
 |.dk ks=>some ks
 |_=>none
def CW{d:D}{ks:List (Key×D)}(h:jU d=some ks):d=.dk ks:=by cases d<;>simp only[jU]at h<;>cases h;rfl
def oO(fd fk:Qqj):Qqj:=λe=>(fd e).bind λx=>(fk e).bind λy=>(jU x.2).bind λks=>(keyOf y.2).bind λk=>(cS ks k).bind λd=>some (aY x.1,d)
def XC{td ty:TE}{fd fk:Qqj}(hd:JT K td fd)(hk:JT K ty fk):JT K (DJ td ty) (oO fd fk):=by
 intro H₀ O H σ env Q m d R h q;let⟨x,ex,h⟩:=av h;let⟨y,ey,h⟩:=av h;let⟨ks,iX,h⟩:=av h;let⟨k,ek,h⟩:=av h;let⟨d',ed,h⟩:=av h;cases h;refine hd H₀ O H σ env _ x.1 x.2 R ex λv H1 s1 h1=>?_;refine hk H₀ O H1 σ env _ y.1 y.2 (R.keep s1) ey λw H2 s2 h2=>?_;rw[CW iX]at h1;let⟨a,aj,rfl,rd,en⟩:=(h1.keep s2).dk;obtain rfl:=oz ek h2.weak;rcases en.val k with⟨z,_⟩|⟨d2,v2,z1,z2,r⟩
 ·rw[z]at ed;cases ed
 ·rw[z1]at ed;cases ed;exact⟨a,v2,rfl,.inl ⟨aj,k,rd,rfl,z2.symm⟩,q v2 H2 (s1.trans s2) (Val.el r)⟩
def fX(neg:Bool)(fk fd:Qqj):Qqj:=λe=>(fk e).bind λy=>(fd e).bind λx=>(jU x.2).bind λks=>(keyOf y.2).bind λk=>some (.fr,.bl (if neg then !(cS ks k).isSome else (cS ks k).isSome))
theorem Ent.isSome{κ:Type}[DecidableEq κ]{N:Addr→Prop}{aj:List (κ×V)}{ks:List (κ×D)}{k:κ}(h:Ent K N H aj ks):(fq aj k).isSome=(cS ks k).isSome:=by
 rcases h.val k with⟨a,b⟩|⟨d,v,a,b,_⟩<;>rw[a,b]<;>rfl
def aag{td ty:TE}{fd fk:Qqj}(hk:JT K ty fk)(hd:JT K td fd):JT K (Ei ty td) (fX false fk fd):=by
 intro H₀ O H σ env Q m d R h q;let⟨y,ey,h⟩:=av h;let⟨x,ex,h⟩:=av h;let⟨ks,iX,h⟩:=av h;let⟨k,ek,h⟩:=av h;cases h;refine hk H₀ O H σ env _ y.1 y.2 R ey λw H1 s1 h1=>?_;refine hd H₀ O H1 σ env _ x.1 x.2 (R.keep s1) ex λv H2 s2 h2=>?_;rw[CW iX]at h2;let⟨a,aj,rfl,rd,en⟩:=h2.dk;obtain rfl:=oz ek h1.weak;refine⟨a,fq aj k,rfl,.inl ⟨aj,k,rd,rfl,rfl⟩,?_⟩;rw[en.isSome];exact q _ H2 (s1.trans s2) fG
def UM{td ty:TE}{fd fk:Qqj}(hk:JT K ty fk)(hd:JT K td fd):JT K (CJ ty td) (fX true fk fd):=by
 intro H₀ O H σ env Q m d R h q;let⟨y,ey,h⟩:=av h;let⟨x,ex,h⟩:=av h;let⟨ks,iX,h⟩:=av h;let⟨k,ek,h⟩:=av h;cases h;refine hk H₀ O H σ env _ y.1 y.2 R ey λw H1 s1 h1=>?_;refine hd H₀ O H1 σ env _ x.1 x.2 (R.keep s1) ex λv H2 s2 h2=>?_;rw[CW iX]at h2;let⟨a,aj,rfl,rd,en⟩:=h2.dk;obtain rfl:=oz ek h1.weak;refine⟨a,fq aj k,rfl,.inl ⟨aj,k,rd,rfl,rfl⟩,?_⟩;rw[en.isSome];exact q _ H2 (s1.trans s2) fG
def mj(i:Nat)(e:Ev):Option (M×List (Key×D)):=match e[i]? with
 |some (some (m,.dk ds))=>if own m=true then some (m,ds)else none
 |_=>none
def K1{i:Nat}{e:Ev}{m:M}{ds:List (Key×D)}(h:mj i e=some (m,ds)):e[i]?=some (some (m,.dk ds))∧own m=true:=by
 unfold mj at h;split at h
 ·rename_i e;split at h
  ·cases h;exact⟨e,by assumption⟩
  ·cases h
 ·cases h
def Rel.dct{i:Nat}{m:M}{ds:List (Key×D)}(R:Rel K H₀ I O H σ env)(h:mj i env=some (m,ds)):∃p aj,σ[i]?=some (some (.ref p))∧O p∧H p=some (.dK aj)∧Ent K (λa=>¬O a∧H₀ a=none) H aj ds:=by
 let⟨e,o⟩:=K1 h;let⟨v,hv,n,hm⟩:=R.e.at e;cases m<;>simp only[own]at o<;>try (cases o;done)
 ·let⟨p,rfl,h1,h2,xs,c,z,r⟩:=hm;exact⟨p,xs,hv,h1,c,z,r⟩
 ·let⟨p,rfl,h1,xs,c,z,r⟩:=hm;exact⟨p,xs,hv,h1,c,z,r⟩
def Rel.adn{i:Nat}{m:M}{ds:List (Key×D)}{p:Addr}{xs ys:List (Key×V)}{es:List (Key×D)}(R:Rel K H₀ I O H σ env)(h:mj i env=some (m,ds))(hp:σ[i]?=some (some (.ref p)))(hx:H p=some (.dK xs))(r:Ent K (λa=>¬O a∧H₀ a=none) H ys es) :
  Rel K H₀ I O (L2.upd H p (.dK ys)) σ (env.set i (some (m,.dk es)))∧aO O H O (L2.upd H p (.dK ys)):=by
 let⟨e,o⟩:=K1 h;have hO:=(R.oF e o hp).1;exact R.mut e o hp ⟨ys,bN,r.1,r.2.upd hO hx (λz=>z)⟩
def k5(i:Nat)(fk fe:Qqj):Qqq:=λe=>(fe e).bind λx=>(fk e).bind λy=>(keyOf y.2).bind λk=>if c9 x.1 x.2=true then (mj i e).bind λz=>if z.2.length<sizeLine then some (.nx (e.set i (some (z.1,.dk (putD z.2 k x.2)))))else none else none
def XD{i:Nat}{t tk:TE}{f fk:Qqj}(h:JT K t f)(hk:JT K tk fk):JS K (uE (ik i) tk t) (k5 i fk f):=by
 intro H₀ I O H σ env Ds fl R e q;let⟨x,ex,e⟩:=av e;let⟨y,ey,e⟩:=av e;let⟨k,ek,e⟩:=av e;split at e
 ·rename_i hs;let⟨⟨m,ds⟩,ez,e⟩:=av e;split at e
  ·rename_i hl;cases e;let⟨p,aj,hp,hO,hx,r⟩:=R.dct ez;refine h H₀ O H σ env _ x.1 x.2 R.e ex λv H1 s1 h1=>?_;refine⟨.ref p,hp,?_⟩;refine hk H₀ O H1 σ env _ y.1 y.2 (R.keep s1).e ey λw H2 s2 h2=>?_;obtain rfl:=oz ek h2.weak;have s:=s1.trans s2;refine⟨p,_,rfl,.inl ⟨aj,k,s _ _ hx,rfl,by rw[r.len];exact hl,rfl⟩,?_⟩;let⟨R2,st⟩:=(R.keep s).adn (ys:=putK aj k v) (es:=putD ds k x.2) ez hp (s _ _ hx) (Ent.put ⟨r.1,r.2.keep (.same s)⟩ ((h1.keep s2).c9 hs));exact q O _ σ R2 ((aO.same s).trans st)
  ·cases e
 ·cases e
def yR(fk fv:Qqj):Qqj:=λe=>(fk e).bind λy=>(fv e).bind λx=>(keyOf y.2).bind λk=>if x.2.cq=true then some (.un,.dk [(k,x.2)])else none
def XE{tk tv:TE}{fk fv:Qqj}(hk:JT K tk fk)(hv:JT K tv fv):JT K (NB [(tk,tv)]) (yR fk fv):=by
 intro H₀ O H σ env Q m d R h q;let⟨y,ey,h⟩:=av h;let⟨x,ex,h⟩:=av h;let⟨k,ek,h⟩:=av h;split at h
 ·rename_i QK;cases h;intro p hp;have s0:aG H (upd H p (.dK [])):=cW hp;refine hk H₀ O _ σ env _ y.1 y.2 (R.keep s0) ey λw H1 s1 h1=>?_;refine hv H₀ O H1 σ env _ x.1 x.2 ((R.keep s0).keep s1) ex λv H2 s2 h2=>?_;obtain rfl:=oz ek h1.weak;have pW:H2 p=some (.dK []):=s2 _ _ (s1 _ _ bN);refine⟨pW,[(k,v)],rfl,by show 1≤15;decide,?_⟩;have sm:aG H (upd H2 p (.dK (qC [] [(k,v)]))):=λa o e=>by
   rw[aI (eR e hp)];exact s2 _ _ (s1 _ _ (s0 _ _ e))
  refine q _ _ sm ⟨p,rfl,hp,kC R.hd hp,iG R.od hp,[(k,v)],bN,rfl,.cons ?_ .nil⟩;refine(Rp.im (N':=λ_=>False) QK h2.weak).keep (λa o e z=>?_) |>.im QK;have f7:a≠p:=by
   rintro rfl;rcases z with z|z
   ·exact z
   ·rw[pW]at e;cases e;exact z
  rw[aI f7];exact e
 ·cases h
end
section
variable {K:PySem.W.Frag}{H H' H₀:Hp}{I:Nat→Option Addr}{O:Addr→Prop}{σ:L2.St}{env:Ev}
def Rel.aah{i:Nat}{C:Addr}{qs:List Addr}{aQ:List (Qzz)}{H1:Hp}(R:Rel K H₀ I O H σ env)(s:aG H H1)(nn:∀(j:Nat) d,j≠i→env[j]?≠some (some (.nb,d)))(hC:H C=none)(hq:∀q∈qs,H q=none∧q≠C)(nd:qs.Nodup)
  (e:H1 C=some (.lst (qs.map V.ref))) (hp:Paired (λq ds=>∃xs,H1 q=some (.lst xs)∧aB K (λa=>¬(O a∨a=C∨a∈qs)∧H₀ a=none) H1 xs ds) qs aQ) :
  Rel K H₀ I (λa=>O a∨a=C∨a∈qs) H1 (σ.set i (some (.ref C))) (env.set i (some (.nb,.lst (aQ.map D.lst))))∧aO O H (λa=>O a∨a=C∨a∈qs) H1:=by
 have np:∀a,(∃o,H a=some o)→¬(a=C∨a∈qs):=λa ⟨o,ea⟩ z=>by
  rcases z with rfl|z
  ·rw[hC]at ea;cases ea
  ·rw[(hq a z).1]at ea;cases ea
 have n0:∀a,(a=C∨a∈qs)→H₀ a=none:=λa z=>by
  cases h0:H₀ a with
  |none=>rfl
  |some o=>exact absurd z (np a (R.e.hd a o h0))
 have nO:∀a,(a=C∨a∈qs)→¬O a:=λa z ho=>np a (R.e.od a ho) z;have wk:∀{N:Addr→Prop}{d:D}{v:V},Rp K N H v d→Rp K (λa=>N a∧¬(a=C∨a∈qs)) H1 v d:=λr=>(r.wk λa n e=>⟨n,np a e⟩).keep (.same s);have vP:∀{N:Addr→Prop}{d:D}{q:Addr},Cell K N H q d→Cell K (λa=>N a∧¬(a=C∨a∈qs)) H1 q d:=λ{N d q} r=>by
  let⟨o,e,_⟩:=r.some;exact(r.wk λa n e=>⟨n,np a e⟩).keep (.same s) ((s _ _ e).trans e.symm)
 have Gm:∀{j:Nat}{d:D},(env.set i (some (M.nb,D.lst (aQ.map D.lst))))[j]?=some (some (.nb,d))→j=i:=λ{j d} h=>by
  rcases get_set h with⟨z,_⟩|⟨z,q⟩
  ·exact z
  ·exact absurd q (nn j d z)
 have QL:∀a,(a=C∨a∈qs)→∃o,H1 a=some o∧¬hJ o:=λa z=>by
  rcases z with rfl|z
  ·exact⟨_,e,λz=>z⟩
  ·let⟨ds,xs,hx,_⟩:=Cp hp z;exact⟨_,hx,λz=>z⟩
 refine⟨⟨⟨kz ?_ ?_,?_,?_,?_⟩,?_,?_,?_,?_,?_⟩,?_⟩
 ·rw[fZ,fZ];exact cE R.e.sl
 ·intro j y x hy hx m d ey;subst ey;rcases get_set hy with⟨rfl,z⟩|⟨nj,q⟩
  ·cases z;rcases get_set hx with⟨_,z⟩|⟨z,_⟩
   ·subst z;exact⟨rfl,_,rfl,C,qs,aQ,rfl,rfl,.inr (.inl rfl),n0 C (.inl rfl),e,nd,λq hm=>⟨.inr (.inr hm),n0 q (.inr hm),(hq q hm).2⟩,hp⟩
   ·exact absurd rfl z
  ·rw[dY (λz=>nj z.symm)]at hx;let⟨v,hv,n,z⟩:=R.e.at q;rw[hx]at hv;cases hv;refine⟨n,v,rfl,?_⟩;cases m
   ·exact(wk z).wk λa h _=>λz=>z.elim h.1 h.2
   ·exact(wk z).wk λa h _=>⟨λz=>z.elim h.1.1 h.2,h.1.2⟩
   ·cases n
   ·let⟨q,rfl,h1,h2,c'⟩:=z;exact⟨q,rfl,.inl h1,h2,(vP c').wk λa h _=>⟨λz=>z.elim h.1.1 h.2,h.1.2⟩⟩
   ·let⟨q,rfl,h1,c'⟩:=z;exact⟨q,rfl,.inl h1,(vP c').wk λa h _=>⟨λz=>z.elim h.1.1 h.2,h.1.2⟩⟩
   ·cases n
   ·exact absurd q (nn j d nj)
   ·cases n
 ·intro a ha;rcases ha with ha|ha
  ·let⟨o,e⟩:=R.e.od a ha;exact⟨o,s _ _ e⟩
  ·let⟨o,eo,_⟩:=QL a ha;exact⟨o,eo⟩
 ·exactλa o h=>let ⟨o,e⟩:=R.e.hd a o h;⟨o,s _ _ e⟩
 ·intro a u ha eu;rcases ha with ha|ha
  ·exact(R.e.keep s).on a u ha eu
  ·let⟨o,eo,nt⟩:=QL a ha;rw[eu]at eo;cases eo;exact nt
 ·exactλa o n h=>s _ _ (R.fr a o n h)
 ·intro a ha;rcases ha with ha|ha
  ·exact R.ow a ha
  ·exact .inr (n0 a ha)
 ·intro i' d' p' h1 p1;rcases get_set h1 with⟨rfl,q⟩|⟨n1,q1⟩
  ·cases q
  ·rw[dY (λz=>n1 z.symm)]at p1;exact R.ba i' d' p' q1 p1
 ·intro i' j x y q h1 h2 o1 o2 p1 p2;rcases get_set h1 with⟨rfl,q1⟩|⟨n1,q1⟩
  ·cases q1;cases o1
  ·rcases get_set h2 with⟨rfl,q2⟩|⟨n2,q2⟩
   ·cases q2;cases o2
   ·rw[dY (λz=>n1 z.symm)]at p1;rw[dY (λz=>n2 z.symm)]at p2;exact R.dj i' j x y q q1 q2 o1 o2 p1 p2
 ·refine⟨λi' j d1 d2 h1 h2=>(Gm h1).trans (Gm h2).symm,λi' j d1 x p' q xs h1 p1 h2 o2 p2 ex=>?_⟩;have hi:=Gm h1;subst hi;have vX:p'=C:=by
   rcases get_set p1 with⟨_,z⟩|⟨z,_⟩
   ·cases z;rfl
   ·exact absurd rfl z
  subst vX;rw[e]at ex;cases ex;rcases get_set h2 with⟨rfl,z⟩|⟨n2,q2⟩
  ·cases z;cases o2
  ·rw[dY (λz=>n2 z.symm)]at p2;have hO:=(R.oF q2 o2 p2).1;refine⟨λz=>nO q (.inl z) hO,λz=>?_⟩;let⟨a,ha,ea⟩:=bQ.mp z;exact nO q (.inr (by cases ea;exact ha)) hO
 ·intro a o h n;exact⟨s a o h,λz=>z.elim n (np a ⟨o,h⟩)⟩
abbrev EE(i:Nat)(e:Ev):Bool:=(List.range e.length).all λj=>decide (j=i)||(match e[j]? with
 |some (some (.nb,_))=>false
 |_=>true)
def XF{i:Nat}{e:Ev}(h:EE i e=true)(j:Nat)(d:D)(hj:j≠i):e[j]?≠some (some (.nb,d)):=λz=>by
 have hl:j<e.length:=(bp.mp z).1;have:=lu.mp h j (iQ.mpr hl);rw[z,fI hj]at this;cases this
def yS(i:Nat)(it:Ev→Option (M×Qzz)):Qqq:=λe=>(it e).bind λy=>if EE i e=true∧y.2.length<sizeLine then some (.nx (e.set i (some (.nb,.lst ((y.2.map λ_=>([]:Qzz)).map D.lst)))))else none
def XG{i:Nat}{wi:TI}{ix:List Nat}{it:Ev→Option (M×Qzz)}(hi:JI K wi it):JS K (il (qP wi ix zi (zc lY)) (gO i)) (yS i it):=by
 intro H₀ I O H σ env Ds fl R e q;let⟨⟨mi,ds⟩,ei,e⟩:=av e;split at e
 ·rename_i hc;let⟨hn,hl⟩:=hc;cases e;refine hi H₀ O H σ env _ mi ds R.e ei λJ H1 s1 hm ok C hC=>?_;refine⟨λk n H2=>n=ds.length-k∧k≤ds.length∧aG H1 H2∧∃qs:List Addr,H2 C=some (.lst (qs.map V.ref))∧qs.length=k∧qs.Nodup∧∀q∈qs,H1 q=none∧q≠C∧H2 q=some (.lst []),⟨_,rfl,jt _,cW hC,[],bN,rfl,rL,λ_ h=>nomatch h⟩,?_⟩;rintro k n H2 ⟨rfl,hle,s2,qs,QM,Gn,iz,vY⟩;have bE:aO O H1 O H2:=aO.same s2;by_cases aX:k<ds.length
  ·refine .inr ⟨ok.go O H2 k bE aX,λx H3 y=>?_⟩;let⟨s3,_⟩:=ok.j6 O H2 k x H3 bE aX y;refine My.adg (σ:=some x::gn σ ix) (H:=H3) (A:=λH3=>zc lY (some x::gn σ ix) H3 _) (B:=λH3=>_) ?_;refine⟨jt _,λp hp=>?_⟩;have c3:H3 C=some (.lst (qs.map V.ref)):=s3 _ _ QM;have vX:C≠p:=eR c3 hp;have hpq:p∉qs:=λz=>by rw[s3 _ _ (vY p z).2.2]at hp;cases hp
   refine⟨qs.map V.ref,by rw[aI vX];exact c3,by rw[dZ,Gn];exact Nat.lt_trans aX hl,ds.length-(k+1),by omega,rfl,aX,λa o ha=>?_,qs++[p],?_,by rw[fw,Gn];rfl,?_,λa ha=>?_⟩
   ·rw[aI (eR ha hC)];have h3:=s3 _ _ (s2 _ _ ha);rw[aI (eR h3 hp)];exact h3
   ·rw[bN,ly];rfl
   ·rw[rP];refine⟨iz,by simp,λa ha b hb=>?_⟩;have:b=p:=by simpa using hb
    subst this;exactλz=>hpq (z▸ha)
   ·rcases iq.mp ha with ha|ha
    ·let⟨z1,z2,z3⟩:=vY a ha;refine⟨z1,z2,?_⟩;have h3:=s3 _ _ z3;rw[aI z2,aI (eR h3 hp)];exact h3
    ·have:a=p:=by simpa using ha
     subst this;have hn1:H1 a=none:=by
      cases h1:H1 a with
      |none=>rfl
      |some o=>rw[s3 _ _ (s2 _ _ h1)]at hp;cases hp
     exact⟨hn1,λz=>vX z.symm,by rw[aI (λz=>vX z.symm),bN]⟩
  ·have hk:k=ds.length:=by omega
   subst hk;refine .inl ⟨ok.stop O H2 bE,?_⟩;have pr:∀(qs:List Addr) (ds:Qzz) (N:Addr→Prop),qs.length=ds.length→(∀q∈qs,H2 q=some (.lst []))→Paired (λq (es:Qzz)=>∃xs,H2 q=some (.lst xs)∧aB K N H2 xs es) qs (ds.map λ_=>([]:Qzz)):=by
    intro qs
    induction qs with
    |nil=>intro ds N h _;cases ds with
     |nil=>exact .nil
     |cons _ _=>cases h
    |cons a qs ih=>intro ds N h hh;cases ds with
     |nil=>cases h
     |cons d ds=>exact .cons ⟨[],hh a cg,.nil⟩ (ih ds N (by simpa using h) λq hq=>hh q (cT _ hq))
   let⟨R',st⟩:=(R.keep s1).aah (i:=i) (C:=C) (qs:=qs) (aQ:=ds.map λ_=>[]) s2 (λj d hj=>XF hn j d hj) hC (λa ha=>⟨(vY a ha).1,(vY a ha).2.1⟩) iz QM (pr qs ds _ Gn λa ha=>(vY a ha).2.2);exact q _ H2 _ R' ((aO.same s1).trans st)
 ·cases e
abbrev rC:Qzz→Option (List (Qzz))
 |[]=>some []
 |.lst d::r=>(rC r).bind λx=>some (d::x)
 |_=>none
theorem K2:∀{ds:Qzz}{aQ:List (Qzz)},rC ds=some aQ→ds=aQ.map D.lst
 |[],_,h=>by cases h;rfl
 |d::r,aQ,h=>by
  cases d<;>simp only[rC]at h<;>try (cases h;done)
  let⟨x,ex,h⟩:=av h;cases h;rw[K2 ex,cY]
theorem JV:∀aQ:List (Qzz),rC (aQ.map D.lst)=some aQ
 |[]=>rfl
 |d::r=>by rw[cY,rC,JV r];rfl
def As(i:Nat)(e:Ev):Option (List (Qzz)):=match e[i]? with
 |some (some (.nb,.lst ds))=>rC ds
 |_=>none
def aai{i:Nat}{e:Ev}{aQ:List (Qzz)}(h:As i e=some aQ):e[i]?=some (some (.nb,.lst (aQ.map D.lst))):=by
 unfold As at h;split at h
 ·rename_i e;rw[e,K2 h]
 ·cases h
theorem HV:∀{a b:List (Qzz)},a.map D.lst=b.map D.lst→a=b
 |[],[],_=>rfl
 |[],_::_,h=>by cases h
 |_::_,[],h=>by cases h
 |x::a,y::b,h=>by
  rw[cY,cY]at h;let⟨h1,h2⟩:=z6 h;rw[D.lst.inj h1,HV h2]
theorem Jf{F:Addr→Qzz→Prop}:∀{qs:List Addr}{aQ:List (Qzz)}{j:Nat}{ds:Qzz},Paired F qs aQ→aQ[j]?=some ds→∃q,qs[j]?=some q∧F q ds
 |_,_,_,_,.nil,h=>by simp at h
 |_,_,0,_,.cons a t,h=>by simp at h;subst h;exact⟨_,rfl,a⟩
 |_,_,j+1,ds,.cons a t,h=>by
  let⟨q,h1,h2⟩:=Jf (j:=j) (ds:=ds) t (by simpa using h);exact⟨q,by simpa using h1,h2⟩
theorem Jg{F G:Addr→Qzz→Prop}{es:Qzz}:∀{qs:List Addr}{aQ:List (Qzz)}{j:Nat}{q:Addr},qs.Nodup→Paired F qs aQ→qs[j]?=some q→G q es→(∀a ds,a∈qs→a≠q→F a ds→G a ds)→Paired G qs (aQ.set j es)
 |_,_,_,_,_,.nil,h,_,_=>by simp at h
 |a::qs,ds::aQ,0,q,hn,.cons x t,h,g,w=>by
  simp at h;subst h;rw[jZ]at hn;exact .cons g (kR (λb es hb hf=>w b es (cT _ hb) (λz=>hn.1 (z▸hb)) hf) t)
 |a::qs,ds::aQ,j+1,q,hn,.cons x t,h,g,w=>by
  rw[jZ]at hn;have h':qs[j]?=some q:=by simpa using h
  have hq:q∈qs:=dH h';exact .cons (w a ds cg (λz=>hn.1 (z▸hq)) x) (Jg hn.2 t h' g λb es hb=>w b es (cT _ hb))
def Rel.ado{i:Nat}{aQ:List (Qzz)}{p q:Addr}{qs:List Addr}{j:Nat}{xs ys:List V}{es:Qzz}(R:Rel K H₀ I O H σ env)(hx:env[i]?=some (some (.nb,.lst (aQ.map D.lst))))(hp:σ[i]?=some (some (.ref p)))
  (h1:O p) (h2:H₀ p=none) (h3:H p=some (.lst (qs.map V.ref))) (h4:qs.Nodup) (h5:∀q∈qs,O q∧H₀ q=none∧q≠p) (h6:Paired (λq ds=>∃xs,H q=some (.lst xs)∧aB K (λa=>¬O a∧H₀ a=none) H xs ds) qs aQ)
  (hq:qs[j]?=some q) (eq:H q=some (.lst xs)) (r:aB K (λa=>¬O a∧H₀ a=none) H ys es) :
  Rel K H₀ I O (upd H q (.lst ys)) σ (env.set i (some (.nb,.lst ((aQ.set j es).map D.lst))))∧aO O H O (upd H q (.lst ys)):=by
 have QN:q∈qs:=dH hq;let⟨qO,q0,qp⟩:=h5 q QN;have kp:∀{N:Addr→Prop},(∀a,N a→¬O a)→Keeps N H (upd H q (.lst ys)):=λw a u h z=>by
  have f7:a≠q:=by
   rintro rfl;rcases z with z|z
   ·exact w _ z qO
   ·rw[eq]at h;cases h;exact z
  rw[aI f7];exact h
 have hi:i<env.length:=(bp.mp hx).1;have OG:∀{k:Nat}{x:M×D}{p':Addr},env[k]?=some (some x)→own x.1=true→σ[k]?=some (some (.ref p'))→p'≠q:=λ{k x p'} a b c z=>by
  let⟨_,z2⟩:=R.nd.2 i k _ x p p' _ hx hp a b c h3;exact z2 (bQ.mpr ⟨q,QN,by rw[z]⟩)
 have Gp:∀{k:Nat}{d1:D},(env.set i (some (M.nb,D.lst ((aQ.set j es).map D.lst))))[k]?=some (some (.nb,d1))→k=i:=λ{k d1} h=>by
  rcases get_set h with⟨z,_⟩|⟨_,z⟩
  ·exact z
  ·exact R.nd.1 k i d1 _ z hx
 refine⟨⟨⟨kz ?_ ?_,?_,?_,?_⟩,?_,R.ow,?_,?_,?_⟩,?_⟩
 ·rw[fZ];exact cE R.e.sl
 ·intro k y x hy vZ m d ey;subst ey;rcases get_set hy with⟨rfl,z⟩|⟨nk,z⟩
  ·cases z;rw[hp]at vZ;cases vZ;refine⟨rfl,_,rfl,p,qs,aQ.set j es,rfl,rfl,h1,h2,by rw[aI (λz=>qp z.symm)];exact h3,h4,h5,Jg h4 h6 hq ⟨ys,bN,r.keep (kp λa h=>h.1)⟩ λa ds ha f7 ⟨zs,e1,e2⟩=>⟨zs,by rw[aI f7];exact e1,e2.keep (kp λa h=>h.1)⟩⟩
  ·let⟨v,hv,n,hm⟩:=R.e.at z;rw[vZ]at hv;cases hv;refine⟨n,v,rfl,?_⟩;cases m
   ·exact Rp.keep (kp λa h=>h) hm
   ·exact Rp.keep (kp λa h=>h.1) hm
   ·cases n
   ·let⟨p',rfl,h1,h2,c'⟩:=hm;exact⟨p',rfl,h1,h2,c'.keep (kp λa h=>h.1) (aI (OG z rfl vZ))⟩
   ·let⟨p',rfl,h1,c'⟩:=hm;exact⟨p',rfl,h1,c'.keep (kp λa h=>h.1) (aI (OG z rfl vZ))⟩
   ·cases n
   ·exact absurd (R.nd.1 k i d _ z hx) nk
   ·cases n
 ·intro a ha;by_cases z:a=q
  ·subst z;exact⟨_,bN⟩
  ·rw[aI z];exact R.e.od a ha
 ·intro a u h;by_cases z:a=q
  ·subst z;exact⟨_,bN⟩
  ·rw[aI z];exact R.e.hd a u h
 ·intro a u ha e;by_cases z:a=q
  ·subst z;rw[bN]at e;cases e;exactλz=>z
  ·rw[aI z]at e;exact R.e.on a u ha e
 ·intro a u n h;have z:a≠q:=by rintro rfl;rw[q0]at h;cases h
  rw[aI z];exact R.fr a u n h
 ·intro i' e' p' g1 p1;rcases get_set g1 with⟨rfl,z⟩|⟨n1,q1⟩
  ·cases z
  ·exact R.ba i' e' p' q1 p1
 ·intro i' k x y a g1 g2 o1 o2 p1 p2;rcases get_set g1 with⟨rfl,z⟩|⟨_,q1⟩
  ·cases z;cases o1
  ·rcases get_set g2 with⟨rfl,z⟩|⟨_,q2⟩
   ·cases z;cases o2
   ·exact R.dj i' k x y a q1 q2 o1 o2 p1 p2
 ·refine⟨λi' k d1 d2 g1 g2=>(Gp g1).trans (Gp g2).symm,λi' k d1 x p' a zs g1 p1 g2 o2 p2 e=>?_⟩;have z:=Gp g1;subst z;rw[hp]at p1;cases p1;rw[aI (λz=>qp z.symm)]at e;rcases get_set g2 with⟨rfl,z⟩|⟨_,q2⟩
  ·cases z;cases o2
  ·exact R.nd.2 i' k _ x p a zs hx hp q2 o2 p2 e
 ·intro a u h n;have z:a≠q:=by rintro rfl;exact n qO
  exact⟨by rw[aI z];exact h,n⟩
def yT(i:Nat)(fk f:Qqj):Qqq:=λe=>(fk e).bind λy=>(oW y).bind λk=>(f e).bind λx=>if c9 x.1 x.2=true then (As i e).bind λaQ=>(dR aQ.length k).bind λj=>(aQ[j]?).bind λds=>if ds.length<sizeLine then some (.nx (e.set i (some (.nb,.lst ((aQ.set j (ds++[x.2])).map D.lst)))))else none else none
def XH{i:Nat}{t tk:TE}{f fk:Qqj}(hk:JT K tk fk)(h:JT K t f):JS K (qN (vD K "list" tZ (nW (r9 K) (ik i) tk) (mZ t lY))) (yT i fk f):=by
 intro H₀ I O H σ env Ds fl R e q;let⟨y,ey,e⟩:=av e;let⟨k,ek,e⟩:=av e;let⟨x,ex,e⟩:=av e;split at e
 ·rename_i hs;let⟨aQ,ed,e⟩:=av e;let⟨j,ej,e⟩:=av e;let⟨ds,eds,e⟩:=av e;split at e
  ·rename_i hl;cases e;have hx:=aai ed;let⟨v,hv,_,p,qs,ad5,rfl,e2,h1,h2,h3,h4,h5,h6⟩:=R.e.at hx;cases HV (D.lst.inj e2);let⟨a,ha,xs,Gq,rr⟩:=Jf h6 eds;refine⟨.ref p,hv,?_⟩;refine hk H₀ O H σ env _ y.1 y.2 R.e ey λw H1 s1 hw=>?_;rw[CL ek]at hw;have hlen:qs.length=aQ.length:=cE h6;refine .inl ⟨p,_,k,.ref a,rfl,hw.int,.inl (.inl (s1 _ _ h3)),?_,?_⟩
   ·unfold L2.bz;rw[dZ,hlen,ej];show(qs.map V.ref)[j]?=_;rw[cF,ha];rfl
   refine⟨.inl ⟨rfl,xs,.inl (.inl (s1 _ _ Gq))⟩,?_⟩;refine h H₀ O H1 σ env _ x.1 x.2 (R.e.keep s1) ex λu H2 s2 hu=>?_;have s:=s1.trans s2;refine⟨a,xs,u,rfl,rfl,s _ _ Gq,by rw[rr.len];exact hl,?_⟩;have R2:=R.keep s;let⟨R3,st⟩:=R2.ado (ys:=xs++[u]) (es:=ds++[x.2]) hx hv h1 h2 (s _ _ h3) h4 h5 (kR (λq ds _ ⟨zs,e1,e2⟩=>⟨zs,s _ _ e1,e2.keep (.same s)⟩) h6) ha (s _ _ Gq) ((rr.keep (.same s)).app (.cons (hu.c9 hs) .nil));exact q O _ σ R3 ((aO.same s).trans st)
  ·cases e
 ·cases e
end
section
variable {K:PySem.W.Frag}
end
section
variable {K:PySem.W.Frag}{H H' H₀:Hp}{O:Addr→Prop}{σ:L2.St}{env:Ev}
end
end J
namespace J
open PySem PySem.Spec PyProof.Rows L2
section
variable {X:Cx}{pins:List (Addr×Obj)}{σ:L2.St}{H:Hp}{s:Shared}{a d it:Addr}
def Mw{o1 o2:HO}(I:L2.Inv X pins σ H s)(e:H a=some o1)(ht:∀xs,o1≠.tup xs)(hb:∀ps,o1≠.mC ps)(hx:∀x,o1≠.own x)(hf:∀o u,X.H₀ a≠some (.aW o u))(ok:cB X.prog X.w (upd H a o2) s.heap a o2):L2.Inv X pins σ (upd H a o2) s:=by
 have ne:∀b,H b=none→b≠a:=λb h z=>by rw[z,e]at h;cases h
 have nt:∀b xs,H b=some (.tup xs)→b≠a:=λb xs h z=>by rw[z,e]at h;cases h;exact ht _ rfl
 have nx:∀b x,H b=some (.own x)→b≠a:=λb x h z=>by rw[z,e]at h;cases h;exact hx _ rfl
 refine⟨I.ok,I.os,I.bare,⟨I.base.keep,I.base.slot,λb o h n hx=>?_,I.base.there,λb xs h=>?_,λb o u h=>?_,λb ps h=>?_⟩,I.loc,I.cell,?_,λx c h=>?_,λp hp=>?_,λb u h=>?_,I.len⟩
 ·have z:=I.base.free b o h n hx;rw[aI (ne b z)];exact z
 ·have z:=I.base.lV b xs h;rw[aI (nt b xs z)];exact z
 ·have z:=I.base.jL b o u h;rw[aI (λ(q:b=a)=>hf o u (by rw[←q];exact h))];exact z
 ·let⟨m,z⟩:=I.base.lW b ps h;refine⟨m,?_⟩;rw[aI (λq=>by rw[q,e]at z;cases z;exact hb _ rfl)];exact z
 ·rw[aI (ne _ I.free)];exact I.free
 ·rw[aI (ne _ (I.iI x c h))];exact I.iI x c h
 ·let⟨h1,h2,h3⟩:=I.pin p hp;exact⟨h1,by rw[aI (ne _ h2)];exact h2,h3⟩
 ·by_cases z:b=a
  ·subst z;rw[bN]at h;cases h;exact ok
  ·rw[aI z]at h;exact(I.aH b u h).nr (λc v _ q=>q) (λc q=>by rw[aI (nx _ _ q)];exact q) λc xs q=>by rw[aI (nt _ _ q)];exact q
def adp(a:Addr)(o:Obj)(u:HO)(Ds:Ends):Ends where
 nx:=λσ H=>H a=some (.aW o u)∧Ds.nx σ (upd H a u)
 rt:=λv H=>H a=some (.aW o u)∧Ds.rt v (upd H a u)
 bk:=λσ H=>H a=some (.aW o u)∧Ds.bk σ (upd H a u)
 ct:=λσ H=>H a=some (.aW o u)∧Ds.ct σ (upd H a u)
theorem Dp:∀{aj:List (Key×V)}{vs:List (Key×Value)}{i:Nat}{kv:Key×V},KV aj vs→aj[i]?=some kv→∃u,vs[i]?=some (kv.1,u)∧RelV kv.2 u
 |_,_,_,_,.nil,e=>by simp at e
 |_,_,0,_,.cons (b:=q) h _,e=>by
  simp only[List.getElem?_cons_zero,Option.some.injEq]at e;subst e;exact⟨q.2,by rw[PY,h.1],h.2⟩
 |_,_,i+1,kv,.cons _ t,e=>by
  let⟨u,h1,h2⟩:=Dp (i:=i) (kv:=kv) t (by simpa using e);exact⟨u,by simpa using h1,h2⟩
def XI{P:Program}{w:World}{k:Key}{u:Value}(h:(cG P w).is k u=true):RelV (kV k) u:=by
 rcases kr (k:=k) (v:=u) h with⟨i,t,rfl,rfl⟩|⟨x,t,rfl,rfl⟩|⟨rfl,rfl⟩<;>first|exact⟨t,rfl⟩|rfl
end
abbrev pv:Key→D
 |.inl i=>.int i
 |.inr x=>.str x
 |.non=>.non
def adq:HO→Bool
 |.aW _ _=>false
 |_=>true
def p9(H H':Hp):Prop:=(∀b u,adq u=true→Rd H b u→Rd H' b u)∧∀b xs,H b=some (.tup xs)→H' b=some (.tup xs)
section
variable {K:PySem.W.Frag}{N:Addr→Prop}{H H' H₀ H₁:Hp}{I:Nat→Option Addr}{O:Addr→Prop}{σ:L2.St}{env:Ev}
mutual
theorem Rp.cU(w:p9 H H'):∀{v:V}{d:D},Rp K N H v d→Rp K N H' v d
 |_,_,.non=>.non
 |_,_,.bl b=>.bl b
 |_,_,.int i=>.int i
 |_,_,.str x=>.str x
 |_,_,.ty n=>.ty n
 |_,_,.tup h r=>.tup (h.elim (λz=>.inl (w.2 _ _ z)) .inr) (aB.cU w r)
 |_,_,.lst h n r=>.lst (w.1 _ _ rfl h) n (aB.cU w r)
 |_,_,.lstK h r=>.lstK h (aB.cU w r)
 |_,_,.dk h n e r=>.dk (w.1 _ _ rfl h) n e (aB.cU w r)
 |_,_,.dt h n e r=>.dt (w.1 _ _ rfl h) n e (aB.cU w r)
theorem aB.cU(w:p9 H H'):∀{vs:List V}{ds:Qzz},aB K N H vs ds→aB K N H' vs ds
 |_,_,.nil=>.nil
 |_,_,.cons h r=>.cons (Rp.cU w h) (aB.cU w r)
end
theorem Cell.cU{p:Addr}{d:D}(w:p9 H H')(e:H' p=H p)(h:Cell K N H p d):Cell K N H' p d:=by
 cases d<;>simp only[Cell]at h ⊢
 ·let⟨xs,q,r⟩:=h;exact⟨xs,e.trans q,r.cU w⟩
 ·let⟨xs,q,z,r⟩:=h;exact⟨xs,e.trans q,z,r.cU w⟩
 ·let⟨xs,q,z,r⟩:=h;exact⟨xs,e.trans q,z,r.cU w⟩
theorem Val.cU{m:M}{d:D}{v:V}(w:p9 H H')(un:(m=.un∨m=.ut)→∀p d N,Cell K N H p d→H' p=H p)(on:∀p,O p→H' p=H p)(z:∀b,H₀ b=none→H₁ b=none)(h:Val K H₀ O HE H m d v):Val K H₁ O HE H' m d v:=by
 cases m<;>simp only[Val]at h ⊢
 ·exact h.cU w
 ·exact(h.cU w).wk λa n _=>⟨n.1,z a n.2⟩
 ·let⟨p,e,h1,h2,h3,c⟩:=h;exact⟨p,e,h1,z _ h2,h3,(c.cU w (un (.inl rfl) _ _ _ c)).wk λa n _=>⟨⟨n.1.1,z a n.1.2⟩,n.2⟩⟩
 ·let⟨p,e,h1,h2,c⟩:=h;exact⟨p,e,h1,z _ h2,(c.cU w (on _ h1)).wk λa n _=>⟨n.1,z a n.2⟩⟩
 ·let⟨p,e,h1,c⟩:=h;exact⟨p,e,h1,(c.cU w (on _ h1)).wk λa n _=>⟨n.1,z a n.2⟩⟩
 ·exact(h.cU w).wk λa n _=>z a n
 ·let⟨p,qs,aQ,e1,e2,h1,h2,h3,h4,h5,h6⟩:=h;exact⟨p,qs,aQ,e1,e2,h1,z _ h2,(on _ h1).trans h3,h4,λq hq=>⟨(h5 q hq).1,z _ (h5 q hq).2.1,(h5 q hq).2.2⟩,kR (λq ds hq ⟨xs,a,r⟩=>⟨xs,(on _ (h5 q hq).1).trans a,(r.cU w).wk λa n _=>⟨n.1,z a n.2⟩⟩) h6⟩
 ·let⟨a,xs,ds,e1,e2,h1,h2⟩:=h;refine⟨a,xs,ds,e1,e2,h1.imp (w.2 a xs) id,Paired.lU h2 λd v y=>?_⟩;rcases y with⟨y1,y2⟩|⟨q,y1,y2,c⟩
  ·exact .inl ⟨y1,y2.cU w⟩
  ·exact .inr ⟨q,y1,⟨y2.1,z _ y2.2.1,y2.2.2⟩,c.cU w (un (.inr rfl) _ _ _ c)⟩
theorem Rel.cU(R:Rel K H₀ I O H σ env)(w:p9 H H')(on:∀p,O p→H' p=H p)(z:∀b,H₀ b=none↔H₁ b=none)(nn:∀b o,H b=some o→∃o',H' b=some o')(fr:∀b o,(∀i,I i≠some b)→H₁ b=some o→H' b=some o):Rel K H₁ I O H' σ env:=by
 refine⟨⟨m7 (λe x h m d q=>?_) R.e.sl,λa h=>?_,λa o h=>?_,λa o h e=>?_⟩,fr,λa h=>?_,R.ba,R.dj,R.nd.keep λi d p h1 h2=>?_⟩
 ·let⟨n,v,ev,hv⟩:=h m d q;exact⟨n,v,ev,hv.cU w (λq=>by rcases q with rfl|rfl<;>cases n) on λb=>(z b).mp⟩
 ·let⟨o,q⟩:=R.e.od a h;exact nn a o q
 ·cases q:H₀ a with
  |none=>rw[(z a).mp q]at h;cases h
  |some o0 =>
   let⟨o1,q1⟩:=R.e.hd a o0 q;exact nn a o1 q1
 ·rw[on a h]at e;exact R.e.on a o h e
 ·exact(R.ow a h).imp id (z a).mp
 ·let⟨qs,aQ,_,hO,_⟩:=R.e.nest h1 h2;exact on p hO
def VX{wi:TI}{g:TG}{tb:TS}{fg:M×D→Ev→Option Ev}{b:Qqq}{Ds:Ends}{fl:Fl}{m:M}{ds:Qzz}(hg:JG K g fg)(hb:JS K tb b)(R:Rel K H₀ I O H σ env)(hm:fH m=true)
  (hi:∀R',(∀J H',aG H H'→k9 K H₀ O J H' m ds→R' J H')→wi σ H R') (e:forL fg b m ds env=some fl) (q:oX K H₀ I O H Ds fl):oS wi g tb Ds σ H:=by
 refine hi _ λJ H1 s1 ok=>?_;have q1:=q.pre (aO.same s1);refine⟨λi n σ2 H2=>∃O2 dG,Rel K H₀ I O2 H2 σ2 dG∧aO O H1 O2 H2∧i≤ds.length∧n=ds.length-i∧forL fg b m (ds.drop i) dG=some fl,⟨_,O,env,R.keep s1,aO.refl,jt _,rfl,e⟩,?_⟩;rintro i n σ2 H2 ⟨O2,dG,R2,st,hle,rfl,ef⟩;by_cases aX:i<ds.length
 ·refine .inr ⟨ok.go O2 H2 i st aX,λσ' H'=>∃O2 dG,Rel K H₀ I O2 H' σ' dG∧aO O H1 O2 H'∧forL fg b m (ds.drop (i+1)) dG=some fl,?_,?_⟩
  ·rintro σ' H' ⟨O3,Ez,R3,bH,Ga⟩;exact⟨ds.length-(i+1),by omega,O3,Ez,R3,bH,aX,rfl,Ga⟩
  ·intro x H3 y;let⟨s3,d,hd,hv⟩:=ok.j6 O2 H2 i x H3 st aX y;have vR:ds.drop i=d::ds.drop (i+1):=by
    rw[Ft aX];rw[du aX]at hd;cases hd;rfl
   rw[vR]at ef;simp only[forL]at ef;let⟨e1,g1,ef⟩:=av ef;let⟨r,br,ef⟩:=av ef;refine hg H₀ I O2 H3 σ2 dG (m,d) x e1 _ (R2.keep s3) hm hv g1 λσ4 R4=>?_;have mP:=st.trans (aO.same (O:=O2) s3);refine hb H₀ I O2 H3 σ4 e1 _ r R4 br ?_;cases r with
   |nx e2=>exactλO5 H5 σ5 R5 fM=>⟨O5,e2,R5,mP.trans fM,ef⟩
   |ct e2=>exactλO5 H5 σ5 R5 fM=>⟨O5,e2,R5,mP.trans fM,ef⟩
   |bk e2=>cases ef;exact(q1.pre mP)
   |rt e2 m' d'=>cases ef;exact(q1.pre mP)
 ·have hi:i=ds.length:=by omega
  subst hi;rw[Fu]at ef;cases ef;exact .inl ⟨ok.stop O2 H2 st,q1 O2 H2 σ2 R2 st⟩
theorem Ent.at{aj:List (Key×V)}{ks:List (Key×D)}{i:Nat}{kv:Key×V}(h:Ent K N H aj ks)(e:aj[i]?=some kv):∃d,ks[i]?=some (kv.1,d)∧Rp K N H kv.2 d:=by
 induction aj generalizing ks i with
 |nil=>simp at e
 |cons p aj ih =>
  cases ks with
  |nil=>exact absurd h.len (by simp)
  |cons q ks =>
   let⟨e1,r,t⟩:=h.cons_inv;cases i with
   |zero=>simp only[List.getElem?_cons_zero,Option.some.injEq]at e;subst e;exact⟨q.2,by rw[PY,e1],r⟩
   |succ i=>let⟨d,h1,h2⟩:=ih t (by simpa using e);exact⟨d,by simpa using h1,h2⟩
end
end J
namespace J
open PySem
end J
namespace J
open PySem PySem.Spec PyProof.Rows L2
theorem xH:∀(ds:Qzz),cX ds=ds.map toPy
 |[]=>by simp[cX]
 |d::ds=>by simp[cX,xH ds]
section
variable {X:Cx}{pins:List (Addr×Obj)}{σ:L2.St}{H:Hp}{s:Shared}{N N':Addr→Prop}{A:Around}{a b:Addr}{aj lvs:List (Key×V)}{ks ls:List (Key×D)}
end
section
variable {X:Cx}{K:PySem.W.Frag}
end
theorem ints_of:∀{ns:List Int}{us:List Value},Vals (ns.map V.int) us→IntsAre us ns
 |[],_,.nil=>.nil
 |n::ns,_,.cons ⟨t,e⟩ r=>by subst e;exact .cons n t (ints_of r)
abbrev k6:Qzz→Option (List Int)
 |[]=>some []
 |.int x::r=>(k6 r).bind λxs=>some (x::xs)
 |_=>none
section
variable {K:PySem.W.Frag}{H:Hp}
theorem xP{N:Addr→Prop}:∀{ds:Qzz}{vs:List V}{ys:List Int},aB K N H vs ds→k6 ds=some ys→vs=ys.map V.int
 |_,_,_,.nil,e=>by cases e;rfl
 |d::ds,v::vs,ys,.cons h r,e=>by
  cases d<;>simp only[k6]at e<;>try (cases e;done)
  let⟨xs,ex,e⟩:=av e;cases e;rw[xP r ex,h.int_inv];rfl
end
structure zr (K:PySem.W.Frag)(x:Str)(st:Stmt)(f:Addr)(fd:FuncData):Prop where
 ex:∃(oc:Value) (od:Option Addr) (dV kV doc pm:Value) (an:Option Addr) (bX ct:Value) (j8:Array (Option Value)),
  fd=PySem.W.fnOf x x (gC st) (fE st) (cu st) dV kV doc pm an bX ct∧K.lookup f=some ⟨oc,od,.func fd,j8⟩∧PySem.W.codeIn K bX x=true
 kp:PySem.W.keepIn K (.ref f)=true
def zr.ok{P:Program}{w:World}{K:PySem.W.Frag}{mg:Str→Option Value}{base:Heap}{x:Str}{st:Stmt}{f:Addr}{fd:FuncData}{N ps:List Str}{k:Nat}{sp:Sp}(F:zr K x st f fd)(S:tX N ps (cu st))(len:∀vs H Q E,sp vs H Q E→vs.length=ps.length)
  (uD:∀(bX:Value) (A:Around) (outer:List Env) (s:Shared) (H:Hp) (vs:List V) (Q:VK) (E:XK),eU k (A.deeper (envOfC x (cu st) s.heap.objs.size f bX))→sp vs H Q E →
   ∃t,gX (nA mK P w K mg base N x (cu st) f bX A outer s H E).pT (fE st) t∧t { nx:=λ_ H'=>Q .non H',rt:=Q } (L2.start N vs) H):lZ P w K mg base mK (k+1) f fd ps sp:=by
 let⟨oc,od,dV,kV,doc,pm,an,bX,ct,j8,rfl,lk,iR⟩:=F.ex;refine Nv lk iR S len λA outer s H vs Q E hr lA=>?_;let⟨t,h,q⟩:=uD bX A outer s H vs Q E hr lA;exact⟨t,h.pT,q⟩
structure DfD (K:PySem.W.Frag)(mg:Str→Option Value)(x:Str)(st:Stmt)(ps:List Str)(dv:Value)(f:Addr)(fd:FuncData):Prop where
 mg:mg x=some (.ref f)
 fn:zr K x st f fd
 bd:Binds K fd ps []
 Au:Binds K fd ps [dv]
end J
namespace J
open PySem PySem.Spec PyProof.Rows L2
open Builtin Builtin.Str
section
variable {K:PySem.W.Frag}{H:Hp}
end
end J
namespace J
open PySem PySem.Spec PyProof.Rows L2
section
variable {prog:Program}{w:World}{A:Around}{E:Value→Shared→Prop}{s:Shared}{d:Addr}
def find_none{o:Obj}{es:Array DictEntry}{ep:Nat}{h:Int}{Q:Option Nat→Shared→Prop}(hu:A.units<cLine)(ho:s.heap.get? d=some o)(hd:o.data=.dict es ep)
  (hk:∀e∈es,∃ks b,e.key=.ref b∧(tupleKind (cG prog w)).is s.heap ks b) (hq:Q none s):wpAny (model prog w) A (dictFind d .none h) Q E s:=by
 unfold dictFind
 try with_reducible refine jY ?_
 refine aA (zS ho hd ?_);dsimp only;have iw:∀v∈(placesWithHash es.size (λi=>es[i]?.map (·.hash)) h).filterMap (λi=>es[i]?.map (·.key)),∃ks b,v=.ref b∧(tupleKind (cG prog w)).is s.heap ks b:=by
  intro v hv;let⟨i,_,hi⟩:=Fd.mp hv;cases lD:es[i]? with
  |none=>rw[lD]at hi;cases hi
  |some e =>
   rw[lD]at hi;obtain rfl:e.key=v:=by simpa using hi
   exact hk e (Array.mem_of_getElem? lD)
 cases hs:(placesWithHash es.size (λi=>es[i]?.map (·.hash)) h).filterMap (λi=>es[i]?.map (·.key)) with
 |nil =>
  rw[if_pos (by rfl)];have hp:placesWithHash es.size (λi=>es[i]?.map (·.hash)) h=[]:=by
   cases hp:placesWithHash es.size (λi=>es[i]?.map (·.hash)) h with
   |nil=>rfl
   |cons i r =>
    have hi:i∈placesWithHash es.size (λi=>es[i]?.map (·.hash)) h:=by rw[hp];exact cg
    have aX:i<es.size:=by
     unfold placesWithHash at hi;exact iQ.mp (mr.mp hi).1
    rw[hp,zF]at hs;simp[aX]at hs
  rw[hp];unfold dictWalkPlain;refine aA ?_;exact aN (aN hq)
 |cons v r =>
  let⟨ks,b,rfl,hb⟩:=iw v (by rw[hs];exact cg);rw[if_neg (by simp[carriedByValue])];rw[if_neg (by simp)];refine aA ?_;have ads:∀x∈(Value.ref b::r),∃ks b,x=.ref b∧(tupleKind (cG prog w)).is s.heap ks b:=by rw[←hs];exact iw
  have mt:∀{Q':Bool→Shared→Prop},Q' false s→wpAny (model prog w) A (tableMayTell .none (Value.ref b::r)) Q' E s:=λ{Q'} hq'=>by
   unfold tableMayTell;rw[if_neg (by simp)];refine aA (show wpAny _ _ (pure true) _ _ s from aN ?_);simp only[Bool.not_true,Bool.false_eq_true,if_false];refine aA ?_;refine wpAny_forIn_list _ (λrest r s'=>s'=s∧r=(none,())∧∀v∈rest,∃ks b,v=.ref b∧(tupleKind (cG prog w)).is s.heap ks b) _ ?_ ?_ _ _ ⟨rfl,rfl,ads⟩
   ·rintro x rest r s' ⟨rfl,rfl,hr⟩;let⟨k',b,rfl,hb⟩:=hr x cg;refine aA ((tupleKind (cG prog w)).quiet hb ?_);simp only[Bool.not_true,Bool.false_eq_true,if_false];exact aN ⟨rfl,rfl,λv hv=>hr v (cT _ hv)⟩
   ·rintro r s' ⟨rfl,rfl,_⟩;exact aN hq'
  refine mt ?_;rw[if_neg (by simp)];refine aA ?_;refine wpAny_forIn_list _ (λrest r s'=>s'=s∧r=(none,none)) _ ?_ ?_ _ _ ⟨rfl,rfl⟩
  ·rintro i rest r s' ⟨rfl,rfl⟩;cases lD:es[i]? with
   |none=>exact aN ⟨rfl,rfl⟩
   |some e =>
    let⟨ks,b,ek,hb⟩:=hk e (Array.mem_of_getElem? lD);dsimp only;by_cases hh:(e.hash==h)=true
    ·rw[if_pos hh,ek];let⟨ob,its,n,g1,g2,g3,_⟩:=hb;refine aA (vf ho hd (aA (SeqAt.EqAt.tuple_none (items:=its) ⟨ob,g1,g2,n,g3⟩ hu _ _ _ _ (aA (vf ho hd ?_)))));show wpAny _ _ (if (ep != ep)=true then _ else _) _ E _;rw[if_neg (by simp)];simp only[Bool.false_eq_true,if_false];refine aA (wpAny_rule ?_);simp only[Bool.false_and,Bool.false_eq_true,if_false];exact aN ⟨rfl,rfl⟩
    ·rw[if_neg hh];exact aN ⟨rfl,rfl⟩
  ·rintro r s' ⟨rfl,rfl⟩;exact aN hq
def get_none{xs:List (List Key×Addr×Value)}{r:Value}{Q:Value→Shared→Prop}(hu:A.units+1<cLine)(hs:(d==sysModules)=false)(dd:s.heap.DictOfH (tupleKind (cG prog w)) d xs)(hq:Q r { s with toks:=s.toks+1 }):wpAny (model prog w) A (call (.builtin "dict.get") [.ref d,.none,r]) Q E s:=by
 refine call_meetsIn zR dd.typeIs Fq (Fs _ _ _) (S:=λA R s=>A.in1.units<cLine∧s.heap.DictOfH (tupleKind (cG prog w)) d xs∧R (.ok (.ret r)) { s with toks:=s.toks+1 }) (.of_wp λA R s ⟨hu,hm,h⟩=>?_) ⟨hu,dd,hq⟩;let⟨o,es,ep,ho,_,hd,he,his,hn⟩:=hm;show wpAny _ _ (dictGet d .none >>= _) _ _ s;refine aA ?_;unfold dictGet
 try with_reducible refine jY ?_
 refine aA (IK (aA (find_none (s:={ s with toks:=s.toks+1 }) hu ho hd (λe m=>?_) ?_)))
 ·have:e∈xs.map (entryOfKey (tupleKind (cG prog w))):=he▸Array.mem_toList_iff.mpr m;let⟨x,hx,rfl⟩:=bQ.mp this;exact⟨x.1,x.2.1,rfl,his x hx⟩
 ·refine aN ?_;show wpAny _ _ (Builtin.Dict.missed d .none >>= _) _ _ _;exact aA (wpAny_missed_other hs (aN ⟨r,rfl,h⟩))
end
section
variable {prog:Program}{w:World}{A:Around}{E:Value→Shared→Prop}{s:Shared}
inductive oP {κ:Type}[DecidableEq κ](A:Around)(s:Shared)(kb:List (κ×Addr×Value)):List (κ×Addr×Value)→Bool→Prop
 |nil:oP A s kb [] true
 |miss {k:κ}{p:Addr×Value}{r:List (κ×Addr×Value)}:atKey kb k=none→oP A s kb ((k,p)::r) false
 |hit {k:κ}{p q:Addr×Value}{r:List (κ×Addr×Value)}{e b:Bool}:atKey kb k=some q→SeqAt.EqAt A s p.2 q.2 e→oP A s kb r b→oP A s kb ((k,p)::r) (e&&b)
def oP.inv{κ:Type}[DecidableEq κ]{kb:List (κ×Addr×Value)}{k:κ}{p:Addr×Value}{r:List (κ×Addr×Value)}{b:Bool}(h:oP A s kb ((k,p)::r) b) :
  (atKey kb k=none∧b=false)∨∃q e b',atKey kb k=some q∧SeqAt.EqAt A s p.2 q.2 e∧oP A s kb r b'∧b=(e&&b'):=by
 cases h with
 |miss hn=>exact .inl ⟨hn,rfl⟩
 |hit hy he hr=>exact .inr ⟨_,_,_,hy,he,hr,rfl⟩
end
def Raw(h:Heap)(d:Addr)(es:Array DictEntry)(ep:Nat):Prop:=∃o,h.get? d=some o∧o.ExactDict∧o.data=.dict es ep
def Raw.ty{s:Shared}{d:Addr}{es:Array DictEntry}{ep:Nat}(h:Raw s.heap d es ep):s.TypeIs (.ref d) "dict" := let ⟨o,a,b,_⟩:=h;⟨o,a,b.1⟩
section
variable {prog:Program}{w:World}{A:Around}{E:Value→Shared→Prop}{s:Shared}{d it:Addr}{es:Array DictEntry}{ep i n:Nat}
end
abbrev uY:HO→Bool
 |.dK _=>true
 |.dT _=>true
 |_=>false
abbrev pw:HO→List V
 |.dK aj=>aj.map (·.2)
 |.dT aj=>aj.map (·.2)
 |_=>[]
def Mx{u:HO}(h:uY u=true):(∀o v,u≠.aW o v)∧(∀xs,u≠.tup xs)∧(∀ps,u≠.mC ps)∧∀x,u≠.own x:=by
 cases u<;>first | (cases h;done)|exact⟨(λ_ _ z=>nomatch z),(λ_ z=>nomatch z),(λ_ z=>nomatch z),(λ_ z=>nomatch z)⟩
section
variable {X:Cx}{pins:List (Addr×Obj)}{σ:L2.St}{H:Hp}{s:Shared}{a it:Addr}
set_option tactic.hygienic true in
def aaj{P:Program}{w:World}{h:Heap}{u:HO}(hu:uY u=true)(ok:cB P w H h a u):∃o es ep,h.get? a=some o∧o.ExactDict∧o.data=.dict es ep∧es.size=(pw u).length∧(∀(i:Nat) x,(pw u)[i]?=some x→∃e,es[i]?=some e∧RelV x e.val)∧(a==sysModules)=false:=by
 cases u<;>try (cases hu;done)
 ·rename_i aj;let⟨z,lo,vs,rv,o,es,ep,ho,ex,hd,hk,hp,hn⟩:=ok;refine⟨o,es,ep,ho,ex,hd,?_,λi x e=>?_,lo⟩
  ·have e1:=hp.length;have e2:=rv.length;simp only[Array.length_toList]at e1;simp[pw,e1,e2]
  ·simp only[pw,List.getElem?_map,Option.map_eq_some_iff]at e;let⟨kv,fj,rfl⟩:=e;let⟨v,h1,h2⟩:=Dp rv fj;have hi:i<es.size:=by
    have:=(bp.mp h1).1;have e1:=hp.length;simp only[Array.length_toList]at e1;omega
   exact⟨es[i],by simp[hi],by rw[(hp.get? (e:=es[i]) (by simp[hi]) h1).2];exact h2⟩
 ·rename_i aj;let⟨z,lo,xs,r,o,es,ep,ho,ex,hd,he,hn⟩:=ok;refine⟨o,es,ep,ho,ex,hd,?_,λi x e=>?_,lo⟩
  ·rw[←nP,he,dZ,←cE r];simp[pw]
  ·simp only[pw,List.getElem?_map,Option.map_eq_some_iff]at e;let⟨kv,fj,rfl⟩:=e;have go:∀{l:List (List Key×V)}{m:List (List Key×Addr×Value)}{i:Nat}{kv:List Key×V},Paired (λ(p:List Key×V) (q:List Key×Addr×Value)=>p.1=q.1∧H q.2.1=some (.tup (p.1.map kV))∧RelV p.2 q.2.2) l m→l[i]?=some kv→∃y,m[i]?=some y∧RelV kv.2 y.2.2:=by
    intro l m i kv q
    induction q generalizing i with
    |nil=>intro e;simp at e
    |cons h t ih =>
     intro e;cases i with
     |zero=>simp at e;subst e;exact⟨_,rfl,h.2.2⟩
     |succ i=>exact ih (by simpa using e)
   let⟨y,h1,h2⟩:=go r fj;exact⟨entryOfKey (tupleKind (cG P w)) y,by rw[←nR,he,cF,h1];rfl,h2⟩
def NV{P:Program}{w:World}{h:Heap}{H':Hp}{u:HO}(hu:uY u=true)(ok:cB P w H h a u)(nt:∀b xs,H b=some (.tup xs)→H' b=some (.tup xs)):cB P w H' h a u:=by
 cases u<;>try (cases hu;done)
 ·exact ok
 ·let⟨z,lo,xs,r,m⟩:=ok;exact⟨z,lo,xs,Paired.lU r λp q z=>⟨z.1,nt _ _ z.2.1,z.2.2⟩,m⟩
def DV(i:Nat)(t:TS):TS:=λDs σ H=>∃a u,σ[i]?=some (some (.ref a))∧uY u=true ∧
 ((H a=some u∧∀o,t (adp a o u Ds) σ (upd H a (.aW o u)))∨((∃o,H a=some (.aW o u))∧t Ds σ H))
def XJ{st:Stmt}{t:TS}{i:Nat}(h:gA X st t):gA X st (DV i t):=by
 refine⟨λpins s σ H Ds I ht=>?_⟩;obtain⟨a,u,hs,hu,⟨e,ht⟩|⟨_,ht⟩⟩:=ht
 ·have ok:=I.aH a _ e;let⟨n1,n2,n3,n4⟩:=Mx hu;let⟨o,_,_,ho,_⟩:=aaj hu ok;have hf:∀o v,X.H₀ a≠some (.aW o v):=λo v z=>by rw[I.base.jL a o v z]at e;cases e;exact n1 _ _ rfl
  have nt:∀{H':Hp}{z z':HO},H' a=some z→(∀xs,z≠.tup xs)→∀b xs,H' b=some (.tup xs)→upd H' a z' b=some (.tup xs):=λe' nz b xs q=>by
   rw[aI (qM q e' (λw=>nz xs w.symm))];exact q
  have I1:L2.Inv X pins σ (upd H a (.aW o u)) s:=Mw I e n2 n3 n4 hf ⟨ho,NV hu ok (nt e n2)⟩;have th:∀{σ':L2.St}{H':Hp}{s':Shared},L2.Inv X pins σ' H' s'→H' a=some (.aW o u)→L2.Inv X pins σ' (upd H' a u) s':=λI' e' =>
   Mw I' e' (λ_ z=>nomatch z) (λ_ z=>nomatch z) (λ_ z=>nomatch z) hf (NV hu (I'.aH a _ e').2 (nt e' (λ_ z=>nomatch z)))
  refine aJ (h.go pins s σ _ _ I1 (ht o)) λf s' q=>?_;cases f with
  |next=>let⟨σ',H',I',e',q⟩:=q;exact⟨σ',_,th I' e',q⟩
  |brk=>let⟨σ',H',I',e',q⟩:=q;exact⟨σ',_,th I' e',q⟩
  |cont=>let⟨σ',H',I',e',q⟩:=q;exact⟨σ',_,th I' e',q⟩
  |ret v=>let⟨v',σ',H',I',sg,e',q⟩:=q;exact⟨v',σ',_,th I' e',sg,q⟩
 ·exact h.go pins s σ H Ds I ht
end
end J
namespace J
open PySem L2
section
variable {K:PySem.W.Frag}{N:Addr→Prop}{H H' H₀ H₁:Hp}{I:Nat→Option Addr}{O:Addr→Prop}{σ:L2.St}{env:Ev}
abbrev vsD:D→Option (Qzz)
 |.dk ks=>some (ks.map (·.2))
 |.dt ks=>some (ks.map (·.2))
 |_=>none
abbrev DR(K:PySem.W.Frag)(N:Addr→Prop)(H:Hp):HO→D→Prop
 |.dK aj,.dk ks=>Ent K N H aj ks
 |.dT aj,.dt ks=>Ent K N H aj ks
 |_,_=>False
def DR.dc{u:HO}{d:D}(h:DR K N H u d):uY u=true:=by cases u<;>cases d<;>first|rfl|exact h.elim
def DR.vs{u:HO}{d:D}{ds:Qzz}(h:DR K N H u d)(e:vsD d=some ds):aB K N H (pw u) ds:=by
 cases u<;>cases d<;>first|exact h.elim|skip
 ·cases e;exact h.2
 ·cases e;exact h.2
def DR.mono{N':Addr→Prop}{u:HO}{d:D}(h:DR K N H u d)(w:∀{vs:List V}{ds:Qzz},aB K N H vs ds→aB K N' H' vs ds):DR K N' H' u d:=by
 cases u<;>cases d<;>first|exact h.elim|exact⟨h.1,w h.2⟩
def yU(src:D→Option (Qzz))(i:Nat)(g:M×D→Ev→Option Ev)(b:Qqq):Qqq:=λe=>match e[i]? with
 |some (some (m,d))=>if fH m=true then (src d).bind λds=>forL g b m ds e else none
 |_=>none
set_option tactic.hygienic true in
def XM{i:Nat}{wi:TI}{src:D→Option (Qzz)}{g:TG}{tb:TS}{fg:M×D→Ev→Option Ev}{b:Qqq}(hd:∀d ds,src d=some ds→(∃ks,d=.dk ks)∨∃ks,d=.dt ks)
  (hw:∀(G:Hp) (O:Addr→Prop) (H1:Hp) (σ:L2.St) (m:M) (a:Addr) (o:Obj) (u:HO) (d:D) (ds:Qzz),fH m=true→σ[i]?=some (some (.ref a))→H1 a=some (.aW o u)→¬O a→DR K (NM G O m) H1 u d→src d=some ds→(∀a o,O a→H1 a=some o→¬hJ o)→∀R',(∀J H',aG H1 H'→k9 K G O J H' m ds→R' J H')→wi σ H1 R')
  (hg:JG K g fg) (hb:JS K tb b):JS K (DV i (oS wi g tb)) (yU src i fg b):=by
 intro H₀ I O H σ env Ds fl R e q;unfold yU at e;split at e
 ·rename_i m d he;split at e
  ·rename_i hm;let⟨ds,ed,e⟩:=av e;let⟨v,hv,_,hz⟩:=R.e.at he;have hz':∃a u,v=.ref a∧Rd H a u∧¬O a∧DR K (NM H₀ O m) H u d:=by
    rcases hd d ds ed with⟨_,rfl⟩|⟨_,rfl⟩
    ·cases m<;>try (cases hm;done)
     ·cases hz with|dk r n e q=>exact⟨_,_,rfl,r,n,e,q⟩
     ·cases hz with|dk r n e q=>exact⟨_,_,rfl,r,n.1,e,q⟩
    ·cases m<;>try (cases hm;done)
     ·cases hz with|dt r n e q=>exact⟨_,_,rfl,r,n,e,q⟩
     ·cases hz with|dt r n e q=>exact⟨_,_,rfl,r,n.1,e,q⟩
   let⟨a,u,rfl,rd,na,dr⟩:=hz';have hu:=dr.dc;let⟨n1,n2,_,_⟩:=Mx hu;have run:∀{G H1:Hp}{o:Obj}{Es:Ends},Rel K G I O H1 σ env→H1 a=some (.aW o u)→DR K (NM G O m) H1 u d→oX K G I O H1 Es fl→oS wi g tb Es σ H1:=λR1 e1 en1 q1 =>
    VX hg hb R1 hm (hw _ _ _ σ m a _ u d ds hm hv e1 na en1 ed R1.e.on) e q1
   refine⟨a,u,hv,hu,?_⟩;rcases rd with e1|⟨o,e1⟩
   ·refine .inl ⟨e1,λo=>?_⟩;have w:p9 H (upd H a (.aW o u)):=⟨λb v _ h=>by
     by_cases z:b=a
     ·subst z;rcases h with h|⟨o',h⟩
      ·rw[e1]at h;cases h;exact .inr ⟨o,bN⟩
      ·rw[e1]at h;cases h;exact absurd rfl (n1 _ _)
     ·unfold Rd at h ⊢;rw[aI z];exact h,λb xs h=>by rw[aI (qM h e1 (λz=>n2 _ z.symm))];exact h⟩
    have nO:∀p,O p→p≠a:=λp h z=>na (z▸h);have zz:∀b,H₀ b=none↔(λb=>if b=a then (H₀ a).map (λ_=>HO.aW o u)else H₀ b) b=none:=λb=>by
     by_cases z:b=a
     ·subst z;simp
     ·simp[z]
    have R1:Rel K (λb=>if b=a then (H₀ a).map (λ_=>HO.aW o u)else H₀ b) I O (upd H a (.aW o u)) σ env:=by
     refine R.cU w (λp h=>aI (nO p h)) zz (λb v h=>?_) λb v n h=>?_
     ·by_cases z:b=a
      ·subst z;exact⟨_,bN⟩
      ·exact⟨v,by rw[aI z];exact h⟩
     ·by_cases z:b=a
      ·subst z;simp only[if_true]at h;cases q0:H₀ b with
       |none=>rw[q0]at h;cases h
       |some u0=>rw[q0]at h;cases h;exact bN
      ·simp only[z,if_false]at h;rw[aI z];exact R.fr b v n h
    have back:∀{O':Addr→Prop}{H':Hp},aO O (upd H a (.aW o u)) O' H'→H' a=some (.aW o u)∧aO O H O' (upd H' a u) ∧
      (∀{σ':L2.St}{env':Ev},Rel K (λb=>if b=a then (H₀ a).map (λ_=>HO.aW o u)else H₀ b) I O' H' σ' env'→Rel K H₀ I O' (upd H' a u) σ' env') ∧
      ∀{m:M}{d:D}{v:V},Val K (λb=>if b=a then (H₀ a).map (λ_=>HO.aW o u)else H₀ b) O' HE H' m d v→Val K H₀ O' HE (upd H' a u) m d v:=λ{O' H'} st=>by
     let⟨ha,QO⟩:=st a _ bN na;have w':p9 H' (upd H' a u):=⟨λb v nf h=>by
      by_cases z:b=a
      ·subst z;rcases h with h|⟨o',h⟩
       ·rw[ha]at h;cases h;cases nf
       ·rw[ha]at h;cases h;exact .inl bN
      ·unfold Rd at h ⊢;rw[aI z];exact h,λb xs h=>by rw[aI (qM h ha (λz=>nomatch z))];exact h⟩
     have QP:∀p,O' p→upd H' a u p=H' p:=λp h=>aI λz=>QO (z▸h);refine⟨ha,λb v h n=>?_,λR'=>?_,λiE=>iE.cU w' (λ_ p d N c=>?_) QP λb=>(zz b).mpr⟩
     ·by_cases z:b=a
      ·subst z;rw[e1]at h;cases h;exact⟨bN,QO⟩
      ·let⟨h1,h2⟩:=st b v (by rw[aI z];exact h) n;exact⟨by rw[aI z];exact h1,h2⟩
     ·refine R'.cU w' QP (λb=>(zz b).symm) (λb v h=>?_) λb v n h=>?_
      ·by_cases z:b=a
       ·subst z;exact⟨_,bN⟩
       ·exact⟨v,by rw[aI z];exact h⟩
      ·by_cases z:b=a
       ·subst z;have h2:=R.fr b v n h;rw[e1]at h2;cases h2;exact bN
       ·rw[aI z];exact R'.fr b v n (by simp only[z,if_false];exact h)
     ·refine aI λz=>?_;subst z;cases d<;>simp only[Cell]at c
      all_goals (let⟨xs,q,_⟩:=c;rw[ha]at q;cases q)
    refine run R1 bN (dr.mono λr=>(r.cU w).wk λb n _=>?_) ?_
    ·cases m<;>try (cases hm;done)
     ·exact n
     ·exact⟨n.1,(zz b).mp n.2⟩
    ·cases fl with
     |nx e'=>exactλO' H' σ' R' st=>⟨(back st).1,q _ _ _ ((back st).2.2.1 R') (back st).2.1⟩
     |bk e'=>exactλO' H' σ' R' st=>⟨(back st).1,q _ _ _ ((back st).2.2.1 R') (back st).2.1⟩
     |ct e'=>exactλO' H' σ' R' st=>⟨(back st).1,q _ _ _ ((back st).2.2.1 R') (back st).2.1⟩
     |rt e' m' d'=>exactλO' H' σ' v R' st iE=>⟨(back st).1,q _ _ _ v ((back st).2.2.1 R') (back st).2.1 ((back st).2.2.2 iE)⟩
   ·exact .inr ⟨⟨o,e1⟩,run R e1 dr q⟩
  ·cases e
 ·cases e
end
end J
namespace J
open PySem PySem.Spec PyProof.Rows L2
def keysOf:Qzz→Option (List Key)
 |[]=>some []
 |d::ds=>(keyOf d).bind λk=>(keysOf ds).map λks=>k::ks
def lg:D→Option (List Key)
 |.tup ds=>if ds.length<4 then keysOf ds else none
 |_=>none
abbrev ml:D→Option (List (List Key×D))
 |.dt ks=>some ks
 |_=>none
def x9{d:D}{ks:List (List Key×D)}(h:ml d=some ks):d=.dt ks:=by cases d<;>simp only[ml]at h<;>cases h;rfl
section
variable {K:PySem.W.Frag}{N:Addr→Prop}{H H' H₀:Hp}{I:Nat→Option Addr}{O:Addr→Prop}{σ:L2.St}{env:Ev}
theorem Iq:∀{ds:Qzz}{ks:List Key}{vs:List V},keysOf ds=some ks→aB K N H vs ds→vs=ks.map kV
 |[],_,_,e,.nil=>by cases e;rfl
 |d::ds,_,_,e,.cons h r=>by
  let⟨k,e1,e⟩:=av e;cases e2:keysOf ds with
  |none=>rw[e2]at e;cases e
  |some l=>rw[e2]at e;cases e;rw[Iq e2 r,oz e1 h];rfl
set_option tactic.hygienic true in
def tS{d:D}{ks:List Key}{v:V}(e:lg d=some ks)(h:Rp K N H v d):∃b,v=.ref b∧H b=some (.tup (ks.map kV)):=by
 cases d<;>try (cases e;done)
 rename_i ds;simp only[lg]at e;split at e
 ·rename_i hl;cases h with
  |tup q r =>
   have:=r.len;have z:=q.own (by omega);rw[Iq e r]at z;exact⟨_,rfl,z⟩
 ·cases e
theorem Val.dt{m:M}{ks:List (List Key×D)}{v:V}{Hb:Hp}(h:Val K H₀ O Hb H m (.dt ks) v):∃a aj,v=.ref a∧Rd H a (.dT aj)∧Ent K (NM H₀ O (aY m)) H aj ks:=by
 cases m<;>simp only[Val,Cell]at h
 ·cases h with|dt r n e q=>exact⟨_,_,rfl,r,e,q⟩
 ·cases h with|dt r n e q=>exact⟨_,_,rfl,r,e,q⟩
 ·let⟨p,rfl,_,_,_,xs,q,e,r⟩:=h;exact⟨_,_,rfl,.inl q,e,r.wk λa h _=>h.1⟩
 ·let⟨p,rfl,_,_,xs,q,e,r⟩:=h;exact⟨_,_,rfl,.inl q,e,r⟩
 ·let⟨p,rfl,_,xs,q,e,r⟩:=h;exact⟨_,_,rfl,.inl q,e,r⟩
 ·cases h with|dt r n e q=>exact⟨_,_,rfl,r,e,q⟩
 ·let⟨p,qs,aQ,rfl,e2,_⟩:=h;cases e2
 ·let⟨_,_,_,_,e2,_⟩:=h;cases e2
abbrev uI:Qqj:=λ_=>some (.un,.dt [])
def XO:JT K L8 uI:=by
 intro H₀ O H σ env Q m d R h q;cases h;intro p hp;exact q _ _ (cW hp) ⟨p,rfl,hp,kC R.hd hp,iG R.od hp,[],bN,rfl,.nil⟩
def k7(fd fk:Qqj):Qqj:=λe=>(fd e).bind λx=>(fk e).bind λy=>(ml x.2).bind λks=>(lg y.2).bind λk=>(cS ks k).bind λd=>some (aY x.1,d)
def XQ{td ty:TE}{fd fk:Qqj}(hd:JT K td fd)(hk:JT K ty fk):JT K (DJ td ty) (k7 fd fk):=by
 intro H₀ O H σ env Q m d R h q;let⟨x,ex,h⟩:=av h;let⟨y,ey,h⟩:=av h;let⟨ks,iX,h⟩:=av h;let⟨k,ek,h⟩:=av h;let⟨d',ed,h⟩:=av h;cases h;refine hd H₀ O H σ env _ x.1 x.2 R ex λv H1 s1 h1=>?_;refine hk H₀ O H1 σ env _ y.1 y.2 (R.keep s1) ey λw H2 s2 h2=>?_;rw[x9 iX]at h1;let⟨a,aj,rfl,rd,en⟩:=(h1.keep s2).dt;let⟨b,rfl,hb⟩:=tS ek h2.weak;rcases en.val k with⟨z,_⟩|⟨d2,v2,z1,z2,r⟩
 ·rw[z]at ed;cases ed
 ·rw[z1]at ed;cases ed;exact⟨a,v2,rfl,.inr ⟨aj,k,b,rd,rfl,hb,z2.symm⟩,q v2 H2 (s1.trans s2) (Val.el r)⟩
def adt(H:Hp)(a:Addr)(y:V)(r:Option V):Prop:=iN H a y r∨∃aj,Rd H a (.dT aj)∧y=.non∧r=none
abbrev Mz(td ty tx:TE):TE:=λσ H Q=>td σ H λx H1=>∃a,x=.ref a∧Qk H1 a∧ty σ H1 λy H2=>tx σ H2 λz H3=>∃o,adt H3 a y o∧Q (o.getD z) H3
def VY {X:Cx}{td ty tx:TE}{o e f:Expr}{apos di:Pos} (hu:X.A.units+1<cLine) (ho:PE X o td) (he:PE X e ty) (hf:PE X f tx) (m:M2 X o "get" apos e f di):PE X (.Call (.Attribute o "get" apos) [e,f] [] di) (Mz td ty tx):=by
 intro pins s σ H Q I h;refine wpAny_Call_method m.base m.few m.line PySem.F.plainAttrs_dict zR PySem.F.type_dict_get (aJ (ho pins s σ H _ I h) λu s1 ⟨x,H1,I1,rx,a,ex,d,q1⟩=>?_);subst ex;obtain rfl:u=Value.ref a:=rx;let⟨t1,t2,_⟩:=Zf I1 d;refine⟨t1,t2,?_⟩;rw[m.trees];refine Fo rfl (Calls.evalArgs_plain (vb (aJ (he pins s1 σ H1 _ I1 q1) λiv s2 ⟨y,H2,I2,ry,q2⟩ =>
  vb (aJ (hf pins s2 σ H2 _ I2 q2) λfv s3 ⟨z,H3,I3,rz,ov,g,q3⟩=>Calls.spliced_nil ?_))))
 rcases g with g|⟨aj,rd,ey,er⟩
 ·exact Zg hu I3 g ry rz λw' s4 I4 kc=>⟨_,H3,I4,kc,q3⟩
 ·subst ey er;cases (show iv=Value.none from ry);let⟨_,lo,xs,_,dd⟩:=m6 I3.aH rd;exact get_none hu lo dd ⟨_,H3,I3.tok _,rz,q3⟩
def uv(fd fk fx:Qqj):Qqj:=λe=>(fd e).bind λx=>(fk e).bind λy=>(fx e).bind λz=>(ml x.2).bind λks=>match y.2 with
 |.non=>if z.2.cq=true then some (.fr,z.2)else none
 |d=>(lg d).bind λk=>match cS ks k with
  |some d=>some (aY x.1,d)
  |none=>if z.2.cq=true then some (.fr,z.2)else none
def VZ{td ty tx:TE}{fd fk fx:Qqj}(hd:JT K td fd)(hk:JT K ty fk)(hx:JT K tx fx):JT K (Mz td ty tx) (uv fd fk fx):=by
 intro H₀ O H σ env Q m d R h q;let⟨x,ex,h⟩:=av h;let⟨y,ey,h⟩:=av h;let⟨z,ez,h⟩:=av h;let⟨ks,iX,h⟩:=av h;refine hd H₀ O H σ env _ x.1 x.2 R ex λv H1 s1 h1=>?_;rw[x9 iX]at h1;let⟨a,adu,rfl,rd0,_⟩:=h1.dt;refine⟨a,rfl,.inr ⟨adu,rd0⟩,hk H₀ O H1 σ env _ y.1 y.2 (R.keep s1) ey λw H2 s2 h2=>?_⟩;refine hx H₀ O H2 σ env _ z.1 z.2 ((R.keep s1).keep s2) ez λu H3 s3 h3=>?_;let⟨a',aj,e',rd,en⟩:=((h1.keep s2).keep s3).dt;cases e';have s:=(s1.trans s2).trans s3;have dflt:(if z.2.cq=true then some (M.fr,z.2)else none)=some (m,d)→Q u H3:=λh=>by
  split at h
  ·rename_i hi;cases h;exact q u H3 s (show Rp K _ H3 u z.2 from h3.weak.im hi)
  ·cases h
 split at h
 ·rename_i hy;rw[hy]at h2;exact⟨none,.inr ⟨aj,rd,h2.non,rfl⟩,dflt h⟩
 ·let⟨k,ek,h⟩:=av h;let⟨b,rfl,hb⟩:=tS ek h2.weak;refine⟨fq aj k,.inl (.inr ⟨aj,k,b,rd,rfl,s3 _ _ hb,rfl⟩),?_⟩;rcases en.val k with⟨z1,z2⟩|⟨d2,v2,z1,z2,r⟩
  ·rw[z1]at h;rw[z2];exact dflt h
  ·rw[z1]at h;cases h;rw[z2];exact q v2 H3 s (Val.el r)
def nG(i:Nat)(e:Ev):Option (M×List (List Key×D)):=match e[i]? with
 |some (some (m,.dt ds))=>if own m=true then some (m,ds)else none
 |_=>none
def K3{i:Nat}{e:Ev}{m:M}{ds:List (List Key×D)}(h:nG i e=some (m,ds)):e[i]?=some (some (m,.dt ds))∧own m=true:=by
 unfold nG at h;split at h
 ·rename_i e;split at h
  ·cases h;exact⟨e,by assumption⟩
  ·cases h
 ·cases h
def Rel.adv{i:Nat}{m:M}{ds:List (List Key×D)}(R:Rel K H₀ I O H σ env)(h:nG i env=some (m,ds)):∃p aj,σ[i]?=some (some (.ref p))∧O p∧H p=some (.dT aj)∧Ent K (λa=>¬O a∧H₀ a=none) H aj ds:=by
 let⟨e,o⟩:=K3 h;let⟨v,hv,n,hm⟩:=R.e.at e;cases m<;>simp only[own]at o<;>try (cases o;done)
 ·let⟨p,rfl,h1,h2,xs,c,z,r⟩:=hm;exact⟨p,xs,hv,h1,c,z,r⟩
 ·let⟨p,rfl,h1,xs,c,z,r⟩:=hm;exact⟨p,xs,hv,h1,c,z,r⟩
def Rel.adw{i:Nat}{m:M}{ds:List (List Key×D)}{p:Addr}{xs ys:List (List Key×V)}{es:List (List Key×D)}(R:Rel K H₀ I O H σ env)(h:nG i env=some (m,ds))(hp:σ[i]?=some (some (.ref p)))(hx:H p=some (.dT xs))(r:Ent K (λa=>¬O a∧H₀ a=none) H ys es) :
  Rel K H₀ I O (L2.upd H p (.dT ys)) σ (env.set i (some (m,.dt es)))∧aO O H O (L2.upd H p (.dT ys)):=by
 let⟨e,o⟩:=K3 h;have hO:=(R.oF e o hp).1;exact R.mut e o hp ⟨ys,bN,r.1,r.2.upd hO hx (λz=>z)⟩
def m9(i:Nat)(fk fe:Qqj):Qqq:=λe=>(fe e).bind λx=>(fk e).bind λy=>(lg y.2).bind λk=>if c9 x.1 x.2=true then (nG i e).bind λz=>if z.2.length<sizeLine then some (.nx (e.set i (some (z.1,.dt (putD z.2 k x.2)))))else none else none
def XR{i:Nat}{t tk:TE}{f fk:Qqj}(h:JT K t f)(hk:JT K tk fk):JS K (uE (ik i) tk t) (m9 i fk f):=by
 intro H₀ I O H σ env Ds fl R e q;let⟨x,ex,e⟩:=av e;let⟨y,ey,e⟩:=av e;let⟨k,ek,e⟩:=av e;split at e
 ·rename_i hs;let⟨⟨m,ds⟩,ez,e⟩:=av e;split at e
  ·rename_i hl;cases e;let⟨p,aj,hp,hO,hx,r⟩:=R.adv ez;refine h H₀ O H σ env _ x.1 x.2 R.e ex λv H1 s1 h1=>?_;refine⟨.ref p,hp,?_⟩;refine hk H₀ O H1 σ env _ y.1 y.2 (R.keep s1).e ey λw H2 s2 h2=>?_;let⟨b,rfl,hb⟩:=tS ek h2.weak;have s:=s1.trans s2;refine⟨p,_,rfl,.inr ⟨aj,k,b,s _ _ hx,rfl,hb,by rw[r.len];exact hl,rfl⟩,?_⟩;let⟨R2,st⟩:=(R.keep s).adw (ys:=putK aj k v) (es:=putD ds k x.2) ez hp (s _ _ hx) (Ent.put ⟨r.1,r.2.keep (.same s)⟩ ((h1.keep s2).c9 hs));exact q O _ σ R2 ((aO.same s).trans st)
  ·cases e
 ·cases e
end
section
variable {K:PySem.W.Frag}{N:Addr→Prop}{H H' H₀:Hp}{I:Nat→Option Addr}{O:Addr→Prop}{σ:L2.St}{env:Ev}
def EF(k:List Key):D:=.tup (k.map pv)
def MA{N:Addr→Prop}(k:Key):Rp K N H (kV k) (pv k):=by
 cases k with
 |inl i=>exact .int i
 |inr x=>exact .str x
 |non=>exact .non
theorem JW{N:Addr→Prop}:∀ks:List Key,aB K N H (ks.map kV) (ks.map pv)
 |[]=>.nil
 |k::ks=>.cons (MA k) (JW ks)
def uw:List (M×D)→Qzq
 |[(m,.dt ks)]=>if own m=true∨m=.un then some (.un,.lst (ks.map λkv=>EF kv.1))else none
 |_=>none
def Uc{X:Cx}(h:X.K=K)(hc:X.calm=true):iJ X (.type "list") (λxs H Q=>∃d aj,xs=[.ref d]∧H d=some (.dT aj)∧∀l bs,H l=none→qD H (aj.map (·.1)) bs→Q (.ref l) (upd H l (.lst (bs.map V.ref)))):=Tr hc
theorem Ir{N:Addr→Prop}{p:Addr}{o:HO}(hp:H p=none):∀{ks:List (List Key)}{bs:List Addr},qD H ks bs→aB K N (upd H p o) (bs.map V.ref) (ks.map EF)
 |_,_,.nil=>.nil
 |_,_,.cons h t=>.cons (.tup (.inl (by rw[aI (eR h hp)];exact h)) (JW _)) (Ir hp t)
set_option tactic.hygienic true in
def UN:lE K (λxs H Q=>∃d aj,xs=[.ref d]∧H d=some (.dT aj)∧∀l bs,H l=none→qD H (aj.map (·.1)) bs→Q (.ref l) (upd H l (.lst (bs.map V.ref)))) uw:=by
 intro H₀ O H vs ay Q m d od hd hv h q;unfold uw at h;split at h
 ·rename_i m0 ks;split at h
  ·rename_i hm;cases h;let⟨v,rfl,hw⟩:=hv.one;have:∃p aj,v=.ref p∧H p=some (.dT aj)∧aj.map (·.1)=ks.map (·.1):=by
    cases m0<;>simp only[own,Bool.false_eq_true,false_or,reduceCtorEq,or_false,or_self]at hm<;>simp only[Val,Cell]at hw
    ·let⟨p,rfl,_,_,_,xs,c,z,_⟩:=hw;exact⟨p,xs,rfl,c,z⟩
    ·let⟨p,rfl,_,_,xs,c,z,_⟩:=hw;exact⟨p,xs,rfl,c,z⟩
    ·let⟨p,rfl,_,xs,c,z,_⟩:=hw;exact⟨p,xs,rfl,c,z⟩
   let⟨p,aj,rfl,e,ek⟩:=this;refine⟨p,aj,rfl,e,λl bs hl ka=>q _ _ (cW hl) ⟨l,rfl,hl,kC hd hl,iG od hl,_,bN,?_⟩⟩;rw[ek]at ka;have:=Ir (K:=K) (N:=λa=>(¬O a∧H₀ a=none)∧a≠l) (o:=.lst (bs.map V.ref)) hl ka;rw[gw]at this;exact this
  ·cases h
 ·cases h
def UO{X:Cx}(h:X.K=K)(hc:X.calm=true):iJ X (.builtin "sum") (λxs H Q=>∃(p:Addr) (ns:List Int),xs=[.ref p]∧b0 K H p (ns.map V.int)∧Q (.int ns.sum) H):=by
 subst h;intro pins s σ H xs us Q I r h;let⟨p,ns,rfl,hq,q⟩:=h;let⟨u,rfl,ru⟩:=vals1 r;cases ru;let⟨its,rv,pl,hz⟩:=I.list hq;have hi:=ints_of rv;let⟨ys,ey⟩:=hi.allInts.items;refine sum_intListG (I.ok.hd hc) (by rw[←ey];exact pl.isList) λh' tk t' hk=>⟨.int ns.sum,H,I.kept (t':=tk) hk,⟨t',?_⟩,q⟩;rw[preSum_eq,List.take_of_length_le (by simp),←nums_intItems,←ey];rw[show its.toArray.toList=its from rfl,hi.numsOf]
def uZ:List (M×D)→Qzq
 |[(_,.lst ds)]=>(k6 ds).bind λns=>some (.fr,.int ns.sum)
 |_=>none
def XS:lE K (λxs H Q=>∃(p:Addr) (ns:List Int),xs=[.ref p]∧b0 K H p (ns.map V.int)∧Q (.int ns.sum) H) uZ:=by
 intro H₀ O H vs ay Q m d _ _ hv h q;unfold uZ at h;split at h
 ·let⟨ns,en,h⟩:=av h;cases h;let⟨v,rfl,hw⟩:=hv.one;let⟨p,xs,rfl,hs,r⟩:=hw.lst;rw[xP r en]at hs;exact⟨p,ns,rfl,hs,q _ H (aG.refl H) jJ⟩
 ·cases h
end
section
variable {K:PySem.W.Frag}{N:Addr→Prop}{H H' H₀:Hp}{I:Nat→Option Addr}{O:Addr→Prop}{σ:L2.St}{env:Ev}
abbrev uJ(n:Nat):List V:=(List.range n).map λ(k:Nat)=>.int (0+(k:Int))
def QQ(ta:TA):TE:=λσ H Q=>ta σ H λvs H1=>∃j:Int,vs=[.int j]∧-(2^62)≤j∧j≤16777216∧∀l,H1 l=none→Q (.ref l) (upd H1 l (.lst (uJ j.toNat)))
theorem tL:∀{n:Nat}{acc:List Value}{c:Int},acc.length=n→(∀(j:Nat) v,acc[j]?=some v→∃t,v=.int (c+(j:Int)) t)→Vals ((List.range n).map λ(k:Nat)=>V.int (c+(k:Int))) acc
 |_,[],_,e,_=>by subst e;exact .nil
 |_,v::acc,c,e,h=>by
  subst e;rw[f6,List.range_succ_eq_map,cY,gw];refine .cons (h 0 v rfl) ?_;have:=tL (c:=c+1) (acc:=acc) rfl λj w hw=>by
   let⟨t,e⟩:=h (j+1) w (by simpa using hw);exact⟨t,by rw[e];congr 1;omega⟩
  have e2:((λ(k:Nat)=>V.int (c+(k:Int)))∘Nat.succ)=λ(k:Nat)=>V.int (c+1+(k:Int)):=funext λk=>by
   show V.int (c+((k+1:Nat):Int))=_;congr 1;omega
  rw[e2];exact this
def abK {X:Cx}{a:Expr}{ta:TA}{p pos p' pos':Pos} (hc:X.calm=true) (Gu:Gl X "list") (kj:X.mg "list" = none) (hg:Gl X "range") (hm:X.mg "range" = none) (ha:PA X [a] ta) (hs:starEach [a] X.env=[(false,eval a X.env)]:=by rfl):PE X (.Call (.Name "list" p') [.Call (.Name "range" p) [a] [] pos] [] pos') (QQ ta):=by
 intro pins s σ H Q I h;refine Call_ (kQ I Gu kj PyProof.Rows.Boot.«list» (pI ?_ rfl rfl));show wpAny _ _ (spliced ((false,eval (.Call (.Name "range" p) [a] [] pos) X.env)::backTo pos' (starEach [] X.env))) _ _ s;refine vb ?_;refine Call_ (kQ I hg hm boot_range (pI (aJ (ha pos pins s σ H _ I h) λus s1 ⟨vs,H1,I1,r1,q1⟩=>?_) hs rfl));let⟨j,e,q1,q2,q⟩:=q1;subst e;cases r1 with
 |cons r rr =>
  cases rr;let⟨t,rfl⟩:=r;refine call_range_1 (args_nil ?_);have h62:(2:Int)^62=4611686018427387904:=by decide
  have en:Builtin.Range.rangeSize 0 j 1=(j.toNat:Int):=by rw[rangeSize_one];split<;>omega
  refine call_list_range (I1.ok.hd hc) (IsRange.new ..) (small_one (by omega) (by omega) q1 (by omega)) en (by rw[show(2:Nat)^24=16777216 by decide];omega) λh' tk acc c hk hS hI=>?_;have I2:L2.Inv X pins σ H1 { s1 with heap:=s1.heap.push { cls:=.type "range",data:=.fields #[.int 0 s1.toks,.int j t,.int 1 (s1.toks+1)] },toks:=s1.toks+1+1 }:=I1.kept (t':=s1.toks+1+1) λb o e=>cw _ e;refine⟨.ref _,_,I2.laid (t':=tk) (o:=.lst (uJ j.toNat)) hk (aU _) ?_,rfl,q _ (I2.aH.fresh (aU _))⟩;refine⟨?_,acc.toList,c,tL (by rw[nP];exact hI.1) (λi v hv=>?_),by rw[Array.toArray_toList];exact hS⟩
  ·have:sizeLine=16777216:=by decide
   rw[this,uJ,dZ,vj];omega
  ·let⟨t',e⟩:=hI.2 i v (by rw[←nR];exact hv);exact⟨t',by rw[e,Int.mul_one]⟩
def Av(fs:Qqz):Qqj:=λe=>(fs e).bind λl=>match l with
 |[(_,.int j)]=>if -4611686018427387904≤j∧j≤16777216 then some (.un,.lst (cj 0 j.toNat))else none
 |_=>none
def XT:∀n,aB K N H (uJ n) (cj 0 n):=λn=>by
 unfold uJ cj
 induction (List.range n) with
 |nil=>exact .nil
 |cons a l ih=>exact .cons (.int _) ih
def abL{t:TA}{fs:Qqz}(h:iB K t fs):JT K (QQ t) (Av fs):=by
 intro H₀ O H σ env Q m d R e q;let⟨l,el,e⟩:=av e;split at e
 ·split at e
  ·rename_i hj;cases e;refine h H₀ O H σ env _ _ R el λvs H1 s1 h1=>?_;let⟨v,rfl,hv⟩:=h1.one;obtain rfl:=hv.int;have R1:=R.keep s1;exact⟨_,rfl,by rw[Ap];exact hj.1,hj.2,λl hl=>q _ _ (s1.trans (cW hl)) ((tR R1.od R1.hd hl (XT _)).hb λa z=>s1.free z)⟩
  ·cases e
 ·cases e
end
end J
namespace J
open PySem L2
def zt(K:PySem.W.Frag)(n:Nat)(F:Qzz→Option D):Sp:=λvs H Q _=>vs.length=n∧∃ds d,uk K H [0] vs ds∧F ds=some d ∧
 ∀p H',(hV [0] vs p∨H p=none)→(∀a o,¬hV [0] vs a→H a=some o→H' a=some o)→(∀a o,H a=some o→∃o',H' a=some o')→Cell K (λ_=>False) H' p d→Q (.ref p) H'
def ng:Fl→Option D
 |.rt _ m d=>if own m=true∧gd d=true then some d else none
 |_=>none
def lh(L:Nat)(g:Qqq):Qzz→Option D:=λds=>(g (i3 [0] ds++List.replicate (L-ds.length) none)).bind ng
section
variable {K:PySem.W.Frag}{H H' H₀:Hp}{I:Nat→Option Addr}{O O':Addr→Prop}{σ:L2.St}{env:Ev}
def UQ{ts:TS}{g:Qqq}{n:Nat}{N:List Str}{vs:List V}{Q:VK}{E:XK}(h:JS K ts g)(hs:zt K n (lh N.length g) vs H Q E):ts { nx:=λ_ H'=>Q .non H',rt:=Q } (L2.start N vs) H:=by
 let⟨hl,ds,d,A,e,q⟩:=hs;let⟨fl,ef,eo⟩:=av e;let⟨I0,lF,R⟩:=HS (N:=N) A;refine h H I0 (hV [0] vs) H _ _ _ fl R ef ?_;cases fl with
 |nx e'=>cases eo
 |bk e'=>cases eo
 |ct e'=>cases eo
 |rt e' m' d' =>
  intro O' H' σ' v R' st hv;unfold ng at eo;simp only at eo;split at eo
  ·rename_i hm;cases eo;have hc:∃p,v=.ref p∧O' p∧Cell K (λ_=>False) H' p d:=by
    cases m'<;>try (cases hm.1;done)
    ·let⟨p,rfl,o,_,c⟩:=hv;exact⟨p,rfl,o,c.im hm.2⟩
    ·let⟨p,rfl,o,c⟩:=hv;exact⟨p,rfl,o,c.im hm.2⟩
   let⟨p,rfl,o,c⟩:=hc;refine q p H' ?_ (λa o n e=>R'.fr a o (λi z=>n ⟨i,(lF z).1,(lF z).2⟩) e) R'.e.hd c;rcases R'.ow p o with⟨i,z⟩|z
   ·exact .inl ⟨i,(lF z).1,(lF z).2⟩
   ·exact .inr z
  ·cases eo
def lS(sl:List Nat)(pos:List (Nat×Nat))(F:Qzz→Option D)(fs:Qqz):Qqq:=λe=>(fs e).bind λay=>if jz [0] sl pos ay=true then (F (ay.map (·.2))).bind λd=>match ay with
 | (m,_)::_=>some (.rt (e.map λ_=>none) m d)
 |[]=>none else none
def tT{i:Nat}{x:M×D}(h:(env.map λ_=>(none:Qzq))[i]?=some (some x)):False:=by
 rw[cF]at h;cases q:env[i]? with
 |none=>rw[q]at h;cases h
 |some y=>rw[q]at h;cases h
def V0{n:Nat}{sl:List Nat}{pos:List (Nat×Nat)}{F:Qzz→Option D}{fs:Qqz}{ta:TA}{E:XK}(ha:kh K ta fs pos)(hl:∀e ay,fs e=some ay→ay.length=n):JS K (qY (m3 (zt K n F) [] E ta)) (lS sl pos F fs):=by
 intro H₀ I O H σ env Ds fl R e q;let⟨ay,em,e⟩:=av e;split at e
 ·rename_i hb;have ok:=Ms hb;let⟨d,eF,e⟩:=av e;cases ay with
  |nil=>cases e
  |cons x0 rest =>
   let⟨m0,d0⟩:=x0;cases e;refine ha H₀ O H σ env _ _ R.e em λvs H1 s1 hv hp=>?_;have R1:=R.keep s1;let⟨ph,jR,sub,A⟩:=KS R R1 ok hv hp;rw[rJ];refine⟨by rw[←cE hv];exact hl _ _ em,_,d,A,eF,λp H2 Gw kp hdm c=>?_⟩;let⟨om,cm⟩:=ok.c4 0 _ (List.mem_singleton.mpr rfl) rfl;have hpO:¬O p→H1 p=none:=λz=>Gw.elim (λw=>absurd (sub p w) z) id;have hp0:O p∨H₀ p=none:=by
    rcases Gw with w|w
    ·exact .inl (sub p w)
    ·right
     cases z:H₀ p with
     |none=>rfl
     |some o=>let⟨o',z⟩:=R1.e.hd p o z;rw[w]at z;cases z
   have hbo:m0=.bo→H₀ p=none:=λhm=>by
    rcases Gw with⟨i,hi,iW⟩|w
    ·let⟨k,j,x,hk,hj,hx,hs,he,_⟩:=jR hi iW;have Gx:i=0:=List.mem_singleton.mp hi;subst Gx;simp at hx;subst hx;let⟨v,iE,_,hz⟩:=R1.e.at he;rw[hs]at iE;cases iE;rw[hm]at hz;let⟨p',e',_,z,_⟩:=hz;cases e';exact z
    ·cases z:H₀ p with
     |none=>rfl
     |some o=>let⟨o',z⟩:=R1.e.hd p o z;rw[w]at z;cases z
   have R2:Rel K H₀ I (λa=>a=p∨(O a∧¬hV [0] vs a)) H2 σ (env.map λ_=>none):=by
    refine⟨⟨kz (by rw[dZ];exact cE R.e.sl) (λj a b h1 _ m d ea=>by subst ea;exact(tT h1).elim),?_,?_,?_⟩,?_,?_,λi d p h1=>(tT h1).elim,λi j x y p h1=>(tT h1).elim,⟨λi j d d' h1=>(tT h1).elim,λi j d x p q xs h1=>(tT h1).elim⟩⟩
    ·rintro a (rfl|⟨ho,ni⟩)
     ·let⟨o,eo,_⟩:=c.some;exact⟨o,eo⟩
     ·let⟨o,eo⟩:=R1.e.od a ho;exact⟨o,kp a o ni eo⟩
    ·intro a o h0;let⟨o',h1⟩:=R1.e.hd a o h0;exact hdm a o' h1
    ·rintro a o (rfl|⟨ho,ni⟩) ea
     ·let⟨o',eo,nt⟩:=c.some;rw[eo]at ea;cases ea;exact nt
     ·let⟨o',eo⟩:=R1.e.od a ho;have:=kp a o' ni eo;rw[this]at ea;cases ea;exact R1.e.on a _ ho eo
    ·intro a o ni h0;refine kp a o (λw=>?_) (R1.fr a o ni h0);rcases R1.ow a (sub a w) with⟨i,z⟩|z
     ·exact ni i z
     ·rw[z]at h0;cases h0
    ·rintro a (rfl|⟨ho,_⟩)
     ·rcases hp0 with z|z
      ·exact R1.ow a z
      ·exact .inr z
     ·exact R1.ow a ho
   refine q (λa=>a=p∨(O a∧¬hV [0] vs a)) H2 σ (.ref p) R2 (λa o ha no=>⟨kp a o (λw=>no (sub a w)) (s1 _ _ ha),?_⟩) ?_
   ·rintro(rfl|⟨ho,_⟩)
    ·have:=hpO no;rw[s1 _ _ ha]at this;cases this
    ·exact no ho
   ·cases m0<;>try (cases om;done)
    ·exact⟨p,rfl,.inl rfl,hbo rfl,c.wk λ_ z _=>z.elim⟩
    ·exact⟨p,rfl,.inl rfl,c.wk λ_ z _=>z.elim⟩
 ·cases e
end
def v3(K:PySem.W.Frag):TG:=D7 K 2 (yI (gO 0) (yI (gO 1) D6))
section
variable {K:PySem.W.Frag}{H H' H₀:Hp}{O:Addr→Prop}{σ:L2.St}{env:Ev}
end
def EG(neg:Bool)(fk fd:Qqj):Qqj:=λe=>(fk e).bind λy=>(fd e).bind λx=>(ml x.2).bind λks=>(lg y.2).bind λk=>some (.fr,.bl (if neg then !(cS ks k).isSome else (cS ks k).isSome))
section
variable {K:PySem.W.Frag}{H H' H₀:Hp}{O:Addr→Prop}{σ:L2.St}{env:Ev}
def aak{td ty:TE}{fd fk:Qqj}(hk:JT K ty fk)(hd:JT K td fd):JT K (Ei ty td) (EG false fk fd):=by
 intro H₀ O H σ env Q m d R h q;let⟨y,ey,h⟩:=av h;let⟨x,ex,h⟩:=av h;let⟨ks,iX,h⟩:=av h;let⟨k,ek,h⟩:=av h;cases h;refine hk H₀ O H σ env _ y.1 y.2 R ey λw H1 s1 h1=>?_;refine hd H₀ O H1 σ env _ x.1 x.2 (R.keep s1) ex λv H2 s2 h2=>?_;rw[x9 iX]at h2;let⟨a,aj,rfl,rd,en⟩:=h2.dt;let⟨b,rfl,hb⟩:=tS ek (h1.keep s2).weak;refine⟨a,fq aj k,rfl,.inr ⟨aj,k,b,rd,rfl,hb,rfl⟩,?_⟩;rw[en.isSome];exact q _ H2 (s1.trans s2) fG
def UR{td ty:TE}{fd fk:Qqj}(hk:JT K ty fk)(hd:JT K td fd):JT K (CJ ty td) (EG true fk fd):=by
 intro H₀ O H σ env Q m d R h q;let⟨y,ey,h⟩:=av h;let⟨x,ex,h⟩:=av h;let⟨ks,iX,h⟩:=av h;let⟨k,ek,h⟩:=av h;cases h;refine hk H₀ O H σ env _ y.1 y.2 R ey λw H1 s1 h1=>?_;refine hd H₀ O H1 σ env _ x.1 x.2 (R.keep s1) ex λv H2 s2 h2=>?_;rw[x9 iX]at h2;let⟨a,aj,rfl,rd,en⟩:=h2.dt;let⟨b,rfl,hb⟩:=tS ek (h1.keep s2).weak;refine⟨a,fq aj k,rfl,.inr ⟨aj,k,b,rd,rfl,hb,rfl⟩,?_⟩;rw[en.isSome];exact q _ H2 (s1.trans s2) fG
end
section
variable {K:PySem.W.Frag}{H H' H₀:Hp}{I:Nat→Option Addr}{O:Addr→Prop}{σ:L2.St}{env:Ev}
def uK{e:Ev}{i:Nat}{x:M×D}(h:(e.map λ_=>(none:Qzq))[i]?=some (some x)):False:=by
 rw[cF]at h;cases q:e[i]? with
 |none=>rw[q]at h;cases h
 |some y=>rw[q]at h;cases h
def Rel.abM(R:Rel K H₀ I O H σ env):Rel K H₀ I (λ_=>False) H σ (env.map λ_=>none) :=
 ⟨⟨kz (by rw[dZ];exact cE R.e.sl) λj a b h1 _ m d e=>by subst e;exact(uK h1).elim,λ_ z=>z.elim,R.e.hd,λ_ _ z=>z.elim⟩,R.fr,λ_ z=>z.elim,λi d p h=>(uK h).elim,λi j x y p h=>(uK h).elim,⟨λi j d d' h=>(uK h).elim,λi j d x p q xs h=>(uK h).elim⟩⟩
def Aw(x:M×D):Bool:=x.2.cq||(gd x.2&&(match x.1 with
 |.un=>true
 |.bo=>true
 |_=>false))
def aal{x:M×D}{v:V}{Hb:Hp}(h:Aw x=true)(hv:Val K H₀ O Hb H x.1 x.2 v):UT K (λq=>HE q=none∧H₀ q=none∧¬False) H x.2 v:=by
 let⟨m,d⟩:=x;unfold Aw at h;rw[Bool.or_eq_true,lq]at h;rcases h with h|⟨h1,h2⟩
 ·exact .inl ⟨h,hv.weak.im h⟩
 ·cases m<;>try (exact absurd h2 bw)
  ·let⟨p,rfl,_,z,_,c⟩:=hv;exact .inr ⟨p,rfl,⟨rfl,z,id⟩,c.im h1⟩
  ·let⟨p,rfl,_,z,c⟩:=hv;exact .inr ⟨p,rfl,⟨rfl,z,id⟩,c.im h1⟩
def NW(fs:Qqz):Qqq:=λe=>(fs e).bind λay=>if ay.length≤sizeLine∧(ay.all Aw)=true then some (.rt (e.map λ_=>none) .ut (.tup (ay.map (·.2))))else none
theorem UT.keep{F:Addr→Prop}{d:D}{v:V}(s:aG H H')(h:UT K F H d v):UT K F H' d v:=by
 rcases h with⟨z1,z2⟩|⟨q,z1,z2,c⟩
 ·exact .inl ⟨z1,z2.keep (.same s)⟩
 ·let⟨o,e,_⟩:=c.some;exact .inr ⟨q,z1,z2,c.keep (.same s) ((s _ _ e).trans e.symm)⟩
theorem MB:∀{ay:List (M×D)}{vs:List V}{Hb:Hp},ay.all Aw=true→gE K H₀ O Hb H ay vs→Paired (UT K (λq=>HE q=none∧H₀ q=none∧¬False) H) (ay.map (·.2)) vs
 |[],_,_,_,.nil=>.nil
 |x::r,_,_,h,.cons a t=>by
  rw[pM,lq]at h;exact .cons (aal h.1 a) (MB h.2 t)
def XU{ta:TA}{fs:Qqz}(ha:iB K ta fs):JS K (qY (Ed ta)) (NW fs):=by
 intro H₀ I O H σ env Ds fl R e q;let⟨ay,em,e⟩:=av e;split at e
 ·rename_i hc;cases e;refine ha H₀ O H σ env _ ay R.e em λvs H1 s1 h1=>⟨by rw[←cE h1];exact hc.1,λp hp=>?_⟩;have s2:aG H1 (upd H1 p (.tup vs)):=cW hp;have s:=s1.trans s2;exact q _ _ σ _ (R.keep s).abM (λa o h _=>⟨s a o h,id⟩) ⟨p,vs,_,rfl,rfl,.inl bN,Paired.lU (MB hc.2 h1) λd v z=>z.keep s2⟩
 ·cases e
def Rel.QR{i:Nat}{v:V}(R:Rel K H₀ I O H σ env):Rel K H₀ I O H (σ.set i (some v)) (env.set i none):=by
 have at_:∀{j:Nat}{x:M×D},(env.set i none)[j]?=some (some x)→j≠i∧env[j]?=some (some x):=λ{j x} h=>by
  rcases get_set h with⟨_,z⟩|z
  ·cases z
  ·exact z
 have sr:∀{j:Nat}{y:Option V},j≠i→(σ.set i (some v))[j]?=some y→σ[j]?=some y:=λ{j y} n h=>by rwa [dY (λz=>n z.symm)]at h
 refine⟨⟨kz (by rw[fZ,fZ];exact cE R.e.sl) λj a b h1 h2 m d e=>?_,R.e.od,R.e.hd,R.e.on⟩,R.fr,R.ow,λi' d' p h1 p1=>R.ba i' d' p (at_ h1).2 (sr (at_ h1).1 p1),λi' j x y p h1 h2 o1 o2 p1 p2=>R.dj i' j x y p (at_ h1).2 (at_ h2).2 o1 o2 (sr (at_ h1).1 p1) (sr (at_ h2).1 p2),⟨λi' j d1 d2 h1 h2=>R.nd.1 i' j d1 d2 (at_ h1).2 (at_ h2).2,λi' j d1 x p q xs h1 p1 h2 o2 p2 e=>R.nd.2 i' j d1 x p q xs (at_ h1).2 (sr (at_ h1).1 p1) (at_ h2).2 o2 (sr (at_ h2).1 p2) e⟩⟩;subst e;let⟨nj,h1⟩:=at_ h1;let⟨w,hw,n,hz⟩:=R.e.at h1;rw[sr nj h2]at hw;exact⟨n,w,by simpa using hw,hz⟩
def Cs(Hb H:Hp)(xs:List V)(ds:Qzz)(n:Nat):Prop:=∀(k:Nat) (d:D),ds[k]?=some d→(∀l,d=.lst l→∃q ys,xs[k]?=some (.ref q)∧Hb q=none∧H q=some (.lst ys)∧ys.length≤l.length+n)∧∀ks,d=.dk ks→∃q aj,xs[k]?=some (.ref q)∧Hb q=none∧H q=some (.dK aj)∧aj.length≤ks.length+n
def Cs.keep{Hb:Hp}{xs:List V}{ds:Qzz}{n:Nat}(s:aG H H')(h:Cs Hb H xs ds n):Cs Hb H' xs ds n:=λk d e=>⟨λl el=>let ⟨q,ys,a,b,c,z⟩:=(h k d e).1 l el;⟨q,ys,a,b,s _ _ c,z⟩,λks el=>let ⟨q,ys,a,b,c,z⟩:=(h k d e).2 ks el;⟨q,ys,a,b,s _ _ c,z⟩⟩
def Cs.of{Hb:Hp}{F:Addr→Prop}{xs:List V}{ds:Qzz}(w:∀q,F q→Hb q=none)(h:Paired (UT K F H) ds xs):Cs Hb H xs ds 0:=λk d e=>by
 let⟨v,hv,z⟩:=Et h e;refine⟨λl el=>?_,λks el=>?_⟩
 ·subst el;rcases z with⟨z,_⟩|⟨q,rfl,f,c⟩
  ·cases z
  ·let⟨ys,c,r⟩:=c;exact⟨q,ys,hv,w q f,c,rM r.len⟩
 ·subst el;rcases z with⟨z,_⟩|⟨q,rfl,f,c⟩
  ·cases z
  ·let⟨ys,c,e,r⟩:=c;have:=dD List.length e;rw[dZ,dZ]at this;exact⟨q,ys,hv,w q f,c,rM this⟩
def Ax(K:PySem.W.Frag)(i:Nat)(ts:TS)(c:Ev→Nat→Qzz→Bool):Prop :=
 ∀H₀ I O Hb H σ env Ds a xs ds n,Rel K H₀ I O Hb σ env→σ[i]?=some (some (.ref a))→aG Hb H→bC K H a xs→xs.length=ds.length→Cs Hb H xs ds n→c env n ds=true→(∀H',aG Hb H'→bC K H' a xs→Cs Hb H' xs ds (n+1)→Ds.nx σ H')→ts Ds σ H
def K4{a q:Addr}{xs:List V}{o o':HO}(h:bC K H a xs)(e:H q=some o)(n:¬hJ o):bC K (upd H q o') a xs:=by
 rcases h with h|h
 ·refine .inl ?_;rw[aI (λz=>by subst z;rw[h]at e;cases e;exact n trivial)];exact h
 ·exact .inr h
def JX{Hb:Hp}{q:Addr}{o:HO}(s:aG Hb H)(h:Hb q=none):aG Hb (upd H q o):=λa u e=>by
 rw[aI (eR e h)];exact s a u e
def Cs.adx{Hb:Hp}{xs:List V}{ds:Qzz}{n:Nat}{q:Addr}{ys:List V}{y:V}(h:Cs Hb H xs ds n)(e:H q=some (.lst ys)):Cs Hb (upd H q (.lst (ys++[y]))) xs ds (n+1):=λk d ed=>by
 refine⟨λl el=>?_,λks el=>?_⟩
 ·let⟨p,zs,a,b,c,z⟩:=(h k d ed).1 l el;by_cases w:p=q
  ·subst w;rw[e]at c;cases c;exact⟨p,_,a,b,bN,by rw[fw];simp only[List.length_cons,List.length_nil];omega⟩
  ·exact⟨p,zs,a,b,by rw[aI w];exact c,by omega⟩
 ·let⟨p,zs,a,b,c,z⟩:=(h k d ed).2 ks el;exact⟨p,zs,a,b,by rw[aI (qM c e (λw=>nomatch w))];exact c,by omega⟩
def Cs.ady{Hb:Hp}{xs:List V}{ds:Qzz}{n:Nat}{q:Addr}{aj:List (Key×V)}{k:Key}{v:V}(h:Cs Hb H xs ds n)(e:H q=some (.dK aj)):Cs Hb (upd H q (.dK (putK aj k v))) xs ds (n+1):=λj d ed=>by
 refine⟨λl el=>?_,λks el=>?_⟩
 ·let⟨p,zs,a,b,c,z⟩:=(h j d ed).1 l el;exact⟨p,zs,a,b,by rw[aI (qM c e (λw=>nomatch w))];exact c,by omega⟩
 ·let⟨p,zs,a,b,c,z⟩:=(h j d ed).2 ks el;by_cases w:p=q
  ·subst w;rw[e]at c;cases c;have:=xr aj k v;exact⟨p,_,a,b,bN,by omega⟩
  ·exact⟨p,zs,a,b,by rw[aI w];exact c,by omega⟩
def NX(n:Nat)(ds:Qzz)(k:Int):Bool:=match L2.bz ds k with
 |some (.lst l)=>decide (l.length+n<sizeLine)
 |_=>false
def NZ(n:Nat)(ds:Qzz)(k:Int):Bool:=match L2.bz ds k with
 |some (.dk l)=>decide (l.length+n<sizeLine)
 |_=>false
def EH(fk f:Qqj):Ev→Nat→Qzz→Bool:=λe n ds=>match fk e,f e with
 |some (_,.int k),some _=>NX n ds k
 |_,_=>false
def EI(fk fy f:Qqj):Ev→Nat→Qzz→Bool:=λe n ds=>match fk e,fy e,f e with
 |some (_,.int k),some y,some _=>(keyOf y.2).isSome&&NZ n ds k
 |_,_,_=>false
def MC{α:Type}{l:List α}{k:Int}{a:α}(h:L2.bz l k=some a):∃j,dR l.length k=some j∧l[j]?=some a:=by
 unfold L2.bz at h;cases q:dR l.length k with
 |none=>rw[q]at h;cases h
 |some j=>rw[q]at h;exact⟨j,rfl,h⟩
def MD{α:Type}{l:List α}{k:Int}{a:α}{j:Nat}(h:dR l.length k=some j)(e:l[j]?=some a):L2.bz l k=some a:=by
 unfold L2.bz;rw[h];exact e
set_option tactic.hygienic true in
def abN{i:Nat}{t tk:TE}{f fk:Qqj}(hk:JT K tk fk)(h:JT K t f):Ax K i (qN (vD K "list" tZ (nW (r9 K) (ik i) tk) (mZ t lY))) (EH fk f):=by
 intro H₀ I O Hb H σ env Ds a xs ds n R hs s sq hl cs hc q;unfold EH at hc;split at hc
 ·rename_i mk k x ek ex;unfold NX at hc;split at hc
  ·rename_i l el;have hc:=bq hc;let⟨j,ej,ed⟩:=MC el;let⟨p,ys,hx,hb,hp,le⟩:=(cs j _ ed).1 l rfl;refine⟨.ref a,hs,?_⟩;refine hk H₀ O H σ env _ _ _ (R.keep s).e ek λw H1 s1 hw=>?_;refine .inr (.inl ⟨a,xs,k,.ref p,rfl,hw.int,(Keeps.same (N:=λ_=>True) s1).sq sq,MD (by rw[hl];exact ej) hx,?_⟩);refine⟨.inl ⟨rfl,ys,.inl (.inl (s1 _ _ hp))⟩,?_⟩;refine h H₀ O H1 σ env _ x.1 x.2 (R.keep (s.trans s1)).e ex λu H2 s2 hu=>?_;have s3:=s1.trans s2;refine⟨p,ys,u,rfl,rfl,s3 _ _ hp,by omega,?_⟩;exact q _ (JX (s.trans s3) hb) (K4 ((Keeps.same (N:=λ_=>True) s3).sq sq) (s3 _ _ hp) (λz=>z)) ((cs.keep s3).adx (s3 _ _ hp))
  ·cases hc
 ·cases hc
set_option tactic.hygienic true in
def abO{i:Nat}{t tk ty:TE}{f fk fy:Qqj}(hk:JT K tk fk)(hy:JT K ty fy)(h:JT K t f):Ax K i (uE (nW (r9 K) (ik i) tk) ty t) (EI fk fy f):=by
 intro H₀ I O Hb H σ env Ds a xs ds n R hs s sq hl cs hc q;unfold EI at hc;split at hc
 ·rename_i mk k y x ek ey ex;let⟨hk1,hc⟩:=Bool.and_eq_true_iff.mp hc;let⟨kk,ekk⟩:=Option.isSome_iff_exists.mp hk1;unfold NZ at hc;split at hc
  ·rename_i l el;have hc:=bq hc;let⟨j,ej,ed⟩:=MC el;let⟨p,ys,hx,hb,hp,le⟩:=(cs j _ ed).2 l rfl;refine h H₀ O H σ env _ x.1 x.2 (R.keep s).e ex λu H1 s1 hu=>?_;refine⟨.ref a,hs,?_⟩;refine hk H₀ O H1 σ env _ _ _ (R.keep (s.trans s1)).e ek λw H2 s2 hw=>?_;have Gy:=s1.trans s2;refine .inr (.inl ⟨a,xs,k,.ref p,rfl,hw.int,(Keeps.same (N:=λ_=>True) Gy).sq sq,MD (by rw[hl];exact ej) hx,?_⟩);refine hy H₀ O H2 σ env _ y.1 y.2 (R.keep (s.trans Gy)).e ey λz H3 s3 hz=>?_;obtain rfl:=oz ekk hz.weak;have s4:=Gy.trans s3;refine⟨p,_,rfl,.inl ⟨ys,kk,s4 _ _ hp,rfl,by omega,rfl⟩,?_⟩;exact q _ (JX (s.trans s4) hb) (K4 ((Keeps.same (N:=λ_=>True) s4).sq sq) (s4 _ _ hp) (λz=>z)) ((cs.keep s4).ady (s4 _ _ hp))
  ·cases hc
 ·cases hc
abbrev EJ:List (Ev→Nat→Qzz→Bool)→Ev→Nat→Qzz→Bool
 |[],_,_,_=>true
 |c::r,e,n,ds=>c e n ds&&EJ r e (n+1) ds
inductive rD (K:PySem.W.Frag)(i:Nat):List TS→List (Ev→Nat→Qzz→Bool)→Prop
 |nil:rD K i [] []
 |cons {t:TS}{c:Ev→Nat→Qzz→Bool}{ts:List TS}{cs:List (Ev→Nat→Qzz→Bool)}:Ax K i t c→rD K i ts cs→rD K i (t::ts) (c::cs)
theorem K5{i:Nat}{a:Addr}{xs:List V}{ds:Qzz}{tb:TS}{Ds:Ends}:∀{ts:List TS}{cs:List (Ev→Nat→Qzz→Bool)}{n:Nat}{Hb H:Hp},rD K i ts cs→Rel K H₀ I O Hb σ env→σ[i]?=some (some (.ref a))→aG Hb H→bC K H a xs→xs.length=ds.length→Cs Hb H xs ds n→EJ cs env n ds=true→(∀H',aG Hb H'→tb Ds σ H')→ts.foldr ny tb Ds σ H
 |_,_,_,_,_,.nil,_,_,s,_,_,_,_,q=>q _ s
 |_,_,n,Hb,H,.cons h t,R,hs,s,sq,hl,cs,hc,q=>by
  let⟨h1,h2⟩:=Bool.and_eq_true_iff.mp hc;exact h H₀ I O Hb H σ env _ a xs ds n R hs s sq hl cs h1 λH' s' sq' cs'=>K5 t R hs s' sq' hl cs' h2 q
def QS(i:Nat)(f:Qqj)(c:Qqx)(r:Qqj)(cs:List (Ev→Nat→Qzz→Bool))(b:Qqq):Qqq:=λe=>(f e).bind λx=>match x with
 | (.ut,.tup ds)=>(c (e.set i (some (.fr,.tup ds)))).bind λz=>if z=true then aF r (e.set i (some (.fr,.tup ds)))else if EJ cs (e.set i none) 0 ds=true∧i<e.length then b (e.set i none)else none
 |_=>none
def abP{i:Nat}{t tr:TE}{tc:TT}{ts:List TS}{tb:TS}{f r:Qqj}{c:Qqx}{cs:List (Ev→Nat→Qzz→Bool)}{b:Qqq}(hf:JT K t f)(hc:fO K tc c)(hr:JT K tr r)(gH:rD K i ts cs)(hb:JS K tb b) :
  JS K (ny (il t (gO i)) (ny (y7 tc (qY tr) yH) (ts.foldr ny tb))) (QS i f c r cs b):=by
 intro H₀ I O H σ env Ds fl R e q;let⟨x,ex,e⟩:=av e;split at e
 ·rename_i ds;let⟨z,ez,e⟩:=av e;refine hf H₀ O H σ env _ _ _ R.e ex λv H1 s1 h1=>?_;have R1:Rel K H₀ I O H1 (σ.set i (some v)) (env.set i (some (.fr,.tup ds))):=(R.keep s1).set_plain rfl rfl (show Rp K _ H1 v _ from h1.c9 rfl);refine hc H₀ O H1 _ _ _ z R1.e ez λH2 s2=>?_;cases z with
  |true =>
   rw[if_pos rfl]at e ⊢;let⟨y,ey,e⟩:=av e;cases e;have q':=q.pre (aO.same (s1.trans s2));exact hr H₀ O H2 _ _ _ y.1 y.2 (R1.keep s2).e ey λw H3 s3 h3=>q' O H3 _ w ((R1.keep s2).keep s3) (aO.same s3) h3.h0
  |false =>
   rw[if_neg bw]at e ⊢;split at e
   ·rename_i hh;let⟨a,xs,fh,rfl,ed,sq,pr⟩:=h1;cases ed;have s:=s1.trans s2;have hlen:i<σ.length:=by rw[←cE R.e.sl];exact hh.2
    refine K5 (Hb:=H) (n:=0) gH R.QR (by rw[List.getElem?_set_self hlen]) s ((Keeps.same (N:=λ_=>True) s2).sq sq) (cE pr).symm ((Cs.of (λq z=>z.1) pr).keep s2) hh.1 λH' s'=>?_;exact hb H₀ I O H' _ _ _ fl (R.QR.keep s') e (q.pre (aO.same s'))
   ·cases e
 ·cases e
end
end J
namespace J
open PySem PySem.Spec PyProof.Rows L2
section
variable {X:Cx}{pins:List (Addr×Obj)}{σ:L2.St}{H:Hp}{s:Shared}{a it:Addr}
def K6{P:Program}{w:World}{h:Heap}{aj:List (Key×V)}(ok:cB P w H h a (.dK aj)):∃o es ep,h.get? a=some o∧o.ExactDict∧o.data=.dict es ep∧es.size=aj.length∧(∀(i:Nat) kv,aj[i]?=some kv→∃e,es[i]?=some e∧RelV (kV kv.1) e.key)∧(a==sysModules)=false:=by
 let⟨z,lo,vs,rv,o,es,ep,ho,ex,hd,hk,hp,hn⟩:=ok;have e1:=hp.length;have e2:=rv.length;simp only[Array.length_toList]at e1;refine⟨o,es,ep,ho,ex,hd,by omega,λi kv e=>?_,lo⟩;let⟨v,h1,h2⟩:=Dp rv e;have hi:i<es.size:=by
  have:=(bp.mp h1).1;omega
 exact⟨es[i],by simp[hi],XI (hp.get? (e:=es[i]) (by simp[hi]) h1).1⟩
def Gz(a:Addr)(o:Obj)(aj:List (Key×V)):It :=
 ⟨λi H=>H a=some (.aW o (.dK aj))∧i<aj.length,λi H x H'=>H'=H∧∃kv,aj[i]?=some kv∧x=kV kv.1,λi H=>H a=some (.aW o (.dK aj))∧aj.length≤i⟩
def K7{o:Obj}{aj:List (Key×V)}{es:Array DictEntry}{ep:Nat}(I:L2.Inv X pins σ H s)(e:H a=some (.aW o (.dK aj)))(hd:o.data=.dict es ep):iK s.heap a es ep∧es.size=aj.length∧∀(i:Nat) kv,aj[i]?=some kv→∃e,es[i]?=some e∧RelV (kV kv.1) e.key:=by
 let⟨ho,ok⟩:=(I.aH a _ e:cB X.prog X.w H s.heap a (.aW o (.dK aj)));let⟨o',Ac,Ad,gW,ex,nU,h1,h2,_⟩:=K6 ok;rw[ho]at gW;cases gW;rw[hd]at nU;cases nU;exact⟨⟨o,ho,ex,hd⟩,h1,h2⟩
def UU{P:Program}{w:World}{K:PySem.W.Frag}{tg:Expr}{o:Obj}{aj:List (Key×V)}{es:Array DictEntry}{ep:Nat}(hd:o.data=.dict es ep):Turn P w K tg (Gz a o aj) [it] it (λi h=>h.IsKeyIter it a i es.size ep) where
 mem:=by simp
 obj:=λi h st b hb=>by
  have e:b=it:=by simpa using hb
  subst e;let⟨o,e,c,d⟩:=st;exact⟨o,e,λv z=>by rw[d]at z;cases z⟩
 keep:=λi h h' st k=>st.at λo e=>k it (by simp) o e
 item:=by
  intro X hP hw hK hc i pins s σ H E I hf st hg;subst hP hw hK;let⟨r,hz,hg'⟩:=K7 I hg.1 hd;let⟨f0,f1,f2,f3,f4,f5⟩:=hf it (by simp);have hx:=du hg.2;let⟨e,he,h2⟩:=hg' i _ hx;refine Ik st r he λh' fL sb=>?_;let⟨ob,e1,c1,d1⟩:=id fL;exact⟨_,rfl,uC (s:={ s with heap:=h' }) e1 c1 d1 (by decide) ⟨_,H,I.turned (t':=s.toks) (λb o hb e=>(sb.2 b hb).trans e) f0 f1 f3 f4 f5,h2,⟨rfl,_,hx,rfl⟩,fL,λb hb=>(hf b hb).1⟩⟩
 done:=by
  intro X hP hw hK hc i pins s σ H E I hf st hg;subst hP hw hK;let⟨r,hz,_⟩:=K7 I hg.1 hd;let⟨f0,f1,f2,f3,f4,f5⟩:=hf it (by simp);exact Ja (I.ok.hd hc) st r (by rw[hz];exact hg.2) λh' eb=>⟨rfl,I.turned (t':=s.toks) (λb o hb e=>eb b o hb e) f0 f1 f3 f4 f5⟩
 self:=λ_ _ _ _ _ st h=>wpAny_pyIter_keyiter st h
def N0(td:TE):TI:=λσ H R=>td σ H λx H1=>∃a o aj,x=.ref a∧H1 a=some (.aW o (.dK aj))∧R (Gz a o aj) H1
def XW{e:Expr}{td:TE}{tg:Expr}(he:PE X e td):PI X tg e (N0 td):=by
 intro pins s σ H R I h;refine aJ (he pins s σ H _ I h) λv s1 ⟨x,H1,I1,r1,a,o,aj,ex,hf,q⟩=>?_;subst ex;obtain rfl:v=Value.ref a:=r1;let⟨ho,ok⟩:=(I1.aH a _ hf:cB X.prog X.w H1 s1.heap a (.aW o (.dK aj)));let⟨o',es,ep,gW,ex,hd,hz,_,lo⟩:=K6 ok;rw[ho]at gW;cases gW;refine Ij lo ⟨o,ho,ex,hd⟩ ?_;refine⟨_,[_],_,_,H1,rfl,I1.kept (t':=s1.toks) λb u q=>cw _ q,UU hd,⟨_,gq _ rfl,rfl,rfl⟩,λb hb=>?_,q⟩;have mQ:b=s1.heap.objs.size:=by simpa using hb
 subst mQ;exact I1.qZ (aU _) (I1.aH.fresh (aU _))
end
section
variable {K:PySem.W.Frag}{N:Addr→Prop}{H H' H₀:Hp}{I:Nat→Option Addr}{O:Addr→Prop}{σ:L2.St}{env:Ev}
def QT:D→Option (Qzz)
 |.dk ks=>some (ks.map λkv=>pv kv.1)
 |_=>none
def XX{m:M}(hm:fH m=true)(k:Key):Val K H₀ O HE H m (pv k) (kV k):=by
 cases m<;>first|exact MA k|cases hm
def UW{m:M}{a:Addr}{o:Obj}{aj:List (Key×V)}{ks:List (Key×D)}(hm:fH m=true)(e:H a=some (.aW o (.dK aj)))(ha:¬O a)(r:aj.map (·.1)=ks.map (·.1)):k9 K H₀ O (Gz a o aj) H m (ks.map λkv=>pv kv.1):=by
 have hl:aj.length=ks.length:=by simpa using dD List.length r
 refine⟨λO2 H2 i st hi=>⟨(st a _ e ha).1,by rw[hl];simpa using hi⟩,?_,λO2 H2 st=>⟨(st a _ e ha).1,by rw[hl,List.length_map];exact aU _⟩⟩;rintro O2 H2 i x H3 st hi ⟨rfl,kv,hx,rfl⟩;refine⟨aG.refl _,pv kv.1,?_,XX hm _⟩;have h1:(aj.map (·.1))[i]?=some kv.1:=by rw[cF,hx];rfl
 rw[r,cF]at h1;rw[cF];cases q:ks[i]? with
 |none=>rw[q]at h1;cases h1
 |some z=>rw[q]at h1;rw[←dP h1];rfl
def XY{i:Nat}{g:TG}{tb:TS}{fg:M×D→Ev→Option Ev}{b:Qqq}(hg:JG K g fg)(hb:JS K tb b):JS K (DV i (oS (N0 (ik i)) g tb)) (yU QT i fg b) :=
 XM (λd ds e=>by cases d<;>first|exact .inl ⟨_,rfl⟩|cases e) (λG O H1 σ m a o u d ds hm hv e1 na dr ed on R' k=>by
  cases d<;>try (cases ed;done)
  cases u<;>try (exact dr.elim)
  cases ed;exact⟨_,hv,a,_,_,rfl,e1,k _ _ (aG.refl _) (UW hm e1 na dr.1)⟩) hg hb
end
section
variable {K:PySem.W.Frag}{N:Addr→Prop}{H H' H₀:Hp}{I:Nat→Option Addr}{O:Addr→Prop}{σ:L2.St}{env:Ev}
noncomputable abbrev Fj:=Qqj
inductive Ay (K:PySem.W.Frag):List (TE×TE)→List (Fj×Fj)→Prop
 |nil:Ay K [] []
 |cons {tk tv:TE}{fk fv:Fj}{ts:List (TE×TE)}{fs:List (Fj×Fj)}:JT K tk fk→JT K tv fv→Ay K ts fs→Ay K ((tk,tv)::ts) ((fk,fv)::fs)
end
abbrev Az{α:Type}(c:Nat→Nat→Bool):PySem.W.KasT α→α
 |.ret a=>a
 |.ask i j k=>Az c (k (c i j))
abbrev Bd{α:Type}(n:Nat)(R:α→Prop):PySem.W.KasT α→Prop
 |.ret a=>R a
 |.ask i j k=>i<n∧j<n∧∀b,Bd n R (k b)
theorem qw{α β:Type}{n:Nat}{R:α→Prop}{R':β→Prop}{f:α→PySem.W.KasT β}(hf:∀a,R a→Bd n R' (f a)):∀t:PySem.W.KasT α,Bd n R t→Bd n R' (t.bind f)
 |.ret a,h=>hf a h
 |.ask _ _ k,h=>⟨h.1,h.2.1,λb=>qw hf (k b) (h.2.2 b)⟩
def Lq(n:Nat)(p:Array Nat):Prop:=0<n∧p.size=n∧∀x∈p,x<n
def Lq.at{n:Nat}{p:Array Nat}(h:Lq n p)(i:Nat):p.getD i 0<n:=by
 by_cases hi:i<p.size
 ·rw[show p.getD i 0=p[i] by simp[hi]];exact h.2.2 _ (Array.getElem_mem hi)
 ·rw[show p.getD i 0=0 by simp[hi]];exact h.1
def Lq.perm{n:Nat}{p q:Array Nat}(h:Lq n p)(e:q.Perm p):Lq n q:=⟨h.1,e.size_eq.trans h.2.1,λx hx=>h.2.2 x (e.mem_iff.mp hx)⟩
def Lq.rev{n:Nat}{p:Array Nat}(h:Lq n p)(i j:Nat):Lq n (PySem.W.kas_rev p i j):=h.perm (mirror_perm p i j _)
theorem Dq{n:Nat}{p:Array Nat}(h:Lq n p):∀f m,Bd n (λ_=>True) (PySem.W.kas_asc p f m)
 |0,_=>trivial
 |f+1,m=>⟨h.at _,h.at _,λb=>by
  cases b
  ·exact Dq h f (m+1)
  ·exact trivial⟩
theorem ya{n:Nat}:∀f {p:Array Nat} m q,Lq n p→Bd n (λr=>Lq n r.1) (PySem.W.kas_desc f p m q)
 |0,_,_,_,h=>h
 |f+1,p,m,q,h=>⟨h.at _,h.at _,λb=>by
  cases b
  ·refine⟨h.at _,h.at _,λd=>?_⟩;cases d
   ·exact ya f _ _ h
   ·exact h
  ·show Bd n _ (if q>0 then _ else _);split
   ·exact ya f _ _ (h.rev _ _)
   ·exact ya f _ _ h⟩
def K8{n m k:Nat}{p:Array Nat}(h:Lq n p):Bd n (λr=>Lq n r.2) (PySem.W.kas_tail3 m k p):=by
 refine qw (R:=λ_=>True) (λm _=>?_) _ (Dq (h.rev _ _) _ _);exact h.rev _ _
def K9{n m k:Nat}{p:Array Nat}(h:Lq n p):Bd n (λr=>Lq n r.2) (PySem.W.kas_descPart m k p):=by
 refine qw (λr hr=>?_) _ (ya _ _ _ h);split
 ·exact K8 (Lq.rev hr _ _)
 ·exact K8 hr
def V1{n k:Nat}{p:Array Nat}(h:Lq n p):Bd n (λr=>Lq n r.2) (PySem.W.kas_count k p):=by
 refine qw (λm _=>?_) _ (Dq h _ _);split
 ·exact h
 ·split
  ·refine⟨h.at _,h.at _,λb=>?_⟩;cases b
   ·exact K9 (h.rev _ _)
   ·exact h
  ·exact K9 h
theorem Cr{n k:Nat}{p:Array Nat}(h:Lq n p):∀f l r,Bd n (λ_=>True) (PySem.W.kas_place p k f l r)
 |0,_,_=>trivial
 |f+1,l,r=>by
  unfold PySem.W.kas_place;split
  ·exact trivial
  ·refine⟨h.at _,h.at _,λb=>?_⟩;cases b
   ·exact Cr h f _ _
   ·exact Cr h f _ _
theorem MF{n:Nat}:∀f {p:Array Nat} k,Lq n p→Bd n (Lq n) (PySem.W.kas_bin f p k)
 |0,_,_,h=>h
 |f+1,_,k,h=>qw (λ_ _=>MF f (k+1) (h.perm (bubble_perm _ _ _))) _ (Cr h _ _ _)
def La{n:Nat}(h:0<n):Bd n (Lq n) (PySem.W.kas_sort n):=by
 refine qw (λr hr=>?_) _ (V1 (n:=n) (p:=(List.range n).toArray) ⟨h,by simp,λx hx=>by simpa using hx⟩);split
 ·exact MF _ _ hr
 ·exact hr
theorem N1{α:Type}{n:Nat}{R:α→Prop}{c:Nat→Nat→Bool}:∀t:PySem.W.KasT α,Bd n R t→R (Az c t)
 |.ret _,h=>h
 |.ask i j k,h=>N1 (k (c i j)) (h.2.2 _)
theorem N2{α:Type}{n:Nat}{cmp:Nat→Nat→(Bool→Shared→Prop)→Shared→Prop}{c:Nat→Nat→Bool}{s:Shared}(hc:∀i j C,i<n→j<n→C (c i j) s→cmp i j C s){R:α→Prop}{Q:α→Shared→Prop}:∀t:PySem.W.KasT α,Bd n R t→Q (Az c t) s→t.kasWp cmp Q s
 |.ret _,_,q=>q
 |.ask i j k,h,q=>hc i j _ h.1 h.2.1 (N2 hc (k (c i j)) (h.2.2 _) q)
abbrev v5(x y:Int×Int):Bool:=if x.1=y.1 then decide (x.2<y.2)else decide (x.1<y.1)
def fU(ps:List (Int×Int)):List Nat:=if ps.length<2 then List.range ps.length else (Az (λi j=>v5 (ps.getD i (0,0)) (ps.getD j (0,0))) (PySem.W.kas_sort ps.length)).toList
def Cj(ps:List (Int×Int)):(fU ps).length=ps.length∧∀i∈fU ps,i<ps.length:=by
 unfold fU;split
 ·exact⟨vj,λi hi=>iQ.mp hi⟩
 ·rename_i h;have:=N1 (c:=λi j=>v5 (ps.getD i (0,0)) (ps.getD j (0,0))) _ (La (n:=ps.length) (by omega));exact⟨by rw[nP];exact this.2.1,λi hi=>this.2.2 i (by simpa using hi)⟩
section
variable {prog:Program}{w:World}{A:Around}{E:Value→Shared→Prop}{s:Shared}
def jm(h:Heap)(v:Value)(x:Int×Int):Prop:=∃b o n t u,v=.ref b∧h.get? b=some o∧o.cls=.type "tuple" ∧ o.data=.seq #[.int x.1 t,.int x.2 u] n
def XZ{v v':Value}{x y:Int×Int}{Q:Bool→Shared→Prop}(h:jm s.heap v x)(h':jm s.heap v' y)(q:Q (v5 x y) s):wpAny (model prog w) A (keyLt' (tuples' true) v v') Q E s:=by
 let⟨b,o,n,t,u,rfl,e,_,hd⟩:=h;let⟨b',o',n',t',u',rfl,e',_,nU⟩:=h';refine PySem.W.kat_lt e hd e' nU (PySem.W.kat_cons (wpAny_eqBool_int ?_));unfold v5 at q;by_cases h1:x.1=y.1
 ·rw[if_pos h1]at q;rw[show(x.1==y.1)=true by simp[h1]];refine PySem.W.kat_yes (PySem.W.kat_cons (wpAny_eqBool_int ?_));by_cases h2:x.2=y.2
  ·rw[show(x.2==y.2)=true by simp[h2]];refine PySem.W.kat_yes (PySem.W.kat_nil ?_);rw[show decide (x.2<y.2)=false by simp[h2]]at q;exact q
  ·rw[show(x.2==y.2)=false by simp[h2]];exact PySem.W.kat_no (PySem.W.kat_one _ _ (lt_int q))
 ·rw[if_neg h1]at q;rw[show(x.1==y.1)=false by simp[h1]];exact PySem.W.kat_no (oneLt_int q)
theorem JY{h:Heap}:∀{vs:List Value}{ps:List (Int×Int)},Paired (jm h) vs ps→∃fs,PySem.W.KatTups h vs fs∧fs.length=ps.length∧∀v∈fs,∃i t,v=Value.int i t
 |_,_,.nil=>⟨[],PySem.W.KatTups.nil,rfl,λ_ h=>absurd h List.not_mem_nil⟩
 |_,_,.cons x r=>by
  let⟨b,o,n,t,u,e0,e,hc,hd⟩:=x;let⟨fs,h1,h2,h3⟩:=JY r;subst e0;refine⟨_::fs,PySem.W.KatTups.cons e hc hd (by rfl) h1,by rw[f6,f6,h2],λv hv=>?_⟩;rcases dQ.mp hv with rfl|hv
  ·exact⟨_,_,rfl⟩
  ·exact h3 v hv
def V2{vs:List Value}{ps:List (Int×Int)}{Q:SortKind→Shared→Prop}(h:Paired (jm s.heap) vs ps)(hn:0<ps.length)(q:Q (tuples' true) s):wpAny (model prog w) A (keyKind' vs.toArray) Q E s:=by
 let⟨fs,h1,h2,h3⟩:=JY h;refine PySem.W.kat_kind (T:=.type "int") h1 (by omega) (λv hv=>?_) (by decide) q;let⟨i,t,rfl⟩:=h3 v hv;exact PySem.W.Looks.now
def aam{h:Heap}{a b:Addr}{vs:List Value}{out:Array Value}{o:Obj}(hb:b≠a)(e:h.get? b=some o):(sortedHeap h a vs out).get? b=some o:=by
 unfold sortedHeap;rw[Heap.get?_update_ne _ _ _ _ hb];exact cw _ (cw _ (by rw[Heap.get?_update_ne _ _ _ _ hb];exact e))
def abQ {h:Heap}{a:Addr}{vs:List Value}{out:Array Value}{n:Nat} (ho:h.get? a=some (seqObj "list" vs.toArray n)):∃c,(sortedHeap h a vs out).get? a=some (seqObj "list" out c) :=
 ⟨_,get?_update_seq (cw _ (cw _ (get?_update_seq ho λ_=>#[]))) λ_=>out⟩
theorem Ct {h h':Heap} (k:∀b o,o.cls=.type "tuple" → h.get? b=some o→h'.get? b=some o):∀{vs:List Value}{ps:List (Int×Int)},Paired (jm h) vs ps→Paired (jm h') vs ps
 |_,_,.nil=>.nil
 |_,_,.cons x r=>.cons (by let⟨b,o,n,t,u,e0,e,hc,hd⟩:=x;exact⟨b,o,n,t,u,e0,k _ _ hc e,hc,hd⟩) (Ct k r)
theorem oI{h:Heap}:∀{vs:List Value}{ps:List (Int×Int)}{i:Nat},Paired (jm h) vs ps→i<ps.length→jm h (vs.getD i Value.none) (ps.getD i (0,0))
 |_,_,0,.cons x _,_=>x
 |_,_,i+1,.cons _ r,hi=>oI (i:=i) r (Nat.lt_of_succ_lt_succ hi)
 |_,_,_,.nil,hi=>absurd hi (j0 _)
def range_getD:∀(vs:List Value),(List.range vs.length).map (vs.getD · Value.none)=vs:=λvs=>by
 refine z7 (by simp) λi h1 h2=>?_;simp[h2]
def V3 {a:Addr}{vs:List Value}{ps:List (Int×Int)}{n:Nat}{P:PySem.Fin→Shared→Prop} (ho:s.heap.get? a=some (seqObj "list" vs.toArray n)) (hP:Paired (jm s.heap) vs ps) (AA:ps.length<64)
  (h:P (.done (.ret .none)) { s with heap:=sortedHeap s.heap a vs ((fU ps).map (vs.getD · Value.none)).toArray }):wpAny (model prog w) A (Builtin.«list.sort» ⟨[.ref a],[]⟩) P E s:=by
 have hl:=cE hP;have hs:vs.length≤sizeLine:=by rw[pJ];omega
 obtain⟨e1,GA⟩:∃e1,(s.heap.update a (Obj.mapSeq λ_=>#[])).get? a=some (seqObj "list" #[] e1):=⟨_,get?_update_seq ho λ_=>#[]⟩;have AF:(((s.heap.update a (Obj.mapSeq λ_=>#[])).push (seqObj "tuple" vs.toArray 0)).push (seqObj "list" #[] 0)).get? a=some (seqObj "list" #[] e1):=cw _ (cw _ GA);have GB:Paired (jm (((s.heap.update a (Obj.mapSeq λ_=>#[])).push (seqObj "tuple" vs.toArray 0)).push (seqObj "list" #[] 0))) vs ps:=Ct (λb o hc e=>cw _ (cw _ (by
  rw[Heap.get?_update_ne _ _ _ _ (λz=>by rw[z,ho]at e;cases e;exact absurd (show Value.type "list" = Value.type "tuple" from hc) (by decide))];exact e))) hP
 have hz:((fU ps).map (vs.getD · Value.none)).toArray.size≤sizeLine+1:=by
  rw[gu,dZ,(Cj ps).1];omega
 rw[list_sort_plain];refine aA<|listItems_at ho rfl<|aA<|listUpdate_at ho rfl ?_ (by simpa using hs) (jt _);refine aA<|seqEpoch_at GA rfl<|aA<|wpAny_newTuple ?_ (by simpa using hs);refine aA<|wpAny_newList ?_ (jt _);refine jY ?_;show wpAny (model prog w) A _ P E { s with heap:=((s.heap.update a (Obj.mapSeq λ_=>#[])).push (seqObj "tuple" vs.toArray 0)).push (seqObj "list" #[] 0) };dsimp only;by_cases h2:vs.toArray.size<2
 ·rw[if_pos h2,if_pos h2];refine aA<|aN ?_;rw[StateT.run_pure];refine aA<|aN ?_;dsimp only;have e:(arrOf (SortSt.mk' general' (vs.toArray.zip vs.toArray) #[] 7 none)).map (·.2)=((fU ps).map (vs.getD · Value.none)).toArray:=by
   rw[show fU ps=List.range vs.length by unfold fU;rw[if_pos (by simpa[hl]using h2),hl],range_getD];show(vs.toArray.zip vs.toArray).map (·.2)=_;simp[List.map_snd_zip]
  rw[e];refine aA<|seqEpoch_at AF rfl<|aA<|listUpdate_at AF rfl ?_ (jt _) hz;simp only[bne_self_eq_false,Bool.false_eq_true,if_false];exact aN h
 ·rw[if_neg h2,if_neg h2];have n5:2≤vs.length:=by simpa using h2
  refine aA<|V2 GB (by omega) ?_;refine aA<|fY (PySem.W.kat_run (ks:=vs) (Q:=λfL s'=>s'={ s with heap:=((s.heap.update a (Obj.mapSeq λ_=>#[])).push (seqObj "tuple" vs.toArray 0)).push (seqObj "list" #[] 0) }∧failedOf fL=none∧(arrOf fL).map (·.2)=((fU ps).map (vs.getD · Value.none)).toArray)
   (G:=λp s'=>s'={ s with heap:=((s.heap.update a (Obj.mapSeq λ_=>#[])).push (seqObj "tuple" vs.toArray 0)).push (seqObj "list" #[] 0) }∧p.toList=fU ps) rfl n5 (by omega) (λp fL s' _ a2 a3 a4=>⟨a4.1,a3,by rw[PySem.W.kat_snds rfl a2,a4.2]⟩)
   (N2 (n:=ps.length) (c:=λi j=>v5 (ps.getD i (0,0)) (ps.getD j (0,0))) (λi j C hi hj q=>XZ (oI GB hi) (oI GB hj) q) _ (by rw[hl];exact La (by omega)) ⟨rfl,by unfold fU;rw[if_neg (by omega),hl]⟩)) ?_ λ_ _ e=>e
  rintro⟨⟨⟩,fL⟩ s' ⟨rfl,hf,adz⟩;dsimp only;rw[adz];refine aA<|seqEpoch_at AF rfl<|aA<|listUpdate_at AF rfl ?_ (jt _) hz;rw[hf];simp only[bne_self_eq_false,Bool.false_eq_true,if_false];exact aN h
def Ud{r:Addr}{vs:List Value}{ps:List (Int×Int)}{Q:Value→Shared→Prop}
  (hc:∀(E':Value→Shared→Prop) (Q':List Value→Shared→Prop),(∀h1 tk,(∀b o,s.heap.get? b=some o→h1.get? b=some o)→s.heap.objs.size≤h1.objs.size→Q' vs { s with heap:=h1,toks:=tk })→wpAny (model prog w) A.in1 (PySem.collect (.ref r)) Q' E' s)
  (hP:Paired (jm s.heap) vs ps) (AA:ps.length<64)
  (h:∀h' tk a c,(∀b o,s.heap.get? b=some o→h'.get? b=some o)→s.heap.objs.size≤a→h'.get? a=some (seqObj "list" ((fU ps).map (vs.getD · Value.none)).toArray c)→Q (.ref a) { s with heap:=h',toks:=tk }) :
  wpAny (model prog w) A (call (.builtin "sorted") [.ref r]) Q E s:=by
 have hl:=cE hP;refine Calls.call_function_entry kind_sorted plain_sorted entry_sorted (args_sorted1 _) ?_;unfold Builtin.«sorted»;refine aA (m:=checkCount "sorted" 1 1 _)<|aN ?_;refine aA<|hc _ _ λh1 tk k1 z1=>?_;refine aA<|wpAny_newList ?_ (by rw[pJ];omega);have vw:(h1.push (seqObj "list" vs.toArray 0)).get? h1.objs.size=some (seqObj "list" vs.toArray 0):=gq _ rfl;have kp:∀b o,s.heap.get? b=some o→(h1.push (seqObj "list" vs.toArray 0)).get? b=some o:=λb o e=>cw _ (k1 b o e);refine aA<|jY<|pG slot_list_sort ⟨_,vw,rfl⟩ entry_list_sort ?body (args_list_sort _)
 case body =>
  refine V3 (s:={ s with heap:=h1.push (seqObj "list" vs.toArray 0),toks:=tk }) vw (Ct (λb o _ e=>kp b o e) hP) AA ⟨_,rfl,aN ⟨_,rfl,?_⟩⟩;let⟨c,hc⟩:=abQ (vs:=vs) (out:=((fU ps).map (vs.getD · Value.none)).toArray) vw;refine h _ tk _ c (λb o e=>aam (λz=>?_) (kp b o e)) ?_ hc
  ·have:=bZ (k1 b o e);rw[z]at this;exact jX _ this
  ·exact z1
def Cl(P:Nat→Value→Prop)(n:Nat)(s:Shared)(r':Result)(s':Shared):Prop:=∃h' tk iP c',r'=.ok (.ret (.ref s.heap.objs.size))∧s'={ s with heap:=h',toks:=tk }∧(∀b o,s.heap.get? b=some o→h'.get? b=some o)∧h'.get? s.heap.objs.size=some (seqObj "list" iP c')∧ItemsOf P iP n
def TH{T:String}{r d:Addr}{n:Nat}{P:Nat→Value→Prop}{OK:Heap→Prop}(K:PySem.W.KdlSrc prog w T r d n P OK)(hh:A.handled=none)(aH:OK s.heap)(hn:n≤sizeLine){Q:List Value→Shared→Prop}
  (h:∀h' tk (acc:Array Value),(∀b o,s.heap.get? b=some o→h'.get? b=some o)→s.heap.objs.size≤h'.objs.size→ItemsOf P acc n→Q acc.toList { s with heap:=h',toks:=tk }):wpAny (model prog w) A (PySem.collect (.ref r)) Q E s:=by
 skip
 have hS:(s.heap.push (seqObj "list" #[] 0)).get? s.heap.objs.size=some (seqObj "list" #[] 0):=gq _ rfl;have aX:=K.there _ aH;unfold PySem.collect;refine aA<|wpAny_runValue<|codeAny_builtin entry_proto_collect' ?_;show wpAny _ _ (do again (.builtin "list.__iadd__" ⟨[←newList [],.ref r],[]⟩)) _ _ s;have key:codeAny (model prog w) A (.builtin "list.__iadd__" ⟨[.ref s.heap.objs.size,.ref r],[]⟩) (Cl P n s) { s with heap:=s.heap.push (seqObj "list" #[] 0) }:=by
  refine codeAny_builtin entry_list_iadd' ?_;rw[Around.under_plainId F.plain_list_iadd _];exact PySem.W.kdl_extend (R:=Cl P n s) (A:=A) (s:={ s with heap:=s.heap.push (seqObj "list" #[] 0) }) K hh (K.keep _ _ aH λb _ o e=>cw _ e) s.heap.objs.size (Nat.ne_of_gt aX.1) (Nat.ne_of_gt aX.2) (.ref s.heap.objs.size) 0 hS (λh' tk iP c' hk AG iO=>⟨h',tk,iP,c',rfl,rfl,λb o e=>hk b o (fu (bZ e)) (cw _ e),AG,iO⟩) hn
 refine aA<|wpAny_newList<|aN ⟨Code.quiet_builtin _ (by decide +kernel),codeAny_mono key ?_⟩;rintro _ _ ⟨h',tk,iP,c',rfl,rfl,kp,AG,iO⟩;exact aA<|wpAny_load AG<|aN<|h h' tk iP kp (Nat.le_of_lt (bZ AG)) iO
end
section
variable {K:PySem.W.Frag}{N:Addr→Prop}{H H' H₀:Hp}{I:Nat→Option Addr}{O:Addr→Prop}{σ:L2.St}{env:Ev}
def lG(H:Hp)(y:V)(p:Int×Int):Prop:=∃b,y=.ref b∧H b=some (.tup [.int p.1,.int p.2])
abbrev kP(p:Int×Int):List Key:=[.inl p.1,.inl p.2]
def N3(K:PySem.W.Frag)(xs:List V)(H:Hp)(Q:VK):Prop:=∃p ps,xs=[.ref p]∧ps.length<64∧((∃ys,b0 K H p ys∧Paired (lG H) ys ps)∨∃aj:List (List Key×V),H p=some (.dT aj)∧aj.map (·.1)=ps.map kP) ∧
 ∀ys l,Paired (lG H) ys ps→H l=none→Q (.ref l) (upd H l (.lst ((fU ps).map (ys.getD · .non))))
theorem MG{X:Cx}{pins:List (Addr×Obj)}{s:Shared}(I:L2.Inv X pins σ H s):∀{ys:List V}{vs:List Value}{ps:List (Int×Int)},Paired (lG H) ys ps→Vals ys vs→Paired (jm s.heap) vs ps
 |_,_,_,.nil,.nil=>.nil
 |_,_,_,.cons x r,.cons rv rr=>by
  let⟨b,e,hb⟩:=x;subst e;refine .cons ?_ (MG I r rr);obtain rfl:=(show _=Value.ref b from rv);let⟨_,its,r',o,h1,h2,_,n,h3⟩:=I.aH _ _ hb;cases r' with
  |cons a1 r' =>
   cases r' with
   |cons a2 r' =>
    cases r';let⟨t,rfl⟩:=a1;let⟨u,rfl⟩:=a2;exact⟨b,o,n,t,u,rfl,h1,h2,h3⟩
theorem Jh:∀{ys:List V}{vs:List Value} (i:Nat),Vals ys vs→RelV (ys.getD i .non) (vs.getD i Value.none)
 |_,_,_,.nil=>rfl
 |_,_,0,.cons r _=>r
 |_,_,i+1,.cons _ r=>Jh i r
theorem Lb{ys:List V}{vs:List Value}(r:Vals ys vs):∀ix:List Nat,Vals (ix.map (ys.getD · .non)) (ix.map (vs.getD · Value.none))
 |[]=>.nil
 |i::ix=>.cons (Jh i r) (Lb r ix)
theorem JZ:∀{ps:List (Int×Int)}{bs:List Addr},qD H (ps.map kP) bs→Paired (lG H) (bs.map V.ref) ps
 |[],_,.nil=>.nil
 |_::_,_,.cons h t=>.cons ⟨_,rfl,h⟩ (JZ t)
def Ue{X:Cx}(h:X.K=K)(hc:X.calm=true):iJ X (.builtin "sorted") (N3 K):=by
 subst h;intro pins s σ H xs us Q I r h;let⟨p,ps,rfl,hl,hs,q⟩:=h;let⟨u,rfl,ru⟩:=vals1 r;cases ru;have fin:∀{ys:List V}{vs:List Value},Vals ys vs→Paired (lG H) ys ps →
   (∀(E':Value→Shared→Prop) (Q':List Value→Shared→Prop),(∀h1 tk,(∀b o,s.heap.get? b=some o→h1.get? b=some o)→s.heap.objs.size≤h1.objs.size→Q' vs { s with heap:=h1,toks:=tk })→wpAny (model X.prog X.w) X.A.in1 (PySem.collect (.ref p)) Q' E' s) →
   wpAny (model X.prog X.w) X.A (call (.builtin "sorted") [.ref p]) (EP X pins σ Q) X.xe s:=λ{ys vs} rv hp adA=>by
  refine Ud adA (MG I hp rv) hl λh' tk a c k z e=>?_;refine⟨.ref a,_,I.laid (t':=tk) (o:=.lst ((fU ps).map (ys.getD · .non))) k z ⟨?_,_,c,Lb rv _,e⟩,rfl,q ys a hp (I.aH.fresh z)⟩;rw[dZ,(Cj ps).1,pJ];omega
 rcases hs with⟨ys,hq,hp⟩|⟨aj,hd,hk⟩
 ·let⟨its,rv,pl,hz⟩:=I.list hq;refine fin rv hp λE' Q' k=>collect_list pl.isList (k _ s.toks (λb o e=>?_) (by rw[Heap.size_update,size_push'];exact Nat.le_succ _)) (by rw[←rv.length];exact hz);rw[Heap.get?_update_ne _ _ _ _ (fu (bZ e))];exact cw _ e
 ·let⟨hz,vJ,ys,rel,o,es,ep,ho,hex,ra,gZ,iz⟩:=(show cB X.prog X.w H s.heap p (.dT aj)from I.aH p _ hd);have ka:=CK rel;rw[hk]at ka;have hlen:es.toList.length=ys.length:=by rw[gZ,dZ]
  have e2:=cE rel;refine fin (vs:=(ys.map (·.2.1)).map Value.ref) (B3 _) (JZ ka) λE' Q' k=>TH (A:=X.A.in1) (Jb (es:=es) (ep:=ep) vJ) (I.ok.hd hc) ⟨o,ho,hex,ra⟩ (by rw[nP]at hlen;omega) λh' tk acc kp z iO=>?_;rw[show acc.toList=(ys.map (·.2.1)).map Value.ref from by
   refine List.ext_getElem? λj=>?_;rw[gw,cF];have e3:acc.size=es.size:=iO.1;rw[nP]at hlen;cases ej:ys[j]? with
   |none=>exact zV.mpr (by rw[nP];have:=zV.mp ej;omega)
   |some y =>
    have hj:j<acc.size:=by have:=(bp.mp ej).1;omega
    let⟨en,F6,hk⟩:=iO.2 j acc[j] (by simp[hj]);have uS:es[j]?=some (entryOfKey (tupleKind (cG X.prog X.w)) y):=by rw[←nR,gZ,cF,ej];rfl
    rw[F6]at uS;cases uS;rw[nR,PX hj,hk];rfl]
  exact k h' tk kp z
abbrev QV(p:Int×Int):D:=.tup [.int p.1,.int p.2]
abbrev QW:D→Option (Qzz)
 |.tup ds=>some ds
 |_=>none
abbrev two:List Int→Option (Int×Int)
 |[a,b]=>some (a,b)
 |_=>none
abbrev kI:Key→Option Int
 |.inl i=>some i
 |_=>none
abbrev GC:List Key→Option (List Int)
 |[]=>some []
 |k::r=>(kI k).bind λi=>(GC r).bind λl=>some (i::l)
def rE:Qzz→Option (List (Int×Int))
 |[]=>some []
 |d::r=>(QW d).bind λds=>(k6 ds).bind λl=>(two l).bind λp=>(rE r).bind λt=>some (p::t)
def rF:List (List Key×D)→Option (List (Int×Int))
 |[]=>some []
 |k::r=>(GC k.1).bind λl=>(two l).bind λp=>(rF r).bind λt=>some (p::t)
def aan{d:D}{ds:Qzz}(h:QW d=some ds):d=.tup ds:=by
 cases d<;>first|cases h;rfl|cases h
def MH:∀{l:List Int}{p:Int×Int},two l=some p→l=[p.1,p.2]
 |[_,_],_,h=>by cases h;rfl
 |[],_,h=>by cases h
 |[_],_,h=>by cases h
 |_::_::_::_,_,h=>by cases h
theorem MJ:∀{k:List Key}{l:List Int},GC k=some l→k=l.map Key.inl
 |[],_,h=>by cases h;rfl
 |x::r,_,h=>by
  let⟨i,ei,h⟩:=av h;let⟨l,el,h⟩:=av h;cases h;rw[MJ el];cases x<;>cases ei;rfl
def kl(ps:List (Int×Int)):Qzq:=if ps.length<64 then some (.un,.lst ((fU ps).map λi=>QV (ps.getD i (0,0))))else none
def mY:List (M×D)→Qzq
 |[(_,.lst ds)]=>(rE ds).bind kl
 |[(m,.dt ks)]=>if own m=true∨m=.un then (rF ks).bind kl else none
 |_=>none
theorem Lc:∀{ks:List (List Key×D)}{ps:List (Int×Int)},rF ks=some ps→ks.map (·.1)=ps.map kP
 |[],_,h=>by cases h;rfl
 |k::r,ps,h=>by
  let⟨l,el,h⟩:=av h;let⟨p,ep,h⟩:=av h;let⟨t,et,h⟩:=av h;cases h;rw[cY,cY,Lc et,MJ el,MH ep];rfl
theorem Ld:∀{ds:Qzz}{ps:List (Int×Int)}{vs:List V},rE ds=some ps→aB K N H vs ds→Paired (lG H) vs ps
 |[],_,_,h,.nil=>by cases h;exact .nil
 |d::r,ps,_,h,.cons (v:=v) x xs=>by
  let⟨ds,ed,h⟩:=av h;let⟨l,el,h⟩:=av h;let⟨p,ep,h⟩:=av h;let⟨t,et,h⟩:=av h;cases h;cases aan ed;refine .cons ?_ (Ld et xs);cases x with
  |tup hq rp =>
   rw[xP rp el,MH ep]at hq;exact⟨_,rfl,bC.own hq (show 2<4 by decide)⟩
theorem MK{ps:List (Int×Int)}{ys:List V}{l:Addr}{o:HO}(hn:H l=none)(hp:Paired (lG H) ys ps):∀ix:List Nat,(∀i∈ix,i<ps.length)→aB K N (upd H l o) (ix.map (ys.getD · .non)) (ix.map λi=>QV (ps.getD i (0,0)))
 |[],_=>.nil
 |i::ix,h=>by
  refine .cons ?_ (MK hn hp ix λj hj=>h j (cT _ hj));have:∀{ys:List V}{ps:List (Int×Int)} (i:Nat),Paired (lG H) ys ps→i<ps.length→lG H (ys.getD i .non) (ps.getD i (0,0)):=λ{ys ps} i=>by
   induction i generalizing ys ps with
   |zero=>intro hp hi;cases hp with
    |nil=>exact absurd hi (j0 _)
    |cons x _=>exact x
   |succ i ih=>intro hp hi;cases hp with
    |nil=>exact absurd hi (j0 _)
    |cons _ r=>exact ih r (Nat.lt_of_succ_lt_succ hi)
  let⟨b,e,hb⟩:=this i hp (h i cg);show Rp K N _ (ys.getD i .non) _;rw[e];exact .tup (.inl (by rw[aI (eR hb hn)];exact hb)) (.cons (.int _) (.cons (.int _) .nil))
set_option tactic.hygienic true in
def UX:lE K (N3 K) mY:=by
 intro H₀ O H vs ay Q m d od hd hv h q;have fin:∀{ps:List (Int×Int)},kl ps=some (m,d)→ps.length<64∧∀ys l,Paired (lG H) ys ps→H l=none→Q (.ref l) (upd H l (.lst ((fU ps).map (ys.getD · .non)))):=λ{ps} h=>by
  unfold kl at h;split at h
  ·rename_i hl;cases h;exact⟨hl,λys l hp hn=>q _ _ (cW hn) ⟨l,rfl,hn,kC hd hn,iG od hn,_,bN,MK hn hp _ (Cj ps).2⟩⟩
  ·cases h
 unfold mY at h;split at h
 ·let⟨ps,en,h⟩:=av h;let⟨v,rfl,hw⟩:=hv.one;let⟨p,xs,rfl,hs,r⟩:=hw.lst;exact⟨p,ps,rfl,(fin h).1,.inl ⟨xs,hs,Ld en r⟩,(fin h).2⟩
 ·rename_i m0 ks;split at h
  ·rename_i hm;let⟨ps,en,h⟩:=av h;let⟨v,rfl,hw⟩:=hv.one;have:∃p aj,v=.ref p∧H p=some (.dT aj)∧aj.map (·.1)=ks.map (·.1):=by
    cases m0<;>simp only[own,Bool.false_eq_true,false_or,reduceCtorEq,or_false,or_self]at hm<;>simp only[Val,Cell]at hw
    ·let⟨p,rfl,_,_,_,xs,c,z,_⟩:=hw;exact⟨p,xs,rfl,c,z⟩
    ·let⟨p,rfl,_,_,xs,c,z,_⟩:=hw;exact⟨p,xs,rfl,c,z⟩
    ·let⟨p,rfl,_,xs,c,z,_⟩:=hw;exact⟨p,xs,rfl,c,z⟩
   let⟨p,aj,rfl,e,ek⟩:=this;exact⟨p,ps,rfl,(fin h).1,.inr ⟨aj,e,ek.trans (Lc en)⟩,(fin h).2⟩
  ·cases h
 ·cases h
def OI(K:PySem.W.Frag):R2:=λx y H Q=>(x=.non∧(∃b xs,y=.ref b∧bC K H b xs)∧Q (.bl false) H)∨zl K x y H Q
def aao{X:Cx}(h:X.K=K)(hu:X.A.units+64<cLine):bM X (compareOp .Eq) (OI K):=by
 subst h;intro pins s σ H x y v u Q I rx ry h;rcases h with⟨rfl,⟨b,xs,rfl,hq⟩,q⟩|h
 ·cases (show v=Value.none from rx);cases (show u=Value.ref b from ry);let⟨its,_,pl,_⟩:=I.tuple hq;exact SeqAt.RcAt.none_tuple pl (by omega) X.prog X.w X.xe _ ⟨.bl _,H,I,rfl,q⟩
 ·exact Mg hu pins s σ H x y v u Q I rx ry h
def u5:M×D→M×D→Qzq
 | (_,.non),(_,.tup _)=>some (.fr,.bl false)
 |a,b=>gF a b
def aap:JR K (OI K) u5:=by
 intro H₀ O H x y a b Q m d od hd h1 h2 h q;unfold u5 at h;split at h
 ·cases h;let⟨p,xs,rfl,hs,_⟩:=h2.tup;exact .inl ⟨h1.non,⟨p,xs,rfl,hs⟩,q _ H (aG.refl H) fG⟩
 ·exact .inr (Mt H₀ O H x y a b Q m d od hd h1 h2 h q)
abbrev qa(ns:List Int):Nat:=(firstMet (λi=>ns.getD i 0) ns.length).length
def QX(K:PySem.W.Frag)(te:TA):TE:=λσ H Q=>te σ H λxs H1=>∃a ns,xs=[.ref a]∧b0 K H1 a (ns.map V.int)∧ns.length+1<scanBound∧Q (.int (qa ns)) H1
def abR {X:Cx}{a:Expr}{ta:TA}{p pos p' pos':Pos} (hK:X.K=K) (hc:X.calm=true) (Gu:Gl X "len") (kj:X.mg "len" = none) (hg:Gl X "set") (hm:X.mg "set" = none) (ha:PA X [a] ta) (hs:starEach [a] X.env=[(false,eval a X.env)]:=by rfl):PE X (.Call (.Name "len" p') [.Call (.Name "set" p) [a] [] pos] [] pos') (QX K ta):=by
 subst hK;intro pins s σ H Q I h;refine Call_ (kQ I Gu kj PyProof.Rows.Boot.«len» (PyProof.Rows.callWith_builtin1 ?_ rfl rfl));show wpAny _ _ (spliced ((false,eval (.Call (.Name "set" p) [a] [] pos) X.env)::backTo pos' (starEach [] X.env))) _ _ s;refine vb ?_;refine Call_ (kQ I hg hm PyProof.Rows.Boot.«set» (pI (aJ (ha pos pins s σ H _ I h) λus s1 ⟨vs,H1,I1,r1,q1⟩=>?_) hs rfl));let⟨l,ns,rfl,hq,hb,q⟩:=q1;let⟨u,rfl,ru⟩:=vals1 r1;cases ru;let⟨its,rv,pl,hz⟩:=I1.list hq;have li:its.length=ns.length:=by rw[←rv.length];simp
 refine PySem.call_set_list (ns:=ns) (I1.ok.hd hc) pl.isList (by simpa using ints_of rv) (by simpa[li]using hb) λh' tk hS hk=>args_nil ?_;let⟨o,es,ep,t,ho,hex,hd,_,_,_,hf,rest⟩:=hS;have hle:=firstMet_length_le (λi=>ns.getD i 0) its.toArray.size;rw[show its.toArray.size=ns.length by simpa using li]at rest hle;have e1:es.size=qa ns:=rest;refine call_len_set ho hex hd hf ?_ ?_
 ·have:ns.length+1<4096:=hb;have h63:(2:Int)^63=9223372036854775808:=by decide
  rw[e1,h63];unfold qa;omega
 ·exact⟨.int (qa ns),H1,I1.kept (t':=tk+1+1) λb o e=>hk b o (bZ e) e,⟨_,by rw[e1]⟩,q⟩
def AH(fs:Qqz):Qqj:=λe=>(fs e).bind λl=>match l with
 |[(_,.lst ds)]=>(k6 ds).bind λns=>if ns.length<4000 then some (.fr,.int (qa ns))else none
 |_=>none
def abS{ta:TA}{fs:Qqz}(h:iB K ta fs):JT K (QX K ta) (AH fs):=by
 intro H₀ O H σ env Q m d R e q;let⟨ay,em,e⟩:=av e;split at e
 ·let⟨ns,en,e⟩:=av e;split at e
  ·rename_i hl;cases e;refine h H₀ O H σ env _ _ R em λvs H1 s1 hv=>?_;let⟨v,rfl,hw⟩:=hv.one;let⟨p,xs,rfl,hs,r⟩:=hw.lst;rw[xP r en]at hs;exact⟨p,ns,rfl,hs,by unfold scanBound;omega,q _ _ s1 (Rp.int _)⟩
  ·cases e
 ·cases e
end
end J
set_option genInjectivity false
set_option genSizeOf false
namespace C
open PySem PySem.Spec L2 J
inductive Bo where|add|sub|mul|div|mod|pow|shl|shr|band|bor
inductive Co where|lt|le|gt|eq|ne|qb|n9|v7|su|qc|AI|AJ
inductive Uo where|neg|inv
inductive Fb where|int|list|len|oa|max|yV|sum|uL
abbrev Bo.op:Bo→Operator
 |.add=>.Add
 |.sub=>.Sub
 |.mul=>.Mult
 |.div=>.FloorDiv
 |.mod=>.Mod
 |.pow=>.Pow
 |.shl=>.LShift
 |.shr=>.RShift
 |.band=>.BitAnd
 |.bor=>.BitOr
def Bo.g:Bo→M×D→M×D→Qzq
 |.add=>bW
 |.sub=>jf
 |.mul=>fW
 |.div=>cC
 |.mod=>bf
 |.pow=>jQ
 |.shl=>oV
 |.shr=>nC
 |.band=>gD
 |.bor=>rq
def Bo.ok{K:PySem.W.Frag}:∀o:Bo,∃r,(∀Z:Cx,Z.K=K→bM Z (binaryOp o.op) r)∧JR K r o.g
 |.add=>⟨_,λ_ h=>Xs h,Xt⟩
 |.sub=>⟨_,λ_ _=>YS,Zq⟩
 |.mul=>⟨_,λ_ _=>YT,Zr⟩
 |.div=>⟨_,λ_ _=>Vz,Xj⟩
 |.mod=>⟨_,λ_ _=>YV,Zt⟩
 |.pow=>⟨_,λ_ _=>YW,Zu⟩
 |.shl=>⟨_,λ_ _=>YX,Zv⟩
 |.shr=>⟨_,λ_ _=>YY,Zw⟩
 |.band=>⟨_,λ_ _=>YZ,Xi⟩
 |.bor=>⟨_,λ_ _=>abg,ZV⟩
abbrev Co.op:Co→CmpOp
 |.lt=>.Lt
 |.le=>.LtE
 |.gt=>.Gt
 |.eq=>.Eq
 |.ne=>.NotEq
 |.qb=>.IsNot
 |.n9=>.In
 |.v7=>.NotIn
 |.su=>.Eq
 |.qc=>.NotEq
 |.AI=>.NotIn
 |.AJ=>.Eq
def Co.g:Co→M×D→M×D→Qzq
 |.lt=>gx
 |.le=>pZ
 |.gt=>iU
 |.eq=>aP
 |.ne=>kg
 |.qb=>kY
 |.n9=>eZ false
 |.v7=>eZ true
 |.su=>gF
 |.qc=>ip
 |.AI=>pj true
 |.AJ=>u5
def Co.ok{K:PySem.W.Frag}:∀o:Co,∃r,(∀Z:Cx,Z.K=K→Z.A.units+64<cLine→bM Z (compareOp o.op) r)∧JR K r o.g
 |.lt=>⟨_,λ_ _ _=>abj,abu⟩
 |.le=>⟨_,λ_ _ _=>abk,abv⟩
 |.gt=>⟨_,λ_ _ _=>abl,abw⟩
 |.eq=>⟨_,λ_ _ _=>abh,abx⟩
 |.ne=>⟨_,λ_ _ _=>abi,aby⟩
 |.qb=>⟨_,λ_ _ _=>WL,W2⟩
 |.n9=>⟨_,λ_ h _=>T8 h,NP⟩
 |.v7=>⟨_,λ_ h _=>Tf h,NP⟩
 |.su=>⟨_,λ_ h u=>Z7 h u,Mt⟩
 |.qc=>⟨_,λ_ h u=>Z8 h u,Z6⟩
 |.AI=>⟨_,λ_ h u=>Ub h u,Z9⟩
 |.AJ=>⟨_,λ_ h u=>aao h u,aap⟩
abbrev Uo.op:Uo→UnaryOp
 |.neg=>.USub
 |.inv=>.Invert
def Uo.g:Uo→M×D→Qzq
 |.neg=>gQ
 |.inv=>nF
def Uo.ok{K:PySem.W.Frag}:∀o:Uo,∃r,(∀Z:Cx,vz Z (unaryOp o.op) r)∧JU K r o.g
 |.neg=>⟨_,λ_=>Y0,ZT⟩
 |.inv=>⟨_,λ_=>Y1,ZU⟩
abbrev Fb.nm:Fb→String
 |.int => "int"
 |.list => "list"
 |.len => "len"
 |.oa => "isinstance"
 |.max => "max"
 |.yV => "list"
 |.sum => "sum"
 |.uL => "sorted"
def Fb.g:Fb→List (M×D)→Qzq
 |.int=>nE
 |.list=>uH
 |.len=>bG
 |.oa=>jj
 |.max=>uT
 |.yV=>uw
 |.sum=>uZ
 |.uL=>mY
inductive Gv where|s (x:Str)|t (l:List Str)
abbrev Gv.d:Gv→D
 |.s x=>.str x
 |.t l=>.tup (l.map .str)
mutual
inductive X where|v (i:Nat)|ki (i:Int)|ks (s:Str)|kb (b:Bool)|kn|ty (n:String)|bo (o:Bo) (a b:X)|co (o:Co) (a b:X)|uo (o:Uo) (a:X)|an (a b:X)|or (a b:X)|nt (a:X)|ie (t:T) (a b:X)|tu (l:A)|li (l:A)|dK|d1 (a b:X)|ix (a b:X)|dg (a b:X)|sl (a:X) (lo hi:P)|dT|tg (a b:X)|v3 (d k x:X)|lr (l:A)|fb (f:Fb) (l:A)|ca (f:Nat) (l:A)|cp (i:I) (ix:List Nat) (t:T) (e:X)|ls (l:A)
inductive Pp where|n|c (a b:X) (l:Pp)
inductive A where|n|c (a:X) (l:A)
inductive T where|b (x:X)|c (o:Co) (a b:X)|d (n:Bool) (a b:X)|t (n:Bool) (a b:X)|h (o p:Co) (a b c:X)|an (a b:T)|or (a b:T)|nt (a:T)|y
inductive P where|n|s (x:X)
inductive I where|r1 (l:A)|r2 (l:A)|en (l:A)|s (x:X)|t (x:X)|l (x:X)
end
mutual
inductive G where|n (i:Nat)|t (k:Nat) (l:Gs)|l (k:Nat) (l:Gs)
inductive Gs where|n|c (g:G) (l:Gs)
end
inductive L where|rt (x:X)|st (i:Nat) (x:X)|sc (j:Nat) (i:I) (ix:List Nat) (q:T) (e:X)|as (g:G) (x:X)|si (k:Nat) (i x:X)|dp (k:Nat) (i x:X)|ap (k:Nat) (x:X)|na (k:Nat) (i x:X)|po (i k:Nat)|rv (k:Nat)|ne (i:Nat) (it:I)|tp (k:Nat) (i x:X)|rO (f:Nat) (sl:List Nat) (l:A)|rT (l:A)|iS (i f:Nat) (sl:List Nat) (l:A)
inductive Ch where|a (k x:X)|d (k y x:X)
mutual
inductive S where|l (x:L)|ie (t:T) (a b:B)|fo (i:I) (g:G) (b:B)|fk (k:Nat) (g:G) (b:B)|wh (t:T) (b:B)|fz (k:Nat) (s:S)
inductive B where|n|o (s:S)|c (s:S) (b:B)|u (i:Nat) (x:X) (q:T) (r:X) (cs:List Ch) (b:B)
end
inductive FT where
 |p (F:Qqk)|io (l:List Nat) (F:Qzz→Option (M×D×Qzz))|oo (F:Qzz→Option D)
abbrev FT.f:Option FT→Qqk
 |some (.p F)=>F
 |_=>λ_=>none
abbrev FT.l:Option FT→List Nat
 |some (.io l _)=>l
 |_=>[]
abbrev FT.o:Option FT→Qzz→Option (M×D×Qzz)
 |some (.io _ F)=>F
 |_=>λ_=>none
abbrev FT.q:Option FT→Qzz→Option D
 |some (.oo F)=>F
 |_=>λ_=>none
mutual
abbrev eX(t:List FT):X→Qqj
 |.v i=>jV i
 |.ki i=>jC (.int i)
 |.ks s=>jC (.str s)
 |.kb b=>jC (.bl b)
 |.kn=>jC .non
 |.ty n=>jC (.ty n)
 |.bo o a b=>ae o.g (eX t a) (eX t b)
 |.co o a b=>ae o.g (eX t a) (eX t b)
 |.uo o a=>de o.g (eX t a)
 |.an a b=>nD (eX t a) (eX t b)
 |.or a b=>mO (eX t a) (eX t b)
 |.nt a=>Eu (eX t a)
 |.ie c a b=>rj (eT t c) (eX t a) (eX t b)
 |.tu l=>aV (eA t l)
 |.li l=>bP (eA t l)
 |.dK=>ur
 |.d1 a b=>yR (eX t a) (eX t b)
 |.ix a b=>ae au (eX t a) (eX t b)
 |.dg a b=>oO (eX t a) (eX t b)
 |.sl a lo hi=>iD iV (eX t a) (eP t lo) (eP t hi)
 |.dT=>uI
 |.tg a b=>k7 (eX t a) (eX t b)
 |.v3 d k x=>uv (eX t d) (eX t k) (eX t x)
 |.lr l=>Av (eA t l)
 |.fb f l=>aK f.g (eA t l)
 |.ca f l=>aC (FT.f t[f]?) (eA t l)
 |.cp i ix c e=>cv (eI t i) ix (eT t c) (eX t e)
 |.ls l=>AH (eA t l)
abbrev QY(t:List FT):Pp→List (Fj×Fj)
 |.n=>[]
 |.c a b l=>(eX t a,eX t b)::QY t l
abbrev eA(t:List FT):A→Qqz
 |.n=>ai
 |.c a l=>ag (eX t a) (eA t l)
abbrev eT(t:List FT):T→Qqx
 |.b x=>jB (eX t x)
 |.c o a b=>jB (ae o.g (eX t a) (eX t b))
 |.d n a b=>jB (fX n (eX t a) (eX t b))
 |.t n a b=>jB (EG n (eX t a) (eX t b))
 |.h o p a b c=>jB (mW o.g p.g (eX t a) (eX t b) (eX t c))
 |.an a b=>dm (eT t a) (eT t b)
 |.or a b=>cQ (eT t a) (eT t b)
 |.nt a=>eY (eT t a)
 |.y=>dN
abbrev eP(t:List FT):P→Ev→Option (Option Int)
 |.n=>jh
 |.s x=>gP (eX t x)
abbrev eI(t:List FT):I→Ev→Option (M×Qzz)
 |.r1 l=>cf (eA t l)
 |.r2 l=>uV (eA t l)
 |.en l=>gb (eA t l)
 |.s x=>Gk (eX t x)
 |.t x=>Qx (eX t x)
 |.l x=>bF (eX t x)
end
mutual
abbrev eG:G→M×D→Ev→Option Ev
 |.n i=>gN i
 |.t k l=>gT k (AK l)
 |.l k l=>gL k (AK l)
abbrev AK:Gs→M→Qzz→Ev→Option Ev
 |.n=>dJ
 |.c g l=>bR (eG g) (AK l)
end
def pA:A→List (Nat×Nat)
 |.n=>[]
 |.c (.v i) l=>(0,i)::Ar (pA l)
 |.c _ l=>Ar (pA l)
def eL(t:List FT):L→Qqq
 |.rt x=>aF (eX t x)
 |.st i x=>aw i (eX t x)
 |.sc j i ix q e=>aw j (eX t (.cp i ix q e))
 |.as g x=>oY (eG g) (eX t x)
 |.si k i x=>fS k (eX t i) (eX t x)
 |.dp k i x=>k5 k (eX t i) (eX t x)
 |.ap k x=>cJ k (eX t x)
 |.na k i x=>yT k (eX t i) (eX t x)
 |.po i k=>uU i k
 |.rv k=>zo k
 |.ne i it=>yS i (eI t it)
 |.tp k i x=>m9 k (eX t i) (eX t x)
 |.rT l=>NW (eA t l)
 |.rO f sl l=>lS sl (pA l) (FT.q t[f]?) (eA t l)
 |.iS i f sl l=>yp i (FT.l t[f]?) sl (pA l) (FT.o t[f]?) (eA t l)
def GD(t:List FT):Ch→Ev→Nat→Qzz→Bool
 |.a k x=>EH (eX t k) (eX t x)
 |.d k y x=>EI (eX t k) (eX t y) (eX t x)
mutual
abbrev eS(t:List FT):S→Qqq
 |.l x=>eL t x
 |.ie c a b=>aM (eT t c) (eB t a) (eB t b)
 |.fo i g b=>aT (eI t i) (eG g) (eB t b)
 |.fk k g b=>yU QT k (eG g) (eB t b)
 |.wh c b=>ic (eT t c) (eB t b)
 |.fz k s=>bT k (eS t s)
abbrev eB(t:List FT):B→Qqq
 |.n=>aS
 |.o s=>eS t s
 |.c s b=>aq (eS t s) (eB t b)
 |.u i x q r cs b=>QS i (eX t x) (eT t q) (eX t r) (cs.map (GD t)) (eB t b)
end
end C
set_option genInjectivity true
set_option genSizeOf true
namespace C
open PySem PySem.Spec L2 J
abbrev fm:Expr→Bool
 |.Starred ..=>false
 |_=>true
abbrev mR:Expr→Bool
 |.Slice ..=>false
 |_=>true
abbrev v8:Expr→Bool
 |.Name ..=>true
 |.Call ..=>true
 |.Subscript ..=>true
 |_=>false
abbrev v9:Expr→Bool
 |.Name ..=>true
 |.Constant ..=>true
 |.Subscript ..=>true
 |.Call _ (_::_) _ _=>true
 |_=>false
abbrev jW:Expr→Bool
 |.Set ..=>false
 |_=>true
abbrev k8:Expr→Bool
 |.ListComp ..=>false
 |.SetComp ..=>false
 |.DictComp ..=>false
 |_=>true
abbrev DW:Expr→Bool
 |.Tuple ..=>true
 |_=>false
def cO{e:Expr}(h:fm e=true){es:List Expr}{env:Env}:starEach (e::es) env=(false,eval e env)::starEach es env:=by
 cases e<;>first|rfl|cases h
def qU{i:Expr}(h:mR i=true):Kv i:=by
 intro o v;cases i<;>first|rfl|cases h
def Le{i:Expr}(h:mR i=true):Eh i:=by
 intro o v;cases i<;>first|rfl|cases h
def aaq{i o:Expr}{pos:Pos}{env:Env}(h:mR i=true)(v:Value):assign (Expr.Subscript o i pos) env v=(do
  let ov ←holding [v] (eval o env)
  let iv ←holding [v,ov] (eval i env)
  standAt pos
  holding [v,ov,iv] (setItem ov iv v)
  PySem.release [v,ov,iv] []):=by
 cases i<;>first|rfl|cases h
def aar{a:Expr}{env:Env}(h:v8 a=true)(whole:Sem Value):PySem.isTrue a env whole=(do
  let v ←whole
  standAt (Expr.pos a)
  holding [v] (truthy v)):=by
 cases a<;>first|rfl|cases h
set_option tactic.hygienic true in
def Dr{o:Expr}{m:Str}{env:Env}{w:Sem Value}(h:v9 o=true):attributeBase o m env w=w:=by
 cases o<;>first|rfl | (cases h;done)|skip
 rename_i f l kw p;cases l with
 |nil=>cases h
 |cons a l=>cases f<;>rfl
def qx{op:CmpOp}{e:Expr}(h:jW e=true):behindInMarks op e=false:=by
 cases e<;>first|rfl|cases h
def mU{e:Expr}{env:Env}(h:jW e=true)(x:Value):foldedSetIterable e env x=pure x:=by
 cases e<;>first|rfl|cases h
abbrev GF(sc:Scope)(x:Str):Bool:=match sc.names.lookup x with
 |some .local=>true
 |some .cell=>true
 |some .free=>true
 |_=>false
def ML{sc:Scope}{x:Str}(h:GF sc x=true):Aa sc x:=by
 unfold GF at h;unfold Aa;split at h<;>first|exact absurd h bw|simp_all
abbrev gl(sc:Scope)(x:Str):Bool:=match sc.names.lookup x with
 |some .globalImplicit=>true
 |_=>false
def abT{sc:Scope}{x:Str}(h:gl sc x=true):sc.names.lookup x=some .globalImplicit:=by
 unfold gl at h;split at h<;>first|exact absurd h bw|assumption
abbrev rl(sc aD:Scope):Scope :=
  { kind:=aD.kind,names:=aD.names.map (λ(n,k)=>if (k==NameKind.free&&sc.kind==ScopeKind.function&&sc.names.lookup n==some NameKind.cell)=true then (n,NameKind.cell)else (n,k)),
    isGenerator:=aD.isGenerator,isCoroutine:=aD.isCoroutine,more:=aD.more }
abbrev GH(N N':List Str)(sc aD:Scope)(x:Str)(ix:List Nat):Bool :=
 decide (aD.kind=.function∧(∀y∈aD.names,y.2≠.cell)∧(∀y∈aD.names,y.2=.local→aD.names.lookup y.1=some .local)∧aD.names.lookup x=some .local ∧
  (∀y∈aD.names,y.2=.free→sc.names.lookup y.1=some .cell)∧N'.Nodup∧N'[0]?=some x∧N'.length=ix.length+1 ∧
  (∀p∈ix.zip N'.tail,N[p.1]?=some p.2∧sc.names.lookup p.2=some .cell∧aD.names.lookup p.2=some .free))
def Dt{N N':List Str}{sc aD:Scope}{x:Str}{ix:List Nat}(h:GH N N' sc aD x ix=true):lQ N N' sc aD x ix:=by
 let⟨h1,h2,h3,h4,h5,h6,h7,h8,h9⟩:=bq h;exact⟨h1,h2,h3,h4,h5,h6,h7,h8,h9⟩
structure Fi where
 nm:Str
 ar:Nat
 lv:Nat
 io:Option (List Nat):=none
 df:Option Int:=none
abbrev Gv.is:Gv→Gv→Bool
 |.s x,.s y=>decide (x=y)
 |.t x,.t y=>decide (x=y)
 |_,_=>false
structure Cf where
 bs:List String
 gs:List (Str×Gv)
 fs:List Fi
abbrev ns(N:List Str)(x:Str)(ix:List Nat):List Str:=x::ix.map λi=>(N[i]?).getD ""
abbrev tys:List String:=["bool", "int", "str", "tuple", "list", "dict"]
abbrev nin(n:Bool):CmpOp:=if n then .NotIn else .In
abbrev on{α:Type}(o:Option α)(f:α→Bool):Bool:=match o with
 |some a=>f a
 |none=>false
def aE{α:Type}{o:Option α}{f:α→Bool}(h:on o f=true):∃a,o=some a∧f a=true:=by
 cases o with
 |none=>cases h
 |some a=>exact⟨a,rfl,h⟩
abbrev sv:Expr→Option Str
 |.Name x _=>some x
 |_=>none
abbrev eK:Expr→Option Const
 |.Constant c _ _=>some c
 |_=>none
abbrev QZ:Const→Option Int
 |.int i=>some i
 |_=>none
abbrev Q0:Const→Option Str
 |.str i=>some i
 |_=>none
abbrev Q5:Const→Option Bool
 |.bool i=>some i
 |_=>none
abbrev Q6:Const→Bool
 |.none=>true
 |_=>false
abbrev Q7:Expr→Option (Expr×Operator×Expr)
 |.BinOp l op r _=>some (l,op,r)
 |_=>none
abbrev AO:Expr→Option (UnaryOp×Expr)
 |.UnaryOp op e _=>some (op,e)
 |_=>none
abbrev GJ:Expr→Option (Expr×List CmpOp×List Expr)
 |.Compare l ops rs _=>some (l,ops,rs)
 |_=>none
abbrev l1{α:Type}:List α→Option α
 |[a]=>some a
 |_=>none
abbrev l2{α:Type}:List α→Option (α×α)
 |[a,b]=>some (a,b)
 |_=>none
abbrev lH{α:Type}:List α→Option (α×List α)
 |a::l=>some (a,l)
 |_=>none
def wa(e:Expr):Option (Expr×CmpOp×Expr):=(GJ e).bind λq=>(l1 q.2.1).bind λop=>(l1 q.2.2).map λr=>(q.1,op,r)
def Q8(e:Expr):Option (Expr×CmpOp×CmpOp×Expr×Expr):=(GJ e).bind λq=>(l2 q.2.1).bind λop=>(l2 q.2.2).map λr=>(q.1,op.1,op.2,r.1,r.2)
abbrev Q9:Expr→Option (BoolOp×List Expr×Pos)
 |.BoolOp op vs pos=>some (op,vs,pos)
 |_=>none
def u6(o:BoolOp)(e:Expr):Option (Expr×Expr):=(Q9 e).bind λq=>if q.1=o then (lH q.2.1).bind λa=>(lH a.2).map λb=>(a.1,match b.2 with
 |[]=>b.1
 |_=>.BoolOp o (b.1::b.2) q.2.2)else none
abbrev Ra:Expr→Option (Expr×Expr×Expr)
 |.IfExp e l r _=>some (e,l,r)
 |_=>none
abbrev wc:Expr→Option (List Expr)
 |.Tuple es _ _=>some es
 |_=>none
abbrev Rb:Expr→Option (List Expr)
 |.List es _=>some es
 |_=>none
abbrev AQ:Expr→Option (List (Option Expr)×List Expr)
 |.Dict ks vs _=>some (ks,vs)
 |_=>none
abbrev km:Expr→Option (Expr×Expr)
 |.Subscript l r _=>some (l,r)
 |_=>none
abbrev Rc:Expr→Option (Option Expr×Option Expr)
 |.Slice lo hi none _=>some (lo,hi)
 |_=>none
abbrev GK:Expr→Option (Expr×List Expr×List Keyword×Pos)
 |.Call f as kw cp=>some (f,as,kw,cp)
 |_=>none
abbrev Rf:Expr→Option (Expr×Str×Pos)
 |.Attribute o m ap=>some (o,m,ap)
 |_=>none
def eM(nm:String)(e:Expr):Option (Expr×List Expr):=(GK e).bind λq=>(Rf q.1).bind λa=>if a.2.1=Str.ofString nm∧q.2.2.1.isEmpty=true∧v9 a.1=true∧(a.2.2.endLine==q.2.2.2.line)=true∧q.2.1.all fm=true then some (a.1,q.2.1)else none
def eN(e:Expr):Option (Str×List Expr):=(GK e).bind λq=>(sv q.1).bind λx=>if q.2.2.1.isEmpty=true∧q.2.1.all fm=true then some (x,q.2.1)else none
abbrev zu:Expr→Option (Expr×Str×Pos×Expr×List Expr×Scope×Pos)
 |.ListComp el [⟨.Name z pz,it,ifs,0⟩] aD ep=>some (el,z,pz,it,ifs,aD,ep)
 |_=>none
def jF{α β:Type}{o:Option α}{f:α→Option β}{b:β}(h:o.bind f=some b):∃a,o=some a∧f a=some b:=by
 cases o with
 |none=>cases h
 |some a=>exact⟨a,rfl,h⟩
def yr{α β:Type}{o:Option α}{f:α→β}{b:β}(h:o.map f=some b):∃a,o=some a∧f a=b:=by
 cases o with
 |none=>cases h
 |some a=>exact⟨a,rfl,by simpa using h⟩
def qH{e:Expr}{x:Str}(h:sv e=some x):∃p,e=.Name x p:=by
 cases e<;>cases h;exact⟨_,rfl⟩
def yW{e:Expr}{k:Const}(h:eK e=some k):∃j p,e=.Constant k j p:=by
 cases e<;>cases h;exact⟨_,_,rfl⟩
def abU{k:Const}{i:Int}(h:QZ k=some i):k=.int i:=by
 cases k<;>cases h;rfl
def abV{k:Const}{i:Str}(h:Q0 k=some i):k=.str i:=by
 cases k<;>cases h;rfl
def abW{k:Const}{i:Bool}(h:Q5 k=some i):k=.bool i:=by
 cases k<;>cases h;rfl
def abX{k:Const}(h:Q6 k=true):k=.none:=by
 cases k<;>first|rfl|exact absurd h bw
def aas{e l r:Expr}{op:Operator}(h:Q7 e=some (l,op,r)):∃p,e=.BinOp l op r p:=by
 cases e<;>cases h;exact⟨_,rfl⟩
def Du{e a:Expr}{op:UnaryOp}(h:AO e=some (op,a)):∃p,e=.UnaryOp op a p:=by
 cases e<;>cases h;exact⟨_,rfl⟩
def iL{α:Type}{l:List α}{a:α}(h:l1 l=some a):l=[a]:=by
 cases l with
 |nil=>cases h
 |cons b l=>cases l<;>cases h;rfl
def DX{α:Type}{l:List α}{a:α×α}(h:l2 l=some a):l=[a.1,a.2]:=by
 cases l with
 |nil=>cases h
 |cons b l =>
  cases l with
  |nil=>cases h
  |cons d l=>cases l<;>cases h;rfl
def jG{α:Type}{l:List α}{a:α×List α}(h:lH l=some a):l=a.1::a.2:=by
 cases l<;>cases h;rfl
def MN{e:Expr}{q:Expr×List CmpOp×List Expr}(h:GJ e=some q):∃p,e=.Compare q.1 q.2.1 q.2.2 p:=by
 cases e<;>cases h;exact⟨_,rfl⟩
def yt{e l r:Expr}{op:CmpOp}(h:wa e=some (l,op,r)):∃p,e=.Compare l [op] [r] p:=by
 let⟨q,h1,h⟩:=jF h;let⟨a,h2,h⟩:=jF h;let⟨b,h3,h⟩:=yr h;cases h;let⟨p,rfl⟩:=MN h1;exact⟨p,by rw[iL h2,iL h3]⟩
def aat{e l m r:Expr}{op op':CmpOp}(h:Q8 e=some (l,op,op',m,r)):∃p,e=.Compare l [op,op'] [m,r] p:=by
 let⟨q,h1,h⟩:=jF h;let⟨a,h2,h⟩:=jF h;let⟨b,h3,h⟩:=yr h;cases h;let⟨p,rfl⟩:=MN h1;exact⟨p,by rw[DX h2,DX h3]⟩
def aau{e:Expr}{q:BoolOp×List Expr×Pos}(h:Q9 e=some q):e=.BoolOp q.1 q.2.1 q.2.2:=by
 cases e<;>cases h;rfl
def yb{o:BoolOp}{e a b:Expr}(h:u6 o e=some (a,b)):∃m rest pos,e=.BoolOp o (a::m::rest) pos∧((rest=[]∧b=m)∨b=.BoolOp o (m::rest) pos):=by
 let⟨q,h1,g⟩:=jF h;have e0:=aau h1;by_cases e:q.1=o
 ·rw[if_pos e]at g;let⟨x,h2,g⟩:=jF g;let⟨y,h3,g⟩:=yr g;have e2:q.2.1=x.1::y.1::y.2:=by rw[jG h2,jG h3]
  have ea:x.1=a:=dD Prod.fst g;have eb:=dD Prod.snd g;refine⟨y.1,y.2,q.2.2,by rw[e0,e2,e,ea],?_⟩;cases hy:y.2 with
  |nil=>rw[hy]at eb;exact .inl ⟨rfl,eb.symm⟩
  |cons z zs=>rw[hy]at eb;exact .inr eb.symm
 ·rw[if_neg e]at g;cases g
def aav{e a b d:Expr}(h:Ra e=some (a,b,d)):∃p,e=.IfExp a b d p:=by
 cases e<;>cases h;exact⟨_,rfl⟩
def yu{e:Expr}{es:List Expr}(h:wc e=some es):∃k p,e=.Tuple es k p:=by
 cases e<;>cases h;exact⟨_,_,rfl⟩
def aaw{e:Expr}{es:List Expr}(h:Rb e=some es):∃p,e=.List es p:=by
 cases e<;>cases h;exact⟨_,rfl⟩
def Dv{e:Expr}{q:List (Option Expr)×List Expr}(h:AQ e=some q):∃p,e=.Dict q.1 q.2 p:=by
 cases e<;>cases h;exact⟨_,rfl⟩
def jH{e l r:Expr}(h:km e=some (l,r)):∃p,e=.Subscript l r p:=by
 cases e<;>cases h;exact⟨_,rfl⟩
def aax{e:Expr}{lo hi:Option Expr}(h:Rc e=some (lo,hi)):∃p,e=.Slice lo hi none p:=by
 cases e with
 |Slice a b st p=>cases st<;>cases h;exact⟨_,rfl⟩
 |_=>cases h
def MP{e:Expr}{q:Expr×List Expr×List Keyword×Pos}(h:GK e=some q):e=.Call q.1 q.2.1 q.2.2.1 q.2.2.2:=by
 cases e<;>cases h;rfl
def aay{e:Expr}{q:Expr×Str×Pos}(h:Rf e=some q):e=.Attribute q.1 q.2.1 q.2.2:=by
 cases e<;>cases h;rfl
def qV{nm:String}{e o:Expr}{as:List Expr}(h:eM nm e=some (o,as)):∃ap cp,e=.Call (.Attribute o (Str.ofString nm) ap) as [] cp∧v9 o=true∧(ap.endLine==cp.line)=true∧as.all fm=true:=by
 let⟨q,h1,h⟩:=jF h;let⟨a,h2,h⟩:=jF h;split at h
 ·rename_i g;cases h;refine⟨a.2.2,q.2.2.2,?_,g.2.2.1,g.2.2.2.1,g.2.2.2.2⟩;rw[MP h1,aay h2,g.1,fK.mp g.2.1]
 ·cases h
def jK{e:Expr}{x:Str}{as:List Expr}(h:eN e=some (x,as)):∃p cp,e=.Call (.Name x p) as [] cp∧as.all fm=true:=by
 let⟨q,h1,h⟩:=jF h;let⟨y,h2,h⟩:=jF h;split at h
 ·rename_i g;cases h;let⟨p,e2⟩:=qH h2;exact⟨p,q.2.2.2,by rw[MP h1,e2,fK.mp g.1],g.2⟩
 ·cases h
def CY{e el it:Expr}{z:Str}{pz ep:Pos}{ifs:List Expr}{aD:Scope}(h:zu e=some (el,z,pz,it,ifs,aD,ep)):e=.ListComp el [⟨.Name z pz,it,ifs,0⟩] aD ep:=by
 unfold zu at h;split at h
 ·cases h;rfl
 ·cases h
abbrev GL:T→Bool
 |.y=>true
 |_=>false
mutual
abbrev kX(c:Cf)(lv:Nat):X→Scope→List Str→Expr→Bool
 |.v i,sc,N,e=>on (sv e) λx=>decide (N[i]?=some x)&&GF sc x&&!(x == "__debug__")&&!(x == "__classdict__")
 |.ki i,_,_,e=>on (eK e) λk=>on (QZ k) λj=>decide (i=j)
 |.ks i,_,_,e=>on (eK e) λk=>on (Q0 k) λj=>decide (i=j)
 |.kb i,_,_,e=>on (eK e) λk=>on (Q5 k) λj=>decide (i=j)
 |.kn,_,_,e=>on (eK e) Q6
 |.ty n,sc,_,e=>on (sv e) λx=>decide (x=Str.ofString n)&&gl sc x&&c.bs.contains n&&tys.contains n
 |.bo o a b,sc,N,e=>on (Q7 e) λq=>decide (q.2.1=o.op)&&kX c lv a sc N q.1&&kX c lv b sc N q.2.2
 |.co o a b,sc,N,e=>on (wa e) λq=>decide (q.2.1=o.op)&&jW q.2.2&&kX c lv a sc N q.1&&kX c lv b sc N q.2.2
 |.uo o a,sc,N,e=>on (AO e) λq=>decide (q.1=o.op)&&kX c lv a sc N q.2
 |.an a b,sc,N,e=>on (u6 .And e) λq=>kX c lv a sc N q.1&&kX c lv b sc N q.2
 |.or a b,sc,N,e=>on (u6 .Or e) λq=>kX c lv a sc N q.1&&kX c lv b sc N q.2
 |.nt a,sc,N,e=>on (AO e) λq=>decide (q.1=.Not)&&kX c lv a sc N q.2
 |.ie t a b,sc,N,e=>on (Ra e) λq=>kT c lv t sc N q.1&&kX c lv a sc N q.2.1&&kX c lv b sc N q.2.2
 |.tu l,sc,N,e=>on (wc e) λes=>kA c lv l sc N es
 |.li l,sc,N,e=>on (Rb e) λes=>kA c lv l sc N es
 |.dK,_,_,e=>on (AQ e) λq=>q.1.isEmpty&&q.2.isEmpty
 |.d1 a b,sc,N,e=>on (AQ e) λq=>on (l1 q.1) λk=>on k λk=>on (l1 q.2) λv=>kX c lv a sc N k&&kX c lv b sc N v
 |.ix a b,sc,N,e=>on (km e) λq=>mR q.2&&kX c lv a sc N q.1&&kX c lv b sc N q.2
 |.dg a b,sc,N,e=>on (km e) λq=>mR q.2&&kX c lv a sc N q.1&&kX c lv b sc N q.2
 |.sl a lo hi,sc,N,e=>on (km e) λq=>on (Rc q.2) λs=>kX c lv a sc N q.1&&kP c lv lo sc N s.1&&kP c lv hi sc N s.2
 |.dT,_,_,e=>on (AQ e) λq=>q.1.isEmpty&&q.2.isEmpty
 |.tg a b,sc,N,e=>on (km e) λq=>mR q.2&&kX c lv a sc N q.1&&kX c lv b sc N q.2
 |.v3 d k x,sc,N,e=>on (eM "get" e) λq=>on (l2 q.2) λa=>kX c lv d sc N q.1&&kX c lv k sc N a.1&&kX c lv x sc N a.2
 |.lr l,sc,N,e=>on (eN e) λq=>on (l1 q.2) λr=>on (eN r) λu=>decide (q.1 = "list")&&gl sc q.1&&c.bs.contains "list" && decide (u.1 = "range")&&gl sc u.1&&(c.bs.contains "range" && decide (u.2.length=1)&&kA c lv l sc N u.2)
 |.ls l,sc,N,e=>on (eN e) λq=>on (l1 q.2) λr=>on (eN r) λu=>decide (q.1 = "len")&&gl sc q.1&&c.bs.contains "len" && decide (u.1 = "set")&&gl sc u.1&&(c.bs.contains "set" && decide (u.2.length=1)&&kA c lv l sc N u.2)
 |.fb f l,sc,N,e=>on (eN e) λq=>decide (q.1=Str.ofString f.nm)&&gl sc q.1&&c.bs.contains f.nm&&!q.2.isEmpty&&kA c lv l sc N q.2
 |.ca f l,sc,N,e=>on (eN e) λq=>on c.fs[f]? λi=>decide (q.1=i.nm)&&gl sc q.1&&!(q.1 == "__debug__")&&decide (i.lv≤lv)&&decide (q.2.length=i.ar)&&decide (i.io=none)&&!q.2.isEmpty&&kA c lv l sc N q.2
 |.cp i ix t e,sc,N,x=>on (zu x) λq=>GH N (ns N q.2.1 ix) sc q.2.2.2.2.2.1 q.2.1 ix&&jW q.2.2.2.1&&kI c lv i false sc N q.2.2.2.1&&((q.2.2.2.2.1.isEmpty&&GL t)||on (l1 q.2.2.2.2.1) λy=>kT c lv t (rl sc q.2.2.2.2.2.1) (ns N q.2.1 ix) y)&&kX c lv e (rl sc q.2.2.2.2.2.1) (ns N q.2.1 ix) q.1
abbrev Rg(c:Cf)(lv:Nat):Pp→Scope→List Str→List (Option Expr)→List Expr→Bool
 |.n,_,_,ks,vs=>ks.isEmpty&&vs.isEmpty
 |.c a b l,sc,N,ks,vs=>on (lH ks) λk=>on k.1 λk1=>on (lH vs) λv=>kX c lv a sc N k1&&kX c lv b sc N v.1&&Rg c lv l sc N k.2 v.2
abbrev kA(c:Cf)(lv:Nat):A→Scope→List Str→List Expr→Bool
 |.n,_,_,es=>es.isEmpty
 |.c a l,sc,N,es=>on (lH es) λq=>fm q.1&&kX c lv a sc N q.1&&kA c lv l sc N q.2
abbrev kT(c:Cf)(lv:Nat):T→Scope→List Str→Expr→Bool
 |.b x,sc,N,e=>v8 e&&kX c lv x sc N e
 |.c o a b,sc,N,e=>on (wa e) λq=>decide (q.2.1=o.op)&&jW q.2.2&&kX c lv a sc N q.1&&kX c lv b sc N q.2.2
 |.d n a b,sc,N,e=>on (wa e) λq=>decide (q.2.1=nin n)&&jW q.2.2&&kX c lv a sc N q.1&&kX c lv b sc N q.2.2
 |.t n a b,sc,N,e=>on (wa e) λq=>decide (q.2.1=nin n)&&jW q.2.2&&kX c lv a sc N q.1&&kX c lv b sc N q.2.2
 |.h o p a b d,sc,N,e=>on (Q8 e) λq=>decide (q.2.1=o.op)&&decide (q.2.2.1=p.op)&&!lastMarks [q.2.1,q.2.2.1] [q.2.2.2.1,q.2.2.2.2]&&kX c lv a sc N q.1&&kX c lv b sc N q.2.2.2.1&&kX c lv d sc N q.2.2.2.2
 |.an a b,sc,N,e=>on (u6 .And e) λq=>kT c lv a sc N q.1&&kT c lv b sc N q.2
 |.or a b,sc,N,e=>on (u6 .Or e) λq=>kT c lv a sc N q.1&&kT c lv b sc N q.2
 |.nt a,sc,N,e=>on (AO e) λq=>decide (q.1=.Not)&&kT c lv a sc N q.2
 |.y,_,_,_=>false
abbrev kP(c:Cf)(lv:Nat):P→Scope→List Str→Option Expr→Bool
 |.n,_,_,o=>o.isNone
 |.s x,sc,N,o=>on o λe=>kX c lv x sc N e
abbrev kI(c:Cf)(lv:Nat):I→Bool→Scope→List Str→Expr→Bool
 |.r1 l,_,sc,N,e=>on (eN e) λq=>decide (q.1 = "range")&&gl sc q.1&&c.bs.contains "range" && decide (q.2.length=1)&&kA c lv l sc N q.2
 |.r2 l,_,sc,N,e=>on (eN e) λq=>decide (q.1 = "range")&&gl sc q.1&&c.bs.contains "range" && decide (q.2.length=2)&&kA c lv l sc N q.2
 |.en l,tg,sc,N,e=>on (eN e) λq=>tg&&decide (q.1 = "enumerate")&&gl sc q.1&&c.bs.contains "enumerate" && decide (q.2.length=1)&&kA c lv l sc N q.2
 |.s x,_,sc,N,e=>kX c lv x sc N e
 |.t x,_,sc,N,e=>kX c lv x sc N e
 |.l x,_,sc,N,e=>kX c lv x sc N e
end
def GN(P:Program)(w:World)(K:PySem.W.Frag)(mg:Str→Option Value)(base:Heap)(i:Fi)(sp:Sp):Prop :=
 ∃f fd ps,lZ P w K mg base mK i.lv f fd ps sp∧mg i.nm=some (.ref f)∧PySem.W.keepIn K (.ref f)=true∧Binds K fd ps []∧∀n,i.df=some n→∃t,Binds K fd ps [.int n t]
def lI(P:Program)(w:World)(K:PySem.W.Frag)(mg:Str→Option Value)(base:Heap)(i:Fi):FT→Prop
 |.p F=>i.io=none∧GN P w K mg base i (p5 K i.ar F)
 |.oo F=>i.io=some []∧GN P w K mg base i (zt K i.ar F)
 |.io l F=>(i.io=some l∧l≠[])∧GN P w K mg base i (uX K i.ar l F)
def GV(K:PySem.W.Frag)(mg:Str→Option Value)(va:List V)(gs:List (Str×Gv)):Prop:=∀(i:Nat) g,gs[i]?=some g→∃x u,va[i]?=some x∧mg g.1=some u∧RelV x u∧JT K (tC x) (jC g.2.d)
structure CE (c:Cf)(lv:Nat)(K:PySem.W.Frag)(t:List FT)(va:List V)(sc:Scope)(N:List Str)(Z:Cx):Prop where
 k:Z.K=K
 sc:Z.env.scope=sc
 n:Z.N=N
 calm:Z.calm=true
 rm:eU lv Z.A
 bl:∀b,b∈c.bs→Z.mg (Str.ofString b)=none
 gv:GV K Z.mg va c.gs
 fs:∀(i:Nat) fi,c.fs[i]?=some fi→∃F,t[i]?=some F∧lI Z.prog Z.w Z.K Z.mg Z.base fi F
section
variable {c:Cf}{lv:Nat}{K:PySem.W.Frag}{t:List FT}{va:List V}{sc:Scope}{N:List Str}{Z:Cx}
theorem CE.cy(E:CE c lv K t va sc N Z){N':List Str}{aD:Scope}{C:Addr}{s₂:Shared}{H₂:Hp}{fp:List Addr}{pn:List (Addr×Obj)}:CE c lv K t va (rl sc aD) N' (Z.cy N' aD C s₂ H₂ fp pn) :=
 ⟨E.k,by rw[←E.sc];rfl,rfl,E.calm,E.rm,E.bl,E.gv,E.fs⟩
theorem CE.gl(E:CE c lv K t va sc N Z){x:Str}(h:gl sc x=true):Gl Z x:=by
 have:=abT h;rw[←E.sc]at this;exact this
theorem CE.mg(E:CE c lv K t va sc N Z){b:String}(h:c.bs.contains b=true):Z.mg (Str.ofString b)=none:=E.bl b (by simpa using h)
theorem iY:∀{es:List Expr}{env:Env},es.all fm=true→∀pos:Pos,((backTo pos (starEach es env)).any λx=>x.1)=false
 |[],_,_,_=>rfl
 |e::es,env,h,pos=>by
  rw[pM,lq]at h;rw[cO h.1];show(false||(backTo pos (starEach es env)).any λx=>x.1)=false;rw[iY h.2,zM]
def aaz{n:String}(h:tys.contains n=true):bootBuiltins (Str.ofString n)=some (.type n)∧Str.ofString n ≠ "__name__" ∧ (Str.ofString n==("__debug__" : Str))=false:=by
 have h:n∈tys:=by simpa using h
 simp only[tys,List.mem_cons,List.not_mem_nil,or_false]at h;rcases h with rfl|rfl|rfl|rfl|rfl|rfl
 ·exact⟨PyProof.Rows.Boot.«bool»,by decide,by decide⟩
 ·exact⟨PyProof.Rows.Boot.«int»,by decide,by decide⟩
 ·exact⟨PyProof.Rows.Boot.«str»,by decide,by decide⟩
 ·exact⟨PyProof.Rows.Boot.«tuple»,by decide,by decide⟩
 ·exact⟨PyProof.Rows.Boot.«list»,by decide,by decide⟩
 ·exact⟨PyProof.Rows.Boot.«dict»,by decide,by decide⟩
def Fb.ok:∀f:Fb,∃r,(∀{sc:Scope}{N:List Str} (Z:Cx),CE c lv K t va sc N Z→∀{p pos:Pos}{e:Expr}{es:List Expr}{ta:TA},C.gl sc (Str.ofString f.nm)=true→c.bs.contains f.nm=true→fm e=true→es.all fm=true→PA Z (e::es) ta→PE Z (.Call (.Name (Str.ofString f.nm) p) (e::es) [] pos) (Ag r ta))∧lE K r f.g
 |.int=>⟨_,λ_ E _ _ _ _ _ hg hb h1 h2 ha=>@Ce _ _ _ _ _ _ _ _ _ Ut (E.gl hg) (E.mg hb) PyProof.Rows.Boot.«int» ha (by decide) (by decide) (cO h1) (iY h2 _),W7⟩
 |.list=>⟨_,λ_ E _ _ _ _ _ hg hb h1 h2 ha=>@Ce _ _ _ _ _ _ _ _ _ (Ti E.k) (E.gl hg) (E.mg hb) PyProof.Rows.Boot.«list» ha (by decide) (by decide) (cO h1) (iY h2 _),Vr⟩
 |.len=>⟨_,λ_ E _ _ _ _ _ hg hb h1 h2 ha=>@tP _ _ _ _ _ _ _ _ _ (UB E.k) (E.gl hg) (E.mg hb) PyProof.Rows.Boot.«len» ha (by decide) (by decide) (cO h1) (iY h2 _),W6⟩
 |.oa=>⟨_,λ_ E _ _ _ _ _ hg hb h1 h2 ha=>@tP _ _ _ _ _ _ _ _ _ (UI E.k) (E.gl hg) (E.mg hb) PyProof.Rows.Boot.«isinstance» ha (by decide) (by decide) (cO h1) (iY h2 _),Xu⟩
 |.max=>⟨_,λ_ E _ _ _ _ _ hg hb h1 h2 ha=>@tP _ _ _ _ _ _ _ _ _ (Us E.calm) (E.gl hg) (E.mg hb) PyProof.Rows.Boot.«max» ha (by decide) (by decide) (cO h1) (iY h2 _),W8⟩
 |.yV=>⟨_,λ_ E _ _ _ _ _ hg hb h1 h2 ha=>@Ce _ _ _ _ _ _ _ _ _ (Uc E.k E.calm) (E.gl hg) (E.mg hb) PyProof.Rows.Boot.«list» ha (by decide) (by decide) (cO h1) (iY h2 _),UN⟩
 |.sum=>⟨_,λ_ E _ _ _ _ _ hg hb h1 h2 ha=>@tP _ _ _ _ _ _ _ _ _ (UO E.k E.calm) (E.gl hg) (E.mg hb) PyProof.Rows.Boot.«sum» ha (by decide) (by decide) (cO h1) (iY h2 _),XS⟩
 |.uL=>⟨_,λ_ E _ _ _ _ _ hg hb h1 h2 ha=>@tP _ _ _ _ _ _ _ _ _ (Ue E.k E.calm) (E.gl hg) (E.mg hb) PyProof.Rows.Boot.«sorted» ha (by decide) (by decide) (cO h1) (iY h2 _),UX⟩
def aaA{a:Expr}{env:Env}{di:Pos}(h:fm a=true):(((List.all (backTo di (starEach [a] env)) λx=>!x.1)&&List.all (backToKw di (keywordEach [] env)) λx=>Option.isSome x.1)&&decide ((List.length [a]+List.length ([]:List Keyword)+if List.isEmpty ([]:List Keyword)=true then 0 else 1)<30))=true:=by
 rw[cO h];rfl
def aaB{env:Env}{cp:Pos}:((backTo cp (starEach [] env)).any λx=>x.1)=false:=rfl
theorem zv:∀{l:A}{sc:Scope}{N:List Str}{es:List Expr},kA c lv l sc N es=true→∀(e:Ev) (ay:List (M×D)),eA t l e=some ay→ay.length=es.length
 |.n,_,_,es,h=>by cases fK.mp h;exact Xl
 |.c a l,sc,N,es,h=>by
  have hh:=aE h;clear h;let⟨⟨e,r⟩,q,h⟩:=hh;cases jG q;have h:(fm e&&kX c lv a sc N e&&kA c lv l sc N r)=true:=h;rw[lq]at h;exact VF (zv h.2)
end
section
variable {c:Cf}{lv:Nat}{K:PySem.W.Frag}{t:List FT}{va:List V}
def dw{a b:Bool}(h:(a&&b)=true):a=true∧b=true:=by simpa using h
def gf{a b d:Bool}(h:(a&&b&&d)=true):a=true∧b=true∧d=true:=by simpa[and_assoc]using h
def gi{a b d e:Bool}(h:(a&&b&&d&&e)=true):a=true∧b=true∧d=true∧e=true:=by simpa[and_assoc]using h
def qd{a b d e f:Bool}(h:(a&&b&&d&&e&&f)=true):a=true∧b=true∧d=true∧e=true∧f=true:=by simpa[and_assoc]using h
def sx{a b d e f g:Bool}(h:(a&&b&&d&&e&&f&&g)=true):a=true∧b=true∧d=true∧e=true∧f=true∧g=true:=by simpa[and_assoc]using h
def GO{a b d e f g i j:Bool}(h:(a&&b&&d&&e&&f&&g&&i&&j)=true):a=true∧b=true∧d=true∧e=true∧f=true∧g=true∧i=true∧j=true:=by simpa[and_assoc]using h
def nb{a:Bool}(h:(!a)=true):a=false:=by simpa using h
def N4{Z:Cx}{op:BoolOp}{vs:List Expr}{pos:Pos}{tt:TT}(h:PT Z (.BoolOp op vs pos) tt):PW Z (.BoolOp op vs pos) tt:=λ_=>h
def all1{a:Expr}{l:List Expr}(h:(a::l).all fm=true):fm a=true∧l.all fm=true:=by
 rw[pM,lq]at h;exact h
def yc{α:Type}{l:List α}(h:(!l.isEmpty)=true):∃a r,l=a::r:=by
 cases l with
 |nil=>cases h
 |cons a r=>exact⟨a,r,rfl⟩
def zx{α:Type}{l:List α}(h:l.length=1):∃a,l=[a]:=List.length_eq_one_iff.mp h
def adB{α:Type}{l:List α}(h:l.length=2):∃a b,l=[a,b]:=by
 match l,h with
 |[a,b],_=>exact⟨a,b,rfl⟩
mutual
theorem sX:∀(x:X) {sc:Scope}{N:List Str}{e:Expr},kX c lv x sc N e=true→∃te,(∀Z,CE c lv K t va sc N Z→PE Z e te)∧JT K te (eX t x)
 |.v i,sc,N,e,h=>by
  have hh:=aE h;clear h;let⟨x,q,h⟩:=hh;let⟨p,rfl⟩:=qH q;let⟨h1,h2,h3,h4⟩:=gi h;have h1:=bq h1;have h2:=ML h2;exact⟨_,λZ E=>@LX _ _ _ _ (E.n▸h1) (E.sc▸h2) (nb h3) (nb h4),Zn⟩
 |.ki i,sc,N,e,h=>by
  have hh:=aE h;clear h;let⟨k,q,h⟩:=hh;let⟨j,p,rfl⟩:=yW q;have hh:=aE h;clear h;let⟨y,q,h⟩:=hh;cases abU q;cases bq h;exact⟨_,λZ E=>Yx,rg rfl⟩
 |.ks i,sc,N,e,h=>by
  have hh:=aE h;clear h;let⟨k,q,h⟩:=hh;let⟨j,p,rfl⟩:=yW q;have hh:=aE h;clear h;let⟨y,q,h⟩:=hh;cases abV q;cases bq h;exact⟨_,λZ E=>Yz,rg rfl⟩
 |.kb i,sc,N,e,h=>by
  have hh:=aE h;clear h;let⟨k,q,h⟩:=hh;let⟨j,p,rfl⟩:=yW q;have hh:=aE h;clear h;let⟨y,q,h⟩:=hh;cases abW q;cases bq h;exact⟨_,λZ E=>aa8,rg rfl⟩
 |.kn,sc,N,e,h=>by
  have hh:=aE h;clear h;let⟨k,q,h⟩:=hh;let⟨j,p,rfl⟩:=yW q;cases abX h;exact⟨_,λZ E=>Yy,rg rfl⟩
 |.ty n,sc,N,e,h=>by
  have hh:=aE h;clear h;let⟨x,q,h⟩:=hh;let⟨p,rfl⟩:=qH q;let⟨h1,h2,h3,h4⟩:=gi h;cases bq h1;let⟨q1,q2,q3⟩:=aaz h4;exact⟨_,λZ E=>@Wz _ _ (.ty n) _ _ (E.gl h2) (E.mg h3) q1 rfl q2 q3,rg rfl⟩
 |.bo o a b,sc,N,e,h=>by
  have hh:=aE h;clear h;let⟨⟨l,op,r⟩,q,h⟩:=hh;let⟨p,rfl⟩:=aas q;let⟨h1,h2,h3⟩:=gf h;cases bq h1;let⟨ta,pa,ja⟩:=sX a h2;let⟨tb,pb,jb⟩:=sX b h3;let⟨r,o1,o2⟩:=o.ok (K:=K);exact⟨_,λZ E=>abe (o1 Z E.k) (pa Z E) (pb Z E),yL o2 ja jb⟩
 |.co o a b,sc,N,e,h=>by
  have hh:=aE h;clear h;let⟨⟨l,op,r⟩,q,h⟩:=hh;let⟨p,rfl⟩:=yt q;let⟨h1,h0,h2,h3⟩:=gi h;cases bq h1;let⟨ta,pa,ja⟩:=sX a h2;let⟨tb,pb,jb⟩:=sX b h3;let⟨r,o1,o2⟩:=o.ok (K:=K);exact⟨_,λZ E=>WM (o1 Z E.k E.rm.units) (pa Z E) (pb Z E) (qx h0),yL o2 ja jb⟩
 |.uo o a,sc,N,e,h=>by
  have hh:=aE h;clear h;let⟨⟨op,r⟩,q,h⟩:=hh;let⟨p,rfl⟩:=Du q;let⟨h1,h2⟩:=dw h;cases bq h1;let⟨ta,pa,ja⟩:=sX a h2;let⟨r,o1,o2⟩:=o.ok (K:=K);exact⟨_,λZ E=>abf (o1 Z) (pa Z E),abt o2 ja⟩
 |.an a b,sc,N,e,h=>by
  have hh:=aE h;clear h;let⟨⟨x,y⟩,q,h⟩:=hh;let⟨m,rest,pos,rfl,w⟩:=yb q;let⟨h1,h2⟩:=dw h;let⟨ta,pa,ja⟩:=sX a h1;let⟨tb,pb,jb⟩:=sX b h2;refine⟨_,λZ E=>@YF _ _ _ _ tb _ _ (pa Z E) ?_,Zz ja jb⟩;rcases w with⟨rfl,rfl⟩|rfl
  ·exact @LY _ _ _ _ _ (pb Z E)
  ·exact pb Z E
 |.or a b,sc,N,e,h=>by
  have hh:=aE h;clear h;let⟨⟨x,y⟩,q,h⟩:=hh;let⟨m,rest,pos,rfl,w⟩:=yb q;let⟨h1,h2⟩:=dw h;let⟨ta,pa,ja⟩:=sX a h1;let⟨tb,pb,jb⟩:=sX b h2;refine⟨_,λZ E=>@abb _ _ _ _ tb _ _ (pa Z E) ?_,abA ja jb⟩;rcases w with⟨rfl,rfl⟩|rfl
  ·exact @LY _ _ _ _ _ (pb Z E)
  ·exact pb Z E
 |.nt a,sc,N,e,h=>by
  have hh:=aE h;clear h;let⟨⟨op,r⟩,q,h⟩:=hh;let⟨p,rfl⟩:=Du q;let⟨h1,h2⟩:=dw h;cases bq h1;let⟨ta,pa,ja⟩:=sX a h2;exact⟨_,λZ E=>YG (pa Z E),ZC ja⟩
 |.ie t' a b,sc,N,e,h=>by
  have hh:=aE h;clear h;let⟨⟨x,l,r⟩,q,h⟩:=hh;let⟨p,rfl⟩:=aav q;let⟨h1,h2,h3⟩:=gf h;let⟨tq,pq,jq⟩:=sT t' h1;let⟨ta,pa,ja⟩:=sX a h2;let⟨tb,pb,jb⟩:=sX b h3;exact⟨_,λZ E=>Va (pq Z E) (pa Z E) (pb Z E),ZE jq ja jb⟩
 |.tu l,sc,N,e,h=>by
  have hh:=aE h;clear h;let⟨es,q,h⟩:=hh;let⟨k,p,rfl⟩:=yu q;let⟨ta,pa,ja⟩:=sA l h;exact⟨_,λZ E=>L1 (pa Z E),ZG ja⟩
 |.li l,sc,N,e,h=>by
  have hh:=aE h;clear h;let⟨es,q,h⟩:=hh;let⟨p,rfl⟩:=aaw q;let⟨ta,pa,ja⟩:=sA l h;exact⟨_,λZ E=>Dk (pa Z E),ZF ja⟩
 |.dK,sc,N,e,h=>by
  have hh:=aE h;clear h;let⟨⟨ks,vs⟩,q,h⟩:=hh;let⟨p,rfl⟩:=Dv q;let⟨h1,h2⟩:=dw h;cases fK.mp h1;cases fK.mp h2;exact⟨_,λ_ _=>Vk,VQ⟩
 |.d1 a b,sc,N,e,h=>by
  have hh:=aE h;clear h;let⟨⟨ks,vs⟩,q,h⟩:=hh;let⟨p,rfl⟩:=Dv q;have hh:=aE h;clear h;let⟨k,q1,h⟩:=hh;cases iL q1;have hh:=aE h;clear h;let⟨k',rfl,h⟩:=hh;have hh:=aE h;clear h;let⟨v,q2,h⟩:=hh;cases iL q2;let⟨h1,h2⟩:=dw h;let⟨ta,pa,ja⟩:=sX a h1;let⟨tb,pb,jb⟩:=sX b h2;exact⟨_,λZ E=>WZ (JC (pa Z E) (pb Z E) Kx) rfl rfl (List.cons_ne_nil _ _) (by show 1≤15;decide),XE ja jb⟩
 |.ix a b,sc,N,e,h=>by
  have hh:=aE h;clear h;let⟨⟨l,r⟩,q,h⟩:=hh;let⟨p,rfl⟩:=jH q;let⟨h1,h2,h3⟩:=gf h;let⟨ta,pa,ja⟩:=sX a h2;let⟨tb,pb,jb⟩:=sX b h3;exact⟨_,λZ E=>yK (x4 E.k) (pa Z E) (pb Z E) (qU h1),yL abz ja jb⟩
 |.dg a b,sc,N,e,h=>by
  have hh:=aE h;clear h;let⟨⟨l,r⟩,q,h⟩:=hh;let⟨p,rfl⟩:=jH q;let⟨h1,h2,h3⟩:=gf h;let⟨ta,pa,ja⟩:=sX a h2;let⟨tb,pb,jb⟩:=sX b h3;exact⟨_,λZ E=>Kw (kW E.rm) (pa Z E) (pb Z E) (Le h1),XC ja jb⟩
 |.sl a lo hi,sc,N,e,h=>by
  have hh:=aE h;clear h;let⟨⟨l,r⟩,q,h⟩:=hh;let⟨p,rfl⟩:=jH q;have hh:=aE h;clear h;let⟨⟨lo',wd⟩,q,h⟩:=hh;let⟨p',rfl⟩:=aax q;let⟨h1,h2,h3⟩:=gf h;let⟨ta,pa,ja⟩:=sX a h1;let⟨tl,pl,jl⟩:=sP lo h2;let⟨tu,pu,ju⟩:=sP hi h3;exact⟨_,λZ E=>Vi (adj E.k) (pa Z E) (pl Z E) (pu Z E),abC abE ja jl ju⟩
 |.dT,sc,N,e,h=>by
  have hh:=aE h;clear h;let⟨⟨ks,vs⟩,q,h⟩:=hh;let⟨p,rfl⟩:=Dv q;let⟨h1,h2⟩:=dw h;cases fK.mp h1;cases fK.mp h2;exact⟨_,λ_ _=>Vl,XO⟩
 |.tg a b,sc,N,e,h=>by
  have hh:=aE h;clear h;let⟨⟨l,r⟩,q,h⟩:=hh;let⟨p,rfl⟩:=jH q;let⟨h1,h2,h3⟩:=gf h;let⟨ta,pa,ja⟩:=sX a h2;let⟨tb,pb,jb⟩:=sX b h3;exact⟨_,λZ E=>Kw (kW E.rm) (pa Z E) (pb Z E) (Le h1),XQ ja jb⟩
 |.v3 d k x,sc,N,e,h=>by
  have hh:=aE h;clear h;let⟨⟨o,as⟩,q,h⟩:=hh;let⟨ap,cp,rfl,h2,h3,h4⟩:=qV q;have hh:=aE h;clear h;let⟨a,q1,h⟩:=hh;cases DX q1;let⟨h4,mS⟩:=all1 h4;have mS:=(all1 mS).1;let⟨h5,h6,h7⟩:=gf h;let⟨td,pd,jd⟩:=sX d h5;let⟨tk,pk,jk⟩:=sX k h6;let⟨tx,px,jx⟩:=sX x h7;exact⟨_,λZ E=>VY (kW E.rm) (pd Z E) (pk Z E) (px Z E) ⟨Dr h2,by rw[cO h4,cO mS];rfl,h3,by rw[cO h4,cO mS];rfl⟩,VZ jd jk jx⟩
 |.lr l,sc,N,e,h=>by
  have hh:=aE h;clear h;let⟨⟨x,as⟩,q,h⟩:=hh;let⟨p,cp,rfl,h4⟩:=jK q;have hh:=aE h;clear h;let⟨r,q1,h⟩:=hh;cases iL q1;have hh:=aE h;clear h;let⟨⟨y,bs⟩,q,h⟩:=hh;let⟨p',cp',rfl,h5⟩:=jK q;let⟨g1,g2,g3,g4,g5,g6⟩:=sx h;let⟨g7,g8,g9⟩:=gf g6;cases bq g1;cases bq g4;let⟨a,rfl⟩:=zx (bq g8);let⟨ta,pa,ja⟩:=sA l g9;exact⟨_,λZ E=>@abK _ _ _ _ _ _ _ E.calm (E.gl g2) (E.mg g3) (E.gl g5) (E.mg g7) (pa Z E) (cO (all1 h5).1),abL ja⟩
 |.ls l,sc,N,e,h=>by
  have hh:=aE h;clear h;let⟨⟨x,as⟩,q,h⟩:=hh;let⟨p,cp,rfl,h4⟩:=jK q;have hh:=aE h;clear h;let⟨r,q1,h⟩:=hh;cases iL q1;have hh:=aE h;clear h;let⟨⟨y,bs⟩,q,h⟩:=hh;let⟨p',cp',rfl,h5⟩:=jK q;let⟨g1,g2,g3,g4,g5,g6⟩:=sx h;let⟨g7,g8,g9⟩:=gf g6;cases bq g1;cases bq g4;let⟨a,rfl⟩:=zx (bq g8);let⟨ta,pa,ja⟩:=sA l g9;exact⟨_,λZ E=>@abR _ _ _ _ _ _ _ _ E.k E.calm (E.gl g2) (E.mg g3) (E.gl g5) (E.mg g7) (pa Z E) (cO (all1 h5).1),abS ja⟩
 |.fb f l,sc,N,e,h=>by
  have hh:=aE h;clear h;let⟨⟨x,as⟩,q,h⟩:=hh;let⟨p,cp,rfl,h4⟩:=jK q;let⟨h1,h2,h3,h0,h6⟩:=qd h;cases bq h1;let⟨a,r,rfl⟩:=yc h0;let⟨h4,h5⟩:=all1 h4;let⟨ta,pa,ja⟩:=sA l h6;let⟨r,q1,q2⟩:=Fb.ok (c:=c) (lv:=lv) (t:=t) (va:=va) (K:=K) f;exact⟨_,λZ E=>q1 Z E h2 h3 h4 h5 (pa Z E),abB q2 ja⟩
 |.ca f l,sc,N,e,h=>by
  have hh:=aE h;clear h;let⟨⟨x,as⟩,q,h⟩:=hh;let⟨p,cp,rfl,wg⟩:=jK q;have hh:=aE h;clear h;let⟨i,hf,h⟩:=hh;let⟨h1,h2,h3,h4,h5,lJ,h0,h8⟩:=GO h;let⟨a,r,rfl⟩:=yc h0;let⟨h6,h7⟩:=all1 wg;have h1:=bq h1;let⟨ta,pa,ja⟩:=sA l h8;have hl:=zv (t:=t) h8;rw[show(a::r).length=i.ar from bq h5]at hl;refine⟨m3 (p5 K i.ar (FT.f t[f]?)) [] E0 ta,λZ E=>?_,Xh ja hl⟩;let⟨F,hF,q⟩:=E.fs f i hf;cases F with
  |io l F=>rw[lI,bq lJ]at q;cases q.1.1
  |oo F=>rw[lI,bq lJ]at q;cases q.1
  |p F =>
   let⟨_,a,fd,ps,k1,k2,k3,k4⟩:=q;rw[←h1]at k2;rw[hF,←E.k];exact @CF _ _ _ _ _ _ _ _ _ _ _ _ _ _ _ _ k1 (E.rm.mono (bq h4)) (E.gl h2) k2 k3 k4.1 .nil DK (pa Z E) (nb h3) (cO h6) (iY h7 _)
 |.cp i ix t' d,sc,N,e,h=>by
  have hh:=aE h;clear h;let⟨⟨el,x,px,it,ifs,aD,ep⟩,q,h⟩:=hh;cases CY q;let⟨h1,h2,h3,h4,h5⟩:=qd h;have h1:=Dt h1;let⟨ti,pi,ji⟩:=sI i h3;let⟨te,pe,je⟩:=sX d h5;have h4:(ifs.isEmpty=true∧GL t'=true)∨(on (l1 ifs) λy=>kT c lv t' (rl sc aD) (ns N x ix) y)=true:=by simpa using h4
  rcases h4 with⟨w1,w2⟩|h4
  ·cases fK.mp w1;cases t'<;>first|exact absurd w2 bw|skip
   exact⟨_,λZ E=>@xZ _ (ns N x ix) _ _ ix _ _ _ _ _ _ _ _ (by rw[E.n,E.sc];exact h1) E.calm (pi Z (.Name x px) E (λz=>absurd z bw)) (λC s₂ H₂ fp pn=>xY) (λC s₂ H₂ fp pn=>pe _ E.cy) (mU h2),x6 ji KQ je⟩
  ·have hh:=aE h4;clear h4;let⟨y,q,h4⟩:=hh;cases iL q;let⟨tq,pq,jq⟩:=sT t' h4;exact⟨_,λZ E=>@xZ _ (ns N x ix) _ _ ix _ _ _ _ _ _ _ _ (by rw[E.n,E.sc];exact h1) E.calm (pi Z (.Name x px) E (λz=>absurd z bw)) (λC s₂ H₂ fp pn=>Kz (pq _ E.cy)) (λC s₂ H₂ fp pn=>pe _ E.cy) (mU h2),x6 ji jq je⟩
theorem sPp:∀(l:Pp) {sc:Scope}{N:List Str}{ks:List (Option Expr)}{vs:List Expr},Rg c lv l sc N ks vs=true→∃ts,(∀Z pos,CE c lv K t va sc N Z→vE Z pos ks vs ts∧ks.all (·.isSome)=true∧ks.length=vs.length)∧Ay K ts (QY t l)
 |.n,_,_,ks,vs,h=>by
  let⟨h1,h2⟩:=dw h;cases fK.mp h1;cases fK.mp h2;exact⟨_,λ_ _ _=>⟨Kx,rfl,rfl⟩,.nil⟩
 |.c a b l,sc,N,ks,vs,h=>by
  have hh:=aE h;clear h;let⟨⟨k,ks⟩,q,h⟩:=hh;cases jG q;have hh:=aE h;clear h;let⟨k1,q,h⟩:=hh;have q:k=some k1:=q;subst q;have hh:=aE h;clear h;let⟨⟨v,vs⟩,q,h⟩:=hh;cases jG q;let⟨h1,h2,h3⟩:=gf h;let⟨ta,pa,ja⟩:=sX a h1;let⟨tb,pb,jb⟩:=sX b h2;let⟨tl,pl,jl⟩:=sPp l h3;exact⟨_,λZ pos E=>(let ⟨x,y,z⟩:=pl Z pos E;⟨JC (pa Z E) (pb Z E) x,y,by rw[f6,f6,z]⟩),.cons ja jb jl⟩
theorem sA:∀(l:A) {sc:Scope}{N:List Str}{es:List Expr},kA c lv l sc N es=true→∃ta,(∀Z,CE c lv K t va sc N Z→PA Z es ta)∧iB K ta (eA t l)
 |.n,_,_,es,h=>by
  cases fK.mp h;exact⟨_,λ_ _=>ug,W5⟩
 |.c a l,sc,N,es,h=>by
  have hh:=aE h;clear h;let⟨⟨e,r⟩,q,h⟩:=hh;cases jG q;let⟨h0,h1,h2⟩:=gf h;let⟨ta,pa,ja⟩:=sX a h1;let⟨tl,pl,jl⟩:=sA l h2;exact⟨_,λZ E=>@xX _ _ _ _ _ (pa Z E) (pl Z E) (cO h0),Vq ja jl⟩
theorem sT:∀(q:T) {sc:Scope}{N:List Str}{e:Expr},kT c lv q sc N e=true→∃tt,(∀Z,CE c lv K t va sc N Z→PT Z e tt)∧fO K tt (eT t q)
 |.b x,sc,N,e,h=>by
  let⟨h1,h2⟩:=dw h;let⟨ta,pa,ja⟩:=sX x h2;exact⟨_,λZ E=>@UC _ K _ _ E.k (pa Z E) (aar h1),UD ja⟩
 |.c o a b,sc,N,e,h=>by
  have hh:=aE h;clear h;let⟨⟨l,op,r⟩,q,h⟩:=hh;let⟨p,rfl⟩:=yt q;let⟨h1,h0,h2,h3⟩:=gi h;cases bq h1;let⟨ta,pa,ja⟩:=sX a h2;let⟨tb,pb,jb⟩:=sX b h3;let⟨r,o1,o2⟩:=o.ok (K:=K);exact⟨_,λZ E=>WN (o1 Z E.k E.rm.units) (pa Z E) (pb Z E) (qx h0),JH (yL o2 ja jb)⟩
 |.d n a b,sc,N,e,h=>by
  have hh:=aE h;clear h;let⟨⟨l,op,r⟩,q,h⟩:=hh;let⟨p,rfl⟩:=yt q;let⟨h1,h0,h2,h3⟩:=gi h;cases bq h1;let⟨ta,pa,ja⟩:=sX a h2;let⟨tb,pb,jb⟩:=sX b h3;cases n with
  |false=>exact⟨_,λZ E=>@yj _ _ _ _ _ _ (L6 (kW E.rm) (pa Z E) (pb Z E)) (qx h0),uG (aag ja jb)⟩
  |true=>exact⟨_,λZ E=>@yj _ _ _ _ _ _ (IZ (kW E.rm) (pa Z E) (pb Z E)) (qx h0),uG (UM ja jb)⟩
 |.t n a b,sc,N,e,h=>by
  have hh:=aE h;clear h;let⟨⟨l,op,r⟩,q,h⟩:=hh;let⟨p,rfl⟩:=yt q;let⟨h1,h0,h2,h3⟩:=gi h;cases bq h1;let⟨ta,pa,ja⟩:=sX a h2;let⟨tb,pb,jb⟩:=sX b h3;cases n with
  |false=>exact⟨_,λZ E=>@yj _ _ _ _ _ _ (L6 (kW E.rm) (pa Z E) (pb Z E)) (qx h0),uG (aak ja jb)⟩
  |true=>exact⟨_,λZ E=>@yj _ _ _ _ _ _ (IZ (kW E.rm) (pa Z E) (pb Z E)) (qx h0),uG (UR ja jb)⟩
 |.h o p a b d,sc,N,e,h=>by
  have hh:=aE h;clear h;let⟨⟨l,op,op',m,r⟩,q,h⟩:=hh;let⟨p',rfl⟩:=aat q;let⟨h1,h2,h3,h4,h5,h6⟩:=sx h;cases bq h1;cases bq h2;let⟨ta,pa,ja⟩:=sX a h4;let⟨tb,pb,jb⟩:=sX b h5;let⟨td,pd,jd⟩:=sX d h6;let⟨r,o1,o2⟩:=o.ok (K:=K);let⟨r',o1',o2'⟩:=p.ok (K:=K);exact⟨_,λZ E=>@Ve _ _ _ _ _ _ _ _ _ _ _ _ (o1 Z E.k E.rm.units) (o1' Z E.k E.rm.units) (pa Z E) (pb Z E) (pd Z E) (nb h3),JH (VB o2 o2' ja jb jd)⟩
 |.an a b,sc,N,e,h=>by
  have hh:=aE h;clear h;let⟨⟨x,y⟩,q,h⟩:=hh;let⟨m,rest,pos,rfl,w⟩:=yb q;let⟨h1,h2⟩:=dw h;let⟨ta,pa,ja⟩:=sT a h1;let⟨tb,pb,jb⟩:=sT b h2;refine⟨_,λZ E=>@PW.pt _ _ _ (@YC _ _ _ _ _ tb _ (pa Z E) ?_),W3 ja jb⟩;rcases w with⟨rfl,rfl⟩|rfl
  ·exact @WB _ _ _ _ (pb Z E)
  ·exact N4 (pb Z E)
 |.or a b,sc,N,e,h=>by
  have hh:=aE h;clear h;let⟨⟨x,y⟩,q,h⟩:=hh;let⟨m,rest,pos,rfl,w⟩:=yb q;let⟨h1,h2⟩:=dw h;let⟨ta,pa,ja⟩:=sT a h1;let⟨tb,pb,jb⟩:=sT b h2;refine⟨_,λZ E=>@PW.pt _ _ _ (@aa9 _ _ _ _ _ tb _ (pa Z E) ?_),ZD ja jb⟩;rcases w with⟨rfl,rfl⟩|rfl
  ·exact @YB _ _ _ _ (pb Z E)
  ·exact N4 (pb Z E)
 |.nt a,sc,N,e,h=>by
  have hh:=aE h;clear h;let⟨⟨op,r⟩,q,h⟩:=hh;let⟨p,rfl⟩:=Du q;let⟨h1,h2⟩:=dw h;cases bq h1;let⟨ta,pa,ja⟩:=sT a h2;exact⟨_,λZ E=>YD (pa Z E),W4 ja⟩
 |.y,sc,N,e,h=>absurd h bw
theorem sP:∀(l:P) {sc:Scope}{N:List Str}{e:Option Expr},kP c lv l sc N e=true→∃ta,(∀Z,CE c lv K t va sc N Z→PO Z e ta)∧vO K ta (eP t l)
 |.n,_,_,o,h=>by
  cases o with
  |some _=>cases h
  |none=>exact⟨_,λ_ _=>WQ,Vs⟩
 |.s x,sc,N,o,h=>by
  have hh:=aE h;clear h;let⟨e,rfl,h⟩:=hh;let⟨ta,pa,ja⟩:=sX x h;exact⟨_,λZ E=>WR (pa Z E),Vt ja⟩
theorem sI:∀(i:I) {tg:Bool}{sc:Scope}{N:List Str}{e:Expr},kI c lv i tg sc N e=true→∃ti,(∀Z g,CE c lv K t va sc N Z→(tg=true→DW g=true)→PI Z g e ti)∧JI K ti (eI t i)
 |.r1 l,tg,sc,N,e,h=>by
  have hh:=aE h;clear h;let⟨⟨x,as⟩,q,h⟩:=hh;let⟨p,cp,rfl,h4⟩:=jK q;let⟨h1,h2,h3,h0,h5⟩:=qd h;cases bq h1;let⟨a,rfl⟩:=zx (bq h0);let⟨ta,pa,ja⟩:=sA l h5;exact⟨_,λZ g E _=>@Up _ _ _ _ _ _ (E.gl h2) (E.mg h3) (pa Z E) (cO (all1 h4).1),Xd ja⟩
 |.r2 l,tg,sc,N,e,h=>by
  have hh:=aE h;clear h;let⟨⟨x,as⟩,q,h⟩:=hh;let⟨p,cp,rfl,h4⟩:=jK q;let⟨h1,h2,h3,h0,h5⟩:=qd h;cases bq h1;let⟨a,b,rfl⟩:=adB (bq h0);let⟨h4,mS⟩:=all1 h4;have mS:=(all1 mS).1;let⟨ta,pa,ja⟩:=sA l h5;exact⟨_,λZ g E _=>@Uq _ _ _ _ _ _ _ (E.gl h2) (E.mg h3) (pa Z E) (by rw[cO h4,cO mS];rfl) (cO mS),Xe ja⟩
 |.en l,tg,sc,N,e,h=>by
  have hh:=aE h;clear h;let⟨⟨x,as⟩,q,h⟩:=hh;let⟨p,cp,rfl,h4⟩:=jK q;let⟨h0,h1,h2,h3,h6,h5⟩:=sx h;cases bq h1;let⟨a,rfl⟩:=zx (bq h6);let⟨ta,pa,ja⟩:=sA l h5;refine⟨_,λZ g E hg=>?_,Xw ja⟩;have hg:=hg h0;cases g<;>first|exact absurd hg bw|skip
  exact @VJ _ K _ _ _ _ _ _ _ E.k (E.gl h2) (E.mg h3) (pa Z E) (cO (all1 h4).1)
 |.s x,tg,sc,N,e,h=>by
  let⟨ta,pa,ja⟩:=sX x (e:=e) h;exact⟨_,λZ g E _=>Zj (pa Z E),aae ja⟩
 |.t x,tg,sc,N,e,h=>by
  let⟨ta,pa,ja⟩:=sX x (e:=e) h;exact⟨_,λZ g E _=>Xz E.k (pa Z E),ZP ja⟩
 |.l x,tg,sc,N,e,h=>by
  let⟨ta,pa,ja⟩:=sX x (e:=e) h;exact⟨_,λZ g E _=>Vn E.k (pa Z E),Xc ja⟩
end
end
abbrev loc(sc:Scope)(x:Str):Bool:=match sc.names.lookup x with
 |some .local=>true
 |some .cell=>true
 |_=>false
def MQ{sc:Scope}{x:Str}(h:loc sc x=true):L2.Loc sc x:=by
 unfold loc at h;unfold L2.Loc;split at h<;>first|exact absurd h bw|simp_all
mutual
abbrev kG:G→Scope→List Str→Expr→Bool
 |.n i,sc,N,e=>on (sv e) λx=>decide (N[i]?=some x)&&loc sc x
 |.t k l,sc,N,e=>on (wc e) λes=>decide (es.length=k)&&es.all fm&&AU l sc N es
 |.l k l,sc,N,e=>on (wc e) λes=>decide (es.length=k)&&es.all fm&&AU l sc N es
abbrev AU:Gs→Scope→List Str→List Expr→Bool
 |.n,_,_,es=>es.isEmpty
 |.c g l,sc,N,es=>on (lH es) λq=>fm q.1&&kG g sc N q.1&&AU l sc N q.2
end
abbrev EK:Expr→Bool
 |.List [] _=>true
 |_=>false
def X1{e:Expr}(h:EK e=true):∃p,e=.List [] p:=by
 unfold EK at h;split at h
 ·exact⟨_,rfl⟩
 ·cases h
abbrev og:Stmt→Option (Expr×Expr×Pos)
 |.Assign [tg] e pos=>some (tg,e,pos)
 |_=>none
def qe(st:Stmt):Option (Str×Expr):=(og st).bind λq=>(sv q.1).map λx=>(x,q.2.1)
abbrev AV:Stmt→Option Expr
 |.Expr e _=>some e
 |_=>none
abbrev AW:Stmt→Option (Option Expr)
 |.Return e _=>some e
 |_=>none
abbrev GP:Stmt→Option (Expr×List Stmt×List Stmt)
 |.If e a b _=>some (e,a,b)
 |_=>none
abbrev AX:Stmt→Option (Expr×Expr×List Stmt)
 |.For tg it b [] _=>some (tg,it,b)
 |_=>none
abbrev GQ:Stmt→Option (Expr×List Stmt)
 |.While e b [] _=>some (e,b)
 |_=>none
def qI{st:Stmt}{q:Expr×Expr×Pos}(h:og st=some q):st=.Assign [q.1] q.2.1 q.2.2:=by
 unfold og at h;split at h
 ·cases h;rfl
 ·cases h
def qJ{st:Stmt}{y:Str}{e:Expr}(h:qe st=some (y,e)):∃p pos,st=.Assign [.Name y p] e pos:=by
 let⟨q,h1,h⟩:=jF h;let⟨x,h2,h⟩:=yr h;cases h;let⟨p,e⟩:=qH h2;exact⟨p,q.2.2,by rw[qI h1,e]⟩
def yv{st:Stmt}{e:Expr}(h:AV st=some e):∃p,st=.Expr e p:=by
 cases st<;>cases h;exact⟨_,rfl⟩
def yw{st:Stmt}{e:Option Expr}(h:AW st=some e):∃p,st=.Return e p:=by
 cases st<;>cases h;exact⟨_,rfl⟩
def MR{st:Stmt}{e:Expr}{a b:List Stmt}(h:GP st=some (e,a,b)):∃p,st=.If e a b p:=by
 cases st<;>cases h;exact⟨_,rfl⟩
def MS{st:Stmt}{a b:Expr}{l:List Stmt}(h:AX st=some (a,b,l)):∃p,st=.For a b l [] p:=by
 unfold AX at h;split at h
 ·cases h;exact⟨_,rfl⟩
 ·cases h
def aaC{st:Stmt}{e:Expr}{l:List Stmt}(h:GQ st=some (e,l)):∃p,st=.While e l [] p:=by
 unfold GQ at h;split at h
 ·cases h;exact⟨_,rfl⟩
 ·cases h
abbrev ioq:Option (List Nat)→Bool
 |some (_::_)=>true
 |_=>false
abbrev Rh(c:Cf)(lv:Nat)(f:Nat)(l:A)(sc:Scope)(N:List Str)(e:Expr):Bool :=
 on (eN e) λq=>on c.fs[f]? λi=>decide (q.1=i.nm)&&gl sc q.1&&!(q.1 == "__debug__")&&decide (i.lv≤lv)&&decide (q.2.length=i.ar)&&decide (i.io=some [])&&!q.2.isEmpty&&kA c lv l sc N q.2
def Ri(c:Cf)(lv:Nat)(f:Nat)(l:A)(sc:Scope)(N:List Str)(e:Expr):Bool :=
 on (eN e) λq=>on c.fs[f]? λi=>decide (q.1=i.nm)&&gl sc q.1&&!(q.1 == "__debug__")&&decide (i.lv≤lv)&&decide (q.2.length=i.ar)&&ioq i.io&&!q.2.isEmpty&&kA c lv l sc N q.2
def kL(c:Cf)(lv:Nat):L→Scope→List Str→Stmt→Bool
 |.rt x,sc,N,st=>on (AW st) λo=>on o λe=>kX c lv x sc N e
 |.st i x,sc,N,st=>on (qe st) λs=>decide (N[i]?=some s.1)&&loc sc s.1&&k8 s.2&&kX c lv x sc N s.2
 |.sc j i ix q e,sc,N,st=>on (qe st) λs=>decide (N[j]?=some s.1)&&loc sc s.1&&kX c lv (.cp i ix q e) sc N s.2
 |.as g x,sc,N,st=>on (og st) λs=>DW s.1&&v8 s.2.1&&kG g sc N s.1&&kX c lv x sc N s.2.1
 |.si k i x,sc,N,st=>on (og st) λs=>on (km s.1) λu=>mR u.2&&k8 s.2.1&&kX c lv (.v k) sc N u.1&&kX c lv i sc N u.2&&kX c lv x sc N s.2.1
 |.dp k i x,sc,N,st=>on (og st) λs=>on (km s.1) λu=>k8 s.2.1&&kX c lv (.v k) sc N u.1&&kX c lv i sc N u.2&&kX c lv x sc N s.2.1
 |.ap k x,sc,N,st=>on (AV st) λe=>on (eM "append" e) λq=>on (l1 q.2) λa=>kX c lv (.v k) sc N q.1&&kX c lv x sc N a
 |.na k i x,sc,N,st=>on (AV st) λe=>on (eM "append" e) λq=>on (l1 q.2) λa=>on (km q.1) λu=>mR u.2&&kX c lv (.v k) sc N u.1&&kX c lv i sc N u.2&&kX c lv x sc N a
 |.po i k,sc,N,st=>on (qe st) λs=>on (eM "pop" s.2) λq=>decide (N[i]?=some s.1)&&loc sc s.1&&q.2.isEmpty&&kX c lv (.v k) sc N q.1
 |.rv k,sc,N,st=>on (AV st) λe=>on (eM "reverse" e) λq=>q.2.isEmpty&&kX c lv (.v k) sc N q.1
 |.ne i it,sc,N,st=>on (qe st) λs=>on (zu s.2) λq=>decide (N[i]?=some s.1)&&loc sc s.1&&q.2.2.2.2.1.isEmpty&&EK q.1&&GH N (ns N q.2.1 []) sc q.2.2.2.2.2.1 q.2.1 []&&(jW q.2.2.2.1&&kI c lv it false sc N q.2.2.2.1)
 |.tp k i x,sc,N,st=>on (og st) λs=>on (km s.1) λu=>k8 s.2.1&&kX c lv (.v k) sc N u.1&&kX c lv i sc N u.2&&kX c lv x sc N s.2.1
 |.rT l,sc,N,st=>on (AW st) λo=>on o λe=>on (wc e) λes=>kA c lv l sc N es
 |.rO f _ l,sc,N,st=>on (AW st) λo=>on o λe=>Rh c lv f l sc N e
 |.iS j f _ l,sc,N,st=>on (qe st) λs=>decide (N[j]?=some s.1)&&loc sc s.1&&Ri c lv f l sc N s.2
def Rj(c:Cf)(lv:Nat)(i:Nat):Ch→Scope→List Str→Stmt→Bool
 |.a k x,sc,N,st=>kL c lv (.na i k x) sc N st
 |.d k y x,sc,N,st=>on (og st) λs=>on (km s.1) λu=>on (km u.1) λv=>k8 s.2.1&&mR v.2&&kX c lv (.v i) sc N v.1&&kX c lv k sc N v.2&&kX c lv y sc N u.2&&kX c lv x sc N s.2.1
def zy(c:Cf)(lv:Nat)(i:Nat):List Ch→Scope→List Str→List Stmt→Option (List Stmt)
 |[],_,_,ss=>some ss
 |x::l,sc,N,st::ss=>if Rj c lv i x sc N st=true then zy c lv i l sc N ss else none
 |_,_,_,_=>none
mutual
abbrev kS(c:Cf)(lv:Nat):S→Scope→List Str→Stmt→Bool
 |.l x,sc,N,st=>kL c lv x sc N st
 |.ie t a b,sc,N,st=>on (GP st) λq=>kT c lv t sc N q.1&&kB c lv a sc N q.2.1&&kB c lv b sc N q.2.2
 |.fo i g b,sc,N,st=>on (AX st) λq=>kI c lv i (DW q.1) sc N q.2.1&&jW q.2.1&&kG g sc N q.1&&kB c lv b sc N q.2.2
 |.fk k g b,sc,N,st=>on (AX st) λq=>jW q.2.1&&kX c lv (.v k) sc N q.2.1&&kG g sc N q.1&&kB c lv b sc N q.2.2
 |.wh t b,sc,N,st=>on (GQ st) λq=>kT c lv t sc N q.1&&kB c lv b sc N q.2
 |.fz _ s,sc,N,st=>kS c lv s sc N st
abbrev kB(c:Cf)(lv:Nat):B→Scope→List Str→List Stmt→Bool
 |.n,_,_,ss=>ss.isEmpty
 |.o s,sc,N,ss=>on (l1 ss) λst=>kS c lv s sc N st
 |.c s b,sc,N,ss=>on (lH ss) λq=>kS c lv s sc N q.1&&kB c lv b sc N q.2
 |.u i x q r cs b,sc,N,ss=>on (lH ss) λs=>on (lH s.2) λz=>on (qe s.1) λw=>on (GP z.1) λg=>on (l1 g.2.1) λst=>on (zy c lv i cs sc N z.2) λr'=>(decide (N[i]?=some w.1)&&loc sc w.1&&k8 w.2&&kX c lv x sc N w.2)&&kT c lv q sc N g.1&&kL c lv (.rt r) sc N st&&g.2.2.isEmpty&&kB c lv b sc N r'
end
structure CS (c:Cf)(lv:Nat)(K:PySem.W.Frag)(t:List FT)(va:List V)(sc:Scope)(N:List Str)(Z:Cx):Prop where
 e:CE c lv K t va sc N Z
 nd:N.Nodup
 fn:∀x,Z.fn x=true
 po:PassesOwn (model Z.prog Z.w) Z.A Z.env Z.xe
 kd:sc.kind=.function
section
variable {c:Cf}{lv:Nat}{K:PySem.W.Frag}{t:List FT}{va:List V}
def sV{k:Nat}{sc:Scope}{N:List Str}{e:Expr}(h:kX c lv (.v k) sc N e=true)(Z:Cx)(E:CE c lv K t va sc N Z):PE Z e (ik k):=by
 have hh:=aE h;clear h;let⟨x,q,h⟩:=hh;let⟨p,rfl⟩:=qH q;let⟨h1,h2,h3,h4⟩:=gi h;have h1:=bq h1;have h2:=ML h2;exact @LX _ _ _ _ (E.n▸h1) (E.sc▸h2) (nb h3) (nb h4)
def Ji{e:Expr}(h:fm e=true){es:List Expr}{env:Env}:assignEach (e::es) env=(false,assign e env)::assignEach es env:=by
 cases e<;>first|rfl|cases h
theorem tE{env:Env}:∀{es:List Expr},es.all fm=true→(assignEach es env).length=es.length∧(assignEach es env).findIdx? (λx=>x.1)=none
 |[],_=>⟨rfl,rfl⟩
 |e::es,h=>by
  rw[pM,lq]at h;let⟨h1,h2⟩:=tE (env:=env) h.2;rw[Ji h.1];refine⟨by simp[h1],?_⟩;rw[List.findIdx?_cons,h2];rfl
mutual
theorem sG:∀(g:G) {sc:Scope}{N:List Str}{e:Expr},kG g sc N e=true→∃tg,(∀Z,CS c lv K t va sc N Z→PG Z e tg)∧JG K tg (eG g)
 |.n i,sc,N,e,h=>by
  have hh:=aE h;clear h;let⟨x,q,h⟩:=hh;let⟨p,rfl⟩:=qH q;let⟨h1,h2⟩:=dw h;have h1:=bq h1;exact⟨_,λZ E=>@Kn _ _ i _ (E.e.n▸E.nd) (E.e.n▸h1) (E.e.sc▸MQ h2) (.inl (E.fn _)),Xf⟩
 |.t k l,sc,N,e,h=>by
  have hh:=aE h;clear h;let⟨es,q,h⟩:=hh;let⟨k',p,rfl⟩:=yu q;let⟨h1,h2,h3⟩:=gf h;cases bq h1;let⟨tg,pg,jg⟩:=GR l h3;exact⟨_,λZ E=>E.e.k▸@YJ _ _ _ _ _ _ E.e.calm (pg Z E) (tE h2).1 (tE h2).2,ZQ jg⟩
 |.l k l,sc,N,e,h=>by
  have hh:=aE h;clear h;let⟨es,q,h⟩:=hh;let⟨k',p,rfl⟩:=yu q;let⟨h1,h2,h3⟩:=gf h;cases bq h1;let⟨tg,pg,jg⟩:=GR l h3;exact⟨_,λZ E=>E.e.k▸@Zh _ _ _ _ _ _ E.e.calm (pg Z E) (tE h2).1 (tE h2).2,aac jg⟩
theorem GR:∀(l:Gs) {sc:Scope}{N:List Str}{es:List Expr},AU l sc N es=true→∃tg,(∀Z,CS c lv K t va sc N Z→rY Z es tg)∧sj K tg (AK l)
 |.n,_,_,es,h=>by
  cases fK.mp h;exact⟨_,λ_ _=>WH,Xg⟩
 |.c g l,sc,N,es,h=>by
  have hh:=aE h;clear h;let⟨⟨e,r⟩,q,h⟩:=hh;cases jG q;let⟨h0,h1,h2⟩:=gf h;let⟨ta,pa,ja⟩:=sG g h1;let⟨tl,pl,jl⟩:=GR l h2;exact⟨_,λZ E=>@Vc _ _ _ _ _ (pa Z E) (pl Z E) (by rw[Ji h0];rfl),Vx ja jl⟩
end
theorem GU:∀(l:A) {sc:Scope}{N:List Str}{es:List Expr},kA c lv l sc N es=true→∃ta,(∀Z,CE c lv K t va sc N Z→PA Z es ta)∧kh K ta (eA t l) (pA l)
 |.n,_,_,es,h=>by
  cases fK.mp h;exact⟨_,λ_ _=>ug,Xx⟩
 |.c a l,sc,N,es,h=>by
  have hh:=aE h;clear h;let⟨⟨e,r⟩,q,h⟩:=hh;cases jG q;let⟨h0,h1,h2⟩:=gf h;let⟨tl,pl,jl⟩:=GU l h2;cases a with
  |v i=>exact⟨_,λZ E=>@xX _ _ _ _ _ (sV h1 Z E) (pl Z E) (cO h0),Xy jl⟩
  |_ =>
   let⟨ta,pa,ja⟩:=sX _ h1;exact⟨_,λZ E=>@xX _ _ _ _ _ (pa Z E) (pl Z E) (cO h0),VL ja jl⟩
def nh{e:Expr}{o:Option Expr}{n:Nat}{env:Env}(h:k8 e=true):swapsWith e o n env=pure false:=by
 cases e<;>first|rfl|cases h
end
end C
set_option maxHeartbeats 4000000
namespace C
open PySem PySem.Spec L2 J
section
variable {c:Cf}{lv:Nat}{K:PySem.W.Frag}{t:List FT}{va:List V}
def Lf{el:Expr}{gs:List Comprehension}{aD:Scope}{ep py:Pos}{y:Str}{n:Nat}{env:Env} :
  swapsWith (.ListComp el gs aD ep) (some (.Name y py)) n env=pure true∧env.scope.names.lookup y=some .local∨swapsWith (.ListComp el gs aD ep) (some (.Name y py)) n env=pure false:=by
 have e:swapsWith (.ListComp el gs aD ep) (some (.Name y py)) n env=pure (env.blockKind==.function&&env.kindOf y==some .local&&py.line==ep.line&&!(aD.names.any λx=>match x with | (n,k)=>n==y&&(k==NameKind.local||k==NameKind.cell))):=rfl
 rw[e];generalize hb:(env.blockKind==.function&&env.kindOf y==some .local&&py.line==ep.line&&!(aD.names.any λx=>match x with | (n,k)=>n==y&&(k==NameKind.local||k==NameKind.cell)))=b
 cases b with
 |false=>exact .inr rfl
 |true =>
  let⟨_,h,_,_⟩:=gi hb;exact .inl ⟨rfl,by simpa[Env.kindOf]using h⟩
def sCp{i:I}{ix:List Nat}{t':T}{d:X}{sc:Scope}{N:List Str}{e:Expr}(h:kX c lv (.cp i ix t' d) sc N e=true) :
  ∃el x px it ifs aD ep wi tc te,e=.ListComp el [⟨.Name x px,it,ifs,0⟩] aD ep∧(∀Z,CE c lv K t va sc N Z→lQ Z.N (ns N x ix) Z.env.scope aD x ix∧PI Z (.Name x px) it wi∧(∀C s₂ H₂ fp pn,nY (Z.cy (ns N x ix) aD C s₂ H₂ fp pn) ifs tc)∧(∀C s₂ H₂ fp pn,PE (Z.cy (ns N x ix) aD C s₂ H₂ fp pn) el te))∧jW it=true∧JT K (qP wi ix tc te) (eX t (.cp i ix t' d)):=by
 have hh:=aE h;clear h;let⟨⟨el,x,px,it,ifs,aD,ep⟩,q,h⟩:=hh;cases CY q;let⟨h1,h2,h3,h4,h5⟩:=qd h;have h1:=Dt h1;let⟨ti,pi,ji⟩:=sI i h3;let⟨te,pe,je⟩:=sX d h5;have h4:(ifs.isEmpty=true∧GL t'=true)∨(on (l1 ifs) λy=>kT c lv t' (rl sc aD) (ns N x ix) y)=true:=by simpa using h4
 rcases h4 with⟨w1,w2⟩|h4
 ·cases fK.mp w1;cases t'<;>first|exact absurd w2 bw|skip
  exact⟨el,x,px,it,[],aD,ep,_,_,_,rfl,λZ E=>⟨by rw[E.n,E.sc];exact h1,pi Z (.Name x px) E (λz=>absurd z bw),(λC s₂ H₂ fp pn=>xY),(λC s₂ H₂ fp pn=>pe _ E.cy)⟩,h2,x6 ji KQ je⟩
 ·have hh:=aE h4;clear h4;let⟨y,q,h4⟩:=hh;cases iL q;let⟨tq,pq,jq⟩:=sT t' h4;exact⟨el,x,px,it,[y],aD,ep,_,_,_,rfl,λZ E=>⟨by rw[E.n,E.sc];exact h1,pi Z (.Name x px) E (λz=>absurd z bw),(λC s₂ H₂ fp pn=>Kz (pq _ E.cy)),(λC s₂ H₂ fp pn=>pe _ E.cy)⟩,h2,x6 ji jq je⟩
def sIO{f:Nat}{l:A}{sc:Scope}{N:List Str}{e:Expr}(h:Ri c lv f l sc N e=true):∃n ta,(∀Z,CE c lv K t va sc N Z→PE Z e (m3 (uX K n (FT.l t[f]?) (FT.o t[f]?)) [] E0 ta))∧kh K ta (eA t l) (pA l)∧k8 e=true∧∀(e:Ev) (ay:List (M×D)),eA t l e=some ay→ay.length=n:=by
 have hh:=aE h;clear h;let⟨⟨x,as⟩,q,h⟩:=hh;let⟨p,cp,rfl,wg⟩:=jK q;have hh:=aE h;clear h;let⟨i,hf,h⟩:=hh;let⟨h1,h2,h3,h4,h5,lJ,h0,h8⟩:=GO h;let⟨a,r,rfl⟩:=yc h0;let⟨h6,h7⟩:=all1 wg;have h1:=bq h1;let⟨ta,pa,ja⟩:=GU l h8;have hl:=zv (t:=t) h8;rw[show(a::r).length=i.ar from bq h5]at hl;refine⟨i.ar,ta,λZ E=>?_,ja,rfl,hl⟩;let⟨F,hF,q⟩:=E.fs f i hf;cases F with
 |p F=>rw[q.1]at lJ;cases lJ
 |oo F=>rw[q.1]at lJ;cases lJ
 |io l F =>
  let⟨_,a,fd,ps,k1,k2,k3,k4⟩:=q;rw[←h1]at k2;rw[hF,←E.k];exact @CF _ _ _ _ _ _ _ _ _ _ _ _ _ _ _ _ k1 (E.rm.mono (bq h4)) (E.gl h2) k2 k3 k4.1 .nil DK (pa Z E) (nb h3) (cO h6) (iY h7 _)
def sOO{f:Nat}{l:A}{sc:Scope}{N:List Str}{e:Expr}(h:Rh c lv f l sc N e=true):∃n ta,(∀Z,CE c lv K t va sc N Z→PE Z e (m3 (zt K n (FT.q t[f]?)) [] E0 ta))∧kh K ta (eA t l) (pA l)∧k8 e=true∧∀(e:Ev) (ay:List (M×D)),eA t l e=some ay→ay.length=n:=by
 have hh:=aE h;clear h;let⟨⟨x,as⟩,q,h⟩:=hh;let⟨p,cp,rfl,wg⟩:=jK q;have hh:=aE h;clear h;let⟨i,hf,h⟩:=hh;let⟨h1,h2,h3,h4,h5,lJ,h0,h8⟩:=GO h;let⟨a,r,rfl⟩:=yc h0;let⟨h6,h7⟩:=all1 wg;have h1:=bq h1;let⟨ta,pa,ja⟩:=GU l h8;have hl:=zv (t:=t) h8;rw[show(a::r).length=i.ar from bq h5]at hl;refine⟨i.ar,ta,λZ E=>?_,ja,rfl,hl⟩;let⟨F,hF,q⟩:=E.fs f i hf;cases F with
 |p F=>rw[lI,bq lJ]at q;cases q.1
 |io l F=>rw[lI,bq lJ]at q;exact absurd (dP q.1.1).symm q.1.2
 |oo F =>
  let⟨_,a,fd,ps,k1,k2,k3,k4⟩:=q;rw[←h1]at k2;rw[hF,←E.k];exact @CF _ _ _ _ _ _ _ _ _ _ _ _ _ _ _ _ k1 (E.rm.mono (bq h4)) (E.gl h2) k2 k3 k4.1 .nil DK (pa Z E) (nb h3) (cO h6) (iY h7 _)
def aaD{e:Expr}(h:v8 e=true):k8 e=true:=by
 cases e<;>first|rfl|cases h
def aaE{e:Expr}{es:List Expr}{k:Nat}{p:Pos}{env:Env}(h:v8 e=true):swappedStores [.Tuple es k p] e env=pure none:=by
 cases e<;>first|rfl|cases h
def Rk {o:Expr}{nm:Str}{ap cp:Pos}{to:TE}{id:String}{r:V→List V→Hp→VK→Prop}{Z:Cx} (k:Z.K=K) (h1:Slot "list" nm id) (h2:typeOf (.builtin id)=pure (.type "method_descriptor")) (h3:FL Z id r) (ho:PE Z o to) (h4:v9 o=true) (h5:(ap.endLine==cp.line)=true):PE Z (.Call (.Attribute o nm ap) [] [] cp) (zg K "list" r to) :=
 k▸@Zc _ _ _ _ _ _ _ _ _ PySem.F.plainAttrs_list h1 h2 h3 ho (Dr h4) h5
def vK{o a:Expr}{ap cp:Pos}{to ta:TE}{Z:Cx}(k:Z.K=K)(ho:PE Z o to)(ha:PE Z a ta)(h4:v9 o=true)(h5:(ap.endLine==cp.line)=true)(h6:fm a=true):PE Z (.Call (.Attribute o "append" ap) [a] [] cp) (vD K "list" tZ to (mZ ta lY)) :=
 k▸@abo _ _ _ _ _ _ _ _ _ _ _ _ PySem.F.plainAttrs_list PySem.F.slot_list_append PySem.F.type_list_append IX ho (@xX _ _ _ _ _ ha ug (cO h6)) (Dr h4) (aaA h6) h5 (cO h6) aaB
def rG{Z:Cx}{sc:Scope}{N:List Str}{e:Expr}{te:TE}{pos py:Pos}{y:Str}{i:Nat}(E:CS c lv K t va sc N Z)(h1:N[i]?=some y)(h2:loc sc y=true)(h:PE Z e te)(hs:swapsWith e (some (Expr.Name y py)) pos.line Z.env=pure false):gA Z (.Assign [.Name y py] e pos) (il te (gO i)) :=
 @aaf _ _ _ _ _ _ i (E.e.n▸E.nd) (E.e.n▸h1) (E.e.sc▸MQ h2) h hs (.inl (E.fn _))
def sL:∀(s:L) {sc:Scope}{N:List Str}{st:Stmt},kL c lv s sc N st=true→∃ts,(∀Z,CS c lv K t va sc N Z→gA Z st ts)∧JS K ts (eL t s)
 |.rt x,sc,N,st,h=>by
  have hh:=aE h;clear h;let⟨o,q,h⟩:=hh;let⟨p,rfl⟩:=yw q;have hh:=aE h;clear h;let⟨e,rfl,h⟩:=hh;let⟨te,pe,je⟩:=sX x h;exact⟨_,λZ E=>yq (pe Z E.e),ZJ je⟩
 |.st i x,sc,N,st,h=>by
  have hh:=aE h;clear h;let⟨⟨y,e⟩,q,h⟩:=hh;let⟨py,pos,rfl⟩:=qJ q;let⟨h1,h2,h3,h4⟩:=gi h;let⟨te,pe,je⟩:=sX x h4;exact⟨_,λZ E=>rG E (bq h1) h2 (pe Z E.e) (nh h3),Mi je⟩
 |.sc j i ix t' d,sc,N,st,h=>by
  have hh:=aE h;clear h;let⟨⟨y,e⟩,q,h⟩:=hh;let⟨py,pos,rfl⟩:=qJ q;let⟨h1,h2,h3⟩:=gf h;have h1:=bq h1;let⟨el,z,pz,it,ifs,aD,ep,wi,tc,te,e,pe,ns,je⟩:=sCp h3;have e:_=Expr.ListComp el [⟨.Name z pz,it,ifs,0⟩] aD ep:=e;subst e;refine⟨_,λZ E=>?_,Mi je⟩;let⟨p1,p2,p3,p4⟩:=pe Z E.e;rcases Lf (el:=el) (gs:=[⟨.Name z pz,it,ifs,0⟩]) (aD:=aD) (ep:=ep) (py:=py) (y:=y) (n:=pos.line) (env:=Z.env) with⟨w,l⟩|w
  ·exact @Ip _ _ _ _ _ _ _ _ _ _ _ _ _ j _ _ _ (E.e.n▸E.nd) (E.e.n▸h1) l p1 E.e.calm p2 p3 p4 w (mU ns)
  ·exact rG E h1 h2 (@xZ _ _ _ _ _ _ _ _ _ _ _ _ _ p1 E.e.calm p2 p3 p4 (mU ns)) w
 |.as g x,sc,N,st,h=>by
  have hh:=aE h;clear h;let⟨⟨tg,e,pos⟩,q,h⟩:=hh;cases qI q;let⟨h1,h2,h3,h4⟩:=gi h;let⟨te,pe,je⟩:=sX x h4;let⟨Rl,pg,jg⟩:=sG g h3;refine⟨_,λZ E=>@Mu _ _ _ _ _ _ (pe Z E.e) (pg Z E) ?_ ?_ ?_,ZR je jg⟩
  ·exact(show swapsWith e (some tg) pos.line Z.env=pure false from nh (aaD h2))
  ·cases tg<;>first|exact absurd h1 bw|skip
   exact aaE h2
  ·cases tg<;>first|rfl|exact absurd h1 bw
 |.si k i x,sc,N,st,h=>by
  have hh:=aE h;clear h;let⟨⟨tg,e,pos⟩,q,h⟩:=hh;cases qI q;have hh:=aE h;clear h;let⟨⟨o,ie⟩,q,h⟩:=hh;let⟨p,r⟩:=jH q;have r:tg=_:=r;subst r;let⟨h1,h2,h3,h4,h5⟩:=qd h;let⟨ti,pi,ji⟩:=sX i h4;let⟨te,pe,je⟩:=sX x h5;refine⟨_,λZ E=>@Mu _ _ _ _ _ _ (pe Z E.e) (@YK _ _ _ _ _ _ _ (sV h3 Z E.e) (pi Z E.e) set_list (aaq h1)) ?_ ?_ rfl,Vv je ji⟩
  ·exact(show swapsWith e (some (Expr.Subscript o ie p)) pos.line Z.env=pure false from nh h2)
  ·cases e<;>rfl
 |.dp k i x,sc,N,st,h=>by
  have hh:=aE h;clear h;let⟨⟨tg,e,pos⟩,q,h⟩:=hh;cases qI q;have hh:=aE h;clear h;let⟨⟨o,ie⟩,q,h⟩:=hh;let⟨p,r⟩:=jH q;have r:tg=_:=r;subst r;let⟨h2,h3,h4,h5⟩:=gi h;let⟨ti,pi,ji⟩:=sX i h4;let⟨te,pe,je⟩:=sX x h5;exact⟨_,λZ E=>CV (kW E.e.rm) (sV h3 Z E.e) (pi Z E.e) (pe Z E.e) (nh h2),XD je ji⟩
 |.ap k x,sc,N,st,h=>by
  have hh:=aE h;clear h;let⟨e,q,h⟩:=hh;let⟨pos,rfl⟩:=yv q;have hh:=aE h;clear h;let⟨⟨o,as⟩,q,h⟩:=hh;let⟨ap,cp,rfl,h2,h3,h4⟩:=qV q;have hh:=aE h;clear h;let⟨a,q1,h⟩:=hh;cases iL q1;let⟨h5,h6⟩:=dw h;let⟨te,pe,je⟩:=sX x h6;exact⟨_,λZ E=>@x8 _ _ _ _ (vK E.e.k (sV h5 Z E.e) (pe Z E.e) h2 h3 (all1 h4).1) rfl,ZL je⟩
 |.na k i x,sc,N,st,h=>by
  have hh:=aE h;clear h;let⟨e,q,h⟩:=hh;let⟨pos,rfl⟩:=yv q;have hh:=aE h;clear h;let⟨⟨o,as⟩,q,h⟩:=hh;let⟨ap,cp,rfl,h2,h3,h4⟩:=qV q;have hh:=aE h;clear h;let⟨a,q1,h⟩:=hh;cases iL q1;have hh:=aE h;clear h;let⟨⟨o',ie⟩,q,h⟩:=hh;let⟨p,r⟩:=jH q;have r:o=_:=r;subst r;let⟨h0,h5,h6,h7⟩:=gi h;let⟨ti,pi,ji⟩:=sX i h6;let⟨te,pe,je⟩:=sX x h7;exact⟨_,λZ E=>@x8 _ _ _ _ (vK E.e.k (@yK _ _ _ _ _ _ _ (x4 E.e.k) (sV h5 Z E.e) (pi Z E.e) (qU h0)) (pe Z E.e) h2 h3 (all1 h4).1) rfl,XH ji je⟩
 |.po i k,sc,N,st,h=>by
  have hh:=aE h;clear h;let⟨⟨y,e⟩,q,h⟩:=hh;let⟨py,pos,rfl⟩:=qJ q;have hh:=aE h;clear h;let⟨⟨o,as⟩,q,h⟩:=hh;let⟨ap,cp,r,h2,h3,h4⟩:=qV q;have r:e=_:=r;subst r;let⟨h1,h5,h0,h6⟩:=gi h;cases fK.mp h0;exact⟨_,λZ E=>rG E (bq h1) h5 (Rk E.e.k PySem.F.slot_list_pop PySem.F.type_list_pop Ze (sV h6 Z E.e) h2 h3) rfl,ZM⟩
 |.rv k,sc,N,st,h=>by
  have hh:=aE h;clear h;let⟨e,q,h⟩:=hh;let⟨pos,rfl⟩:=yv q;have hh:=aE h;clear h;let⟨⟨o,as⟩,q,h⟩:=hh;let⟨ap,cp,rfl,h2,h3,h4⟩:=qV q;let⟨h0,h6⟩:=dw h;cases fK.mp h0;exact⟨_,λZ E=>@x8 _ _ _ _ (Rk E.e.k PySem.F.slot_list_reverse PySem.F.type_list_reverse T6 (sV h6 Z E.e) h2 h3) rfl,ZN⟩
 |.ne i it,sc,N,st,h=>by
  have hh:=aE h;clear h;let⟨⟨y,e⟩,q,h⟩:=hh;let⟨py,pos,rfl⟩:=qJ q;have hh:=aE h;clear h;let⟨⟨el,z,pz,ie,ifs,aD,ep⟩,q,h⟩:=hh;have r:e=_:=CY q;subst r;let⟨h1,h2,q1,q2,h6,h7⟩:=sx h;let⟨h4,h5⟩:=dw h7;have h1:=bq h1;let⟨lp,r⟩:=X1 q2;have r:el=_:=r;subst r;cases fK.mp q1;have h6:=Dt h6;let⟨ti,pi,ji⟩:=sI it h5;refine⟨_,λZ E=>?_,XG (ix:=[]) ji⟩;have p1:lQ Z.N (ns N z []) Z.env.scope aD z []:=by rw[E.e.n,E.e.sc];exact h6
  have p2:=pi Z (.Name z pz) E.e (λz=>absurd z bw);rcases Lf (el:=.List [] lp) (gs:=[⟨.Name z pz,ie,[],0⟩]) (aD:=aD) (ep:=ep) (py:=py) (y:=y) (n:=pos.line) (env:=Z.env) with⟨w,l⟩|w
  ·exact @Ip _ _ _ _ _ _ _ _ _ _ _ _ _ i _ _ _ (E.e.n▸E.nd) (E.e.n▸h1) l p1 E.e.calm p2 (λC s₂ H₂ fp pn=>xY) (λC s₂ H₂ fp pn=>Dk ug) w (mU h4)
  ·exact rG E h1 h2 (@xZ _ _ _ _ _ _ _ _ _ _ _ _ _ p1 E.e.calm p2 (λC s₂ H₂ fp pn=>xY) (λC s₂ H₂ fp pn=>Dk ug) (mU h4)) w
 |.tp k i x,sc,N,st,h=>by
  have hh:=aE h;clear h;let⟨⟨tg,e,pos⟩,q,h⟩:=hh;cases qI q;have hh:=aE h;clear h;let⟨⟨o,ie⟩,q,h⟩:=hh;let⟨p,r⟩:=jH q;have r:tg=_:=r;subst r;let⟨h2,h3,h4,h5⟩:=gi h;let⟨ti,pi,ji⟩:=sX i h4;let⟨te,pe,je⟩:=sX x h5;exact⟨_,λZ E=>CV (kW E.e.rm) (sV h3 Z E.e) (pi Z E.e) (pe Z E.e) (nh h2),XR je ji⟩
 |.rT l,sc,N,st,h=>by
  have hh:=aE h;clear h;let⟨o,q,h⟩:=hh;let⟨p,rfl⟩:=yw q;have hh:=aE h;clear h;let⟨e,rfl,h⟩:=hh;have hh:=aE h;clear h;let⟨es,q,h⟩:=hh;let⟨k',p',rfl⟩:=yu q;let⟨ta,pa,ja⟩:=sA l h;exact⟨_,λZ E=>yq (L1 (pa Z E.e)),XU ja⟩
 |.rO f sl l,sc,N,st,h=>by
  have hh:=aE h;clear h;let⟨o,q,h⟩:=hh;let⟨pos,rfl⟩:=yw q;have hh:=aE h;clear h;let⟨e,rfl,h⟩:=hh;let⟨n,ta,p1,p2,nc,p3⟩:=sOO h;exact⟨_,λZ E=>yq (p1 Z E.e),V0 p2 p3⟩
 |.iS j f sl l,sc,N,st,h=>by
  have hh:=aE h;clear h;let⟨⟨y,e⟩,q,h⟩:=hh;let⟨py,pos,rfl⟩:=qJ q;let⟨h1,h2,h3⟩:=gf h;let⟨n,ta,p1,p2,nc,p3⟩:=sIO h3;exact⟨_,λZ E=>rG E (bq h1) h2 (p1 Z E.e) (nh nc),VM p2 p3⟩
def sCh{i:Nat}:∀(x:Ch) {sc:Scope}{N:List Str}{st:Stmt},Rj c lv i x sc N st=true→∃ts,(∀Z,CS c lv K t va sc N Z→gA Z st ts)∧Ax K i ts (GD t x)
 |.a k x,sc,N,st,h=>by
  have hh:=aE h;clear h;let⟨e,q,h⟩:=hh;let⟨pos,rfl⟩:=yv q;have hh:=aE h;clear h;let⟨⟨o,as⟩,q,h⟩:=hh;let⟨ap,cp,rfl,h2,h3,h4⟩:=qV q;have hh:=aE h;clear h;let⟨a,q1,h⟩:=hh;cases iL q1;have hh:=aE h;clear h;let⟨⟨o',ie⟩,q,h⟩:=hh;let⟨p,r⟩:=jH q;have r:o=_:=r;subst r;let⟨h0,h5,h6,h7⟩:=gi h;let⟨ti,pi,ji⟩:=sX k h6;let⟨te,pe,je⟩:=sX x h7;exact⟨_,λZ E=>@x8 _ _ _ _ (vK E.e.k (@yK _ _ _ _ _ _ _ (x4 E.e.k) (sV h5 Z E.e) (pi Z E.e) (qU h0)) (pe Z E.e) h2 h3 (all1 h4).1) rfl,abN ji je⟩
 |.d k y x,sc,N,st,h=>by
  have hh:=aE h;clear h;let⟨⟨tg,e,pos⟩,q,h⟩:=hh;cases qI q;have hh:=aE h;clear h;let⟨⟨o,ie⟩,q,h⟩:=hh;let⟨p,r⟩:=jH q;have r:tg=_:=r;subst r;have hh:=aE h;clear h;let⟨⟨o',ke⟩,q,h⟩:=hh;let⟨p',r⟩:=jH q;have r:o=_:=r;subst r;let⟨h1,h2,h3,h4,h5,h6⟩:=sx h;let⟨tk,pk,jk⟩:=sX k h4;let⟨ty,py,jy⟩:=sX y h5;let⟨te,pe,je⟩:=sX x h6;exact⟨_,λZ E=>CV (kW E.e.rm) (@yK _ _ _ _ _ _ _ (x4 E.e.k) (sV h3 Z E.e) (pk Z E.e) (qU h2)) (py Z E.e) (pe Z E.e) (nh h1),abO jk jy je⟩
theorem OJ{i:Nat}:∀(l:List Ch) {sc:Scope}{N:List Str}{ss rs:List Stmt},zy c lv i l sc N ss=some rs→∃ts,(∀Z tb,CS c lv K t va sc N Z→jT Z rs tb→jT Z ss (ts.foldr ny tb))∧rD K i ts (l.map (GD t))
  |[],sc,N,ss,rs,h=>by
    cases h;exact⟨[],λ_ _ _ q=>q,.nil⟩
  |x::l,sc,N,[],rs,h=>by cases h
  |x::l,sc,N,st::ss,rs,h=>by
    unfold zy at h;split at h
    · rename_i hk
      let⟨ta,pa,ja⟩:=sCh x hk;let⟨ts,ps,js⟩:=OJ l h;exact⟨ta::ts,λZ tb E q=>xO (pa Z E) (ps Z tb E q),.cons ja js⟩
    · cases h
mutual
theorem sS:∀(s:S) {sc:Scope}{N:List Str}{st:Stmt},kS c lv s sc N st=true→∃ts,(∀Z,CS c lv K t va sc N Z→gA Z st ts)∧JS K ts (eS t s)
 |.l x,sc,N,st,h=>sL x (st:=st) h
 |.ie t' a b,sc,N,st,h=>by
  have hh:=aE h;clear h;let⟨⟨e,as,bs⟩,q,h⟩:=hh;let⟨p,rfl⟩:=MR q;let⟨h1,h2,h3⟩:=gf h;let⟨tq,pq,jq⟩:=sT t' h1;let⟨ta,pa,ja⟩:=sB a h2;let⟨tb,pb,jb⟩:=sB b h3;exact⟨_,λZ E=>NT (pq Z E.e) (pa Z E) (pb Z E),abD jq ja jb⟩
 |.fo i g b,sc,N,st,h=>by
  have hh:=aE h;clear h;let⟨⟨tg,it,body⟩,q,h⟩:=hh;let⟨p,rfl⟩:=MS q;let⟨h1,h2,h3,h4⟩:=gi h;let⟨ti,pi,ji⟩:=sI i h1;let⟨Rl,pg,jg⟩:=sG g h3;let⟨tb,pb,jb⟩:=sB b h4;exact⟨_,λZ E=>@Mv _ _ _ _ _ _ _ _ E.po E.e.calm (pi Z tg E.e id) (pg Z E) (pb Z E) (mU h2),ZS ji jg jb⟩
 |.fk k g b,sc,N,st,h=>by
  have hh:=aE h;clear h;let⟨⟨tg,it,body⟩,q,h⟩:=hh;let⟨p,rfl⟩:=MS q;let⟨h2,h5,h6,h7⟩:=gi h;let⟨Rl,pg,jg⟩:=sG g h6;let⟨tb,pb,jb⟩:=sB b h7;exact⟨_,λZ E=>XJ (@Mv _ _ _ _ _ _ _ _ E.po E.e.calm (XW (sV h5 Z E.e)) (pg Z E) (pb Z E) (mU h2)),XY (i:=k) jg jb⟩
 |.wh t' b,sc,N,st,h=>by
  have hh:=aE h;clear h;let⟨⟨e,body⟩,q,h⟩:=hh;let⟨p,rfl⟩:=aaC q;let⟨h1,h2⟩:=dw h;let⟨tq,pq,jq⟩:=sT t' h1;let⟨tb,pb,jb⟩:=sB b h2;exact⟨_,λZ E=>VW E.po (pq Z E.e) (pb Z E),Vy jq jb⟩
 |.fz k s,sc,N,st,h=>by
  let⟨ts,ps,js⟩:=sS s (st:=st) h;exact⟨_,ps,ZO js⟩
theorem sB:∀(b:B) {sc:Scope}{N:List Str}{ss:List Stmt},kB c lv b sc N ss=true→∃ts,(∀Z,CS c lv K t va sc N Z→jT Z ss ts)∧JS K ts (eB t b)
 |.n,_,_,ss,h=>by
  cases fK.mp h;exact⟨_,λ_ _=>KZ,Xb⟩
 |.o s,_,_,ss,h=>by
  have hh:=aE h;clear h;let⟨st,q,h⟩:=hh;cases iL q;let⟨ts,ps,js⟩:=sS s h;exact⟨_,λZ E=>K0 (ps Z E),js⟩
 |.c s b,_,_,ss,h=>by
  have hh:=aE h;clear h;let⟨⟨st,r⟩,q,h⟩:=hh;cases jG q;let⟨h1,h2⟩:=dw h;let⟨ts,ps,js⟩:=sS s h1;let⟨tb,pb,jb⟩:=sB b h2;exact⟨_,λZ E=>xO (ps Z E) (pb Z E),ZI js jb⟩
 |.u i x q r cs b,sc,N,ss,h=>by
  have hh:=aE h;clear h;let⟨⟨s1,ss1⟩,w,h⟩:=hh;cases jG w;have hh:=aE h;clear h;let⟨⟨s2,ss2⟩,w,h⟩:=hh;have w:ss1=_:=jG w;subst w;have hh:=aE h;clear h;let⟨⟨y,e⟩,w,h⟩:=hh;let⟨py,pos,w⟩:=qJ w;have w:s1=_:=w;subst w;have hh:=aE h;clear h;let⟨⟨ce,as,bs⟩,w,h⟩:=hh;let⟨p,w⟩:=MR w;have w:s2=_:=w;subst w;have hh:=aE h;clear h;let⟨st,w,h⟩:=hh;have w:as=_:=iL w;subst w;have hh:=aE h;clear h;let⟨rs,w,h⟩:=hh;let⟨h0,h5,h6,h7,h8⟩:=qd h;let⟨h1,h2,h3,h4⟩:=gi h0;have h7:bs=[]:=fK.mp h7;subst h7;have hh:=aE h6;clear h6;let⟨o,v,h6⟩:=hh;let⟨p',rfl⟩:=yw v;have hh:=aE h6;clear h6;let⟨e',rfl,h6⟩:=hh;let⟨te,pe,je⟩:=sX x h4;let⟨tq,pq,jq⟩:=sT q h5;let⟨tr,pr,jr⟩:=sX r h6;let⟨tb,pb,jb⟩:=sB b h8;let⟨tcs,pc,jc⟩:=OJ cs w;exact⟨_,λZ E=>xO (rG E (bq h1) h2 (pe Z E.e) (nh h3)) (xO (NT (pq Z E.e) (K0 (yq (pr Z E.e))) KZ) (pc Z tb E (pb Z E))),abP je jq jr jc jb⟩
end
end
end C
namespace C
open PySem PySem.Spec L2 J My
def iM(P:Program)(w:World)(K:PySem.W.Frag)(mg:Str→Option Value)(base:Heap)(fs:List Fi)(t:List FT):Prop :=
 ∀(i:Nat) fi,fs[i]?=some fi→∃F,t[i]?=some F∧lI P w K mg base fi F
structure AY (K:PySem.W.Frag)(mg:Str→Option Value)(x:Str)(st:Stmt)(ps:List Str)(df:Option Int)(f:Addr)(fd:FuncData):Prop where
 mg:mg x=some (.ref f)
 fn:zr K x st f fd
 bd:Binds K fd ps []
 Au:∀n,df=some n→∃t,Binds K fd ps [.int n t]
def kF(c:Cf)(lv:Nat)(N ps:List Str)(st:Stmt)(b:B):Bool :=
 decide ((cu st).kind=.function∧(cu st).isCoroutine=false∧(cu st).isGenerator=false∧N.Nodup∧N.take ps.length=ps ∧
  (∀x∈ps,(cu st).names.lookup x=some .local∨(cu st).names.lookup x=some .cell)∧(∀y∈(cu st).names,y.2≠.free))&&kB c lv b (cu st) N (fE st)
section
variable {P:Program}{w:World}{K:PySem.W.Frag}{mg:Str→Option Value}{base:Heap}{t:List FT}{va:List V}
def iM.nil:iM P w K mg base [] t:=λi fi h=>by simp at h
def iM.cons{fs:List Fi}{f:Fi}{F:FT}(h:iM P w K mg base fs t)(q:lI P w K mg base f F):iM P w K mg base (f::fs) (F::t)
 |0,fi,e=>by cases e;exact⟨F,rfl,q⟩
 |i+1,fi,e=>h i fi e
def ctx{bs:List String}{gs:List (Str×Gv)}{fs:List Fi}{lv:Nat}{N ps:List Str}{st:Stmt}{b:B}{qual:Str}{f:Addr}{cd:Value}{A:Around}{outer:List Env}{s:Shared}{H:Hp}{E:XK}(h:iM P w K mg base fs t)(hb:∀x∈bs,mg (Str.ofString x)=none)(hg:GV K mg va gs)(k:kF ⟨bs,gs,fs⟩ lv N ps st b=true)
  (hr:eU lv (A.deeper (PyProof.Rows.envOfC qual (cu st) s.heap.objs.size f cd))):CS ⟨bs,gs,fs⟩ lv K t va (cu st) N ((nA mK P w K mg base N qual (cu st) f cd A outer s H E).pT):=by
 let⟨k1,k2⟩:=dw k;let⟨h1,h2,h3,h4,h5,h6,h7⟩:=bq k1;exact⟨⟨rfl,rfl,rfl,rfl,hr,hb,hg,h⟩,h4,λ_=>rfl,PassesOwn.never,h1⟩
def zA{c:Cf}{lv:Nat}{N ps:List Str}{st:Stmt}{b:B}(k:kF c lv N ps st b=true):tX N ps (cu st):=by
 let⟨h1,h2,h3,h4,h5,h6,h7⟩:=bq (dw k).1;exact⟨h1,h2,h3,h4,h5,h6,h7⟩
def abY{bs:List String}{gs:List (Str×Gv)}{fs:List Fi}{lv:Nat}{N ps:List Str}{x:Str}{st:Stmt}{b:B}{f:Addr}{fd:FuncData}(h:iM P w K mg base fs t)(hb:∀x∈bs,mg (Str.ofString x)=none)(hg:GV K mg va gs){df:Option Int}(Df:AY K mg x st ps df f fd)(k:kF ⟨bs,gs,fs⟩ lv N ps st b=true) :
  lI P w K mg base ⟨x,ps.length,lv+1,none,df⟩ (.p (fn N.length (eB t b))):=by
 refine⟨rfl,f,fd,ps,?_,Df.mg,Df.fn.kp,Df.bd,Df.Au⟩;refine Df.fn.ok (zA k) (λvs H Q E h=>h.1) (λbX A outer s H vs Q E hr q=>?_);let⟨ts,p1,p2⟩:=sB (t:=t) (va:=va) (K:=K) b (dw k).2;exact⟨ts,(p1 _ (ctx h hb hg k hr)).go,KL p2 q⟩
def abZ{bs:List String}{gs:List (Str×Gv)}{fs:List Fi}{lv:Nat}{N ps:List Str}{x:Str}{st:Stmt}{b:B}{f:Addr}{fd:FuncData}(io:List Nat)(hn:io≠[])(h:iM P w K mg base fs t)(hb:∀x∈bs,mg (Str.ofString x)=none)(hg:GV K mg va gs){df:Option Int}(Df:AY K mg x st ps df f fd)(k:kF ⟨bs,gs,fs⟩ lv N ps st b=true) :
  lI P w K mg base ⟨x,ps.length,lv+1,some io,df⟩ (.io io (rB N.length io (eB t b))):=by
 refine⟨⟨rfl,hn⟩,f,fd,ps,?_,Df.mg,Df.fn.kp,Df.bd,Df.Au⟩;refine Df.fn.ok (zA k) (λvs H Q E h=>h.1) (λbX A outer s H vs Q E hr q=>?_);let⟨ts,p1,p2⟩:=sB (t:=t) (va:=va) (K:=K) b (dw k).2;exact⟨ts,(p1 _ (ctx h hb hg k hr)).go,UL p2 q⟩
def ab0{bs:List String}{gs:List (Str×Gv)}{fs:List Fi}{lv:Nat}{N ps:List Str}{x:Str}{st:Stmt}{b:B}{f:Addr}{fd:FuncData}(h:iM P w K mg base fs t)(hb:∀x∈bs,mg (Str.ofString x)=none)(hg:GV K mg va gs){df:Option Int}(Df:AY K mg x st ps df f fd)(k:kF ⟨bs,gs,fs⟩ lv N ps st b=true) :
  lI P w K mg base ⟨x,ps.length,lv+1,some [],df⟩ (.oo (lh N.length (eB t b))):=by
 refine⟨rfl,f,fd,ps,?_,Df.mg,Df.fn.kp,Df.bd,Df.Au⟩;refine Df.fn.ok (zA k) (λvs H Q E h=>h.1) (λbX A outer s H vs Q E hr q=>?_);let⟨ts,p1,p2⟩:=sB (t:=t) (va:=va) (K:=K) b (dw k).2;exact⟨ts,(p1 _ (ctx h hb hg k hr)).go,UQ p2 q⟩
end
structure Dd where
 nm:Str
 st:Stmt
 ps:List Str
 N:List Str
 lv:Nat
 io:Option (List Nat)
 b:B
 df:Option Int:=none
def pB(t:List FT)(d:Dd):FT:=match d.io with
 |none=>.p (fn d.N.length (eB t d.b))
 |some []=>.oo (lh d.N.length (eB t d.b))
 |some (i::io)=>.io (i::io) (rB d.N.length (i::io) (eB t d.b))
abbrev EL(d:Dd):Fi:=⟨d.nm,d.ps.length,d.lv+1,d.io,d.df⟩
def tab:List Dd→List FT
 |[]=>[]
 |d::ds=>pB (tab ds) d::tab ds
def yX(bs:List String)(gs:List (Str×Gv)):List Dd→Bool
 |[]=>true
 |d::ds=>kF ⟨bs,gs,ds.map EL⟩ d.lv d.N d.ps d.st d.b&&yX bs gs ds
def BA(d:Str)(s:Stmt)(ps:List Str):Prop:=∀(kV doc pm:Value) (an:Option Addr) (bX ct:Value) (us:List Value),us.length=ps.length→bindArgs (PySem.W.fnOf d d (gC s) (fE s) (cu s) .none kV doc pm an bX ct) ⟨us,[]⟩=pure (ps.zip us)
def fP{d:Str}{s:Stmt}{p0:Str}(h:∀k o p n c t u0,bindArgs (PySem.W.fnOf d d (gC s) (fE s) (cu s) .none k o p n c t) ⟨[u0],[]⟩=pure (List.zip [p0] [u0])):BA d s [p0]:=by
 intro _ _ _ _ _ _ us hl;obtain _|⟨_,us⟩:=us
 ·cases hl
 obtain _|_:=us
 ·exact h _ _ _ _ _ _ _
 ·simp at hl
def fA{d:Str}{s:Stmt}{p0 p1:Str}(h:∀k o p n c t u0 u1,bindArgs (PySem.W.fnOf d d (gC s) (fE s) (cu s) .none k o p n c t) ⟨[u0,u1],[]⟩=pure (List.zip [p0,p1] [u0,u1])):BA d s [p0,p1]:=by
 intro _ _ _ _ _ _ us hl;obtain _|⟨_,us⟩:=us
 ·cases hl
 obtain _|⟨_,us⟩:=us
 ·cases hl
 obtain _|_:=us
 ·exact h _ _ _ _ _ _ _ _
 ·simp at hl
def Rm{d:Str}{s:Stmt}{p0 p1 p2:Str}(h:∀k o p n c t u0 u1 u2,bindArgs (PySem.W.fnOf d d (gC s) (fE s) (cu s) .none k o p n c t) ⟨[u0,u1,u2],[]⟩=pure (List.zip [p0,p1,p2] [u0,u1,u2])):BA d s [p0,p1,p2]:=by
 intro _ _ _ _ _ _ us hl;obtain _|⟨_,us⟩:=us
 ·cases hl
 obtain _|⟨_,us⟩:=us
 ·cases hl
 obtain _|⟨_,us⟩:=us
 ·cases hl
 obtain _|_:=us
 ·exact h _ _ _ _ _ _ _ _ _
 ·simp at hl
def AZ{d:Str}{s:Stmt}{p0 p1 p2 p3:Str}(h:∀k o p n c t u0 u1 u2 u3,bindArgs (PySem.W.fnOf d d (gC s) (fE s) (cu s) .none k o p n c t) ⟨[u0,u1,u2,u3],[]⟩=pure (List.zip [p0,p1,p2,p3] [u0,u1,u2,u3])):BA d s [p0,p1,p2,p3]:=by
 intro _ _ _ _ _ _ us hl;obtain _|⟨_,us⟩:=us
 ·cases hl
 obtain _|⟨_,us⟩:=us
 ·cases hl
 obtain _|⟨_,us⟩:=us
 ·cases hl
 obtain _|⟨_,us⟩:=us
 ·cases hl
 obtain _|_:=us
 ·exact h _ _ _ _ _ _ _ _ _ _
 ·simp at hl
def Rn{d:Str}{s:Stmt}{p0 p1 p2 p3 p4:Str}(h:∀k o p n c t u0 u1 u2 u3 u4,bindArgs (PySem.W.fnOf d d (gC s) (fE s) (cu s) .none k o p n c t) ⟨[u0,u1,u2,u3,u4],[]⟩=pure (List.zip [p0,p1,p2,p3,p4] [u0,u1,u2,u3,u4])):BA d s [p0,p1,p2,p3,p4]:=by
 intro _ _ _ _ _ _ us hl;obtain _|⟨_,us⟩:=us
 ·cases hl
 obtain _|⟨_,us⟩:=us
 ·cases hl
 obtain _|⟨_,us⟩:=us
 ·cases hl
 obtain _|⟨_,us⟩:=us
 ·cases hl
 obtain _|⟨_,us⟩:=us
 ·cases hl
 obtain _|_:=us
 ·exact h _ _ _ _ _ _ _ _ _ _ _
 ·simp at hl
def BAd(d:Str)(s:Stmt)(ps:List Str)(n:Int):Prop:=∀(K:PySem.W.Frag) (a:Addr) (tk:Tok) (o:Value) (p:Option Addr) (k:Nat) (sl:Array (Option Value)) (kV doc pm:Value) (an:Option Addr) (bX ct:Value),K.lookup a=some ⟨o,p,.seq #[.int n tk] k,sl⟩ →
 Binds K (PySem.W.fnOf d d (gC s) (fE s) (cu s) (.ref a) kV doc pm an bX ct) ps []∧Binds K (PySem.W.fnOf d d (gC s) (fE s) (cu s) (.ref a) kV doc pm an bX ct) ps [.int n tk]
abbrev Ro(d:Str)(s:Stmt)(ps:List Str):Option Int→Prop
 |none=>BA d s ps
 |some n=>BAd d s ps n
def A4:List Dd→Prop
 |[]=>True
 |d::ds=>Ro d.nm d.st d.ps d.df∧A4 ds
def Rq(K:PySem.W.Frag)(d:Str)(s:Stmt)(dV:Value):Prop:=∃(f:Addr) (oc:Value) (od:Option Addr) (kV dc pm:Value) (an:Option Addr) (cd ct:Value) (sl:Array (Option Value)),
 PySem.W.nsIn K mainGlobals d=some (some (.ref f))∧K.lookup f=some ⟨oc,od,.func (PySem.W.fnOf d d (gC s) (fE s) (cu s) dV kV dc pm an cd ct),sl⟩∧PySem.W.codeIn K cd d=true∧PySem.W.keepIn K (.ref f)=true
abbrev DE(K:PySem.W.Frag)(d:Str)(s:Stmt):Option Int→Prop
 |none=>Rq K d s .none
 |some n=>∃(a:Addr) (tk:Tok) (o:Value) (p:Option Addr) (k:Nat) (sl:Array (Option Value)),Rq K d s (.ref a)∧K.lookup a=some ⟨o,p,.seq #[.int n tk] k,sl⟩
def adC{K:PySem.W.Frag}{d:Str}{s:Stmt}{f:Addr}{oc:Value}{od:Option Addr}{kV dc pm:Value}{an:Option Addr}{cd ct:Value}{sl:Array (Option Value)}(a:PySem.W.nsIn K mainGlobals d=some (some (.ref f)))(l:K.lookup f=some ⟨oc,od,.func (PySem.W.fnOf d d (gC s) (fE s) (cu s) .none kV dc pm an cd ct),sl⟩)(c:PySem.W.codeIn K cd d=true)(k:PySem.W.keepIn K (.ref f)=true):DE K d s none :=
 ⟨f,oc,od,kV,dc,pm,an,cd,ct,sl,a,l,c,k⟩
abbrev A5(K:PySem.W.Frag):List Dd→Prop
 |[]=>True
 |d::ds=>DE K d.nm d.st d.df∧A5 K ds
abbrev A6(K:PySem.W.Frag):List String→Prop
 |[]=>True
 |b::bs=>PySem.W.nsIn K mainGlobals (Str.ofString b)=some none∧A6 K bs
def GE(K:PySem.W.Frag)(x:Str):Gv→Prop
 |.s y=>∃tk,PySem.W.nsIn K mainGlobals x=some (some (.str y tk))
 |.t l=>∃(a:Addr) (it:Array Value) (n:Nat) (sl:Array (Option Value)),PySem.W.nsIn K mainGlobals x=some (some (.ref a))∧K.lookup a=some ⟨.type "tuple",none,.seq it n,sl⟩∧it.toList.map qX=l.map (λy=>some (V.str y))∧4≤l.length∧l.length≤1000
abbrev A7(K:PySem.W.Frag):List (Str×Gv)→Prop
 |[]=>True
 |g::gs=>GE K g.1 g.2∧A7 K gs
section
variable {P:Program}{w:World}{K:PySem.W.Frag}{mg:Str→Option Value}{base:Heap}
theorem MT{h:Heap}(X:K.In h)(G:h.Ns mainGlobals mg):∀{bs:List String},A6 K bs→∀x∈bs,mg (Str.ofString x)=none
 |[],_,_,m=>nomatch m
 |b::bs,q,x,m=>by
  rcases dQ.mp m with rfl|m
  ·exact PySem.W.mg_none_of X G q.1
  ·exact MT X G q.2 x m
theorem N5{h:Heap}(X:K.In h)(G:h.Ns mainGlobals mg):∀{gs:List (Str×Gv)},A7 K gs→∃va,GV K mg va gs
  |[],_=>⟨[],λi g e=>by simp at e⟩
  | (x,g)::gs,q=>by
    let⟨va,r⟩:=N5 X G q.2;have one:∃v u,mg x=some u∧RelV v u∧JT K (tC v) (jC g.d):=by
      cases g with
      |s y =>
        let⟨tk,e⟩:=q.1;exact⟨.str y,_,vk X G e,⟨_,rfl⟩,rg rfl⟩
      |t l =>
        let⟨a,it,n,sl,e,lk,m,hl⟩:=q.1;exact⟨.ref a,_,vk X G e,rfl,aad (XB lk m hl) λ_ _=>Io l⟩
    let⟨v,u,h1,h2,h3⟩:=one;refine⟨v::va,λi g' e=>?_⟩;cases i with
    |zero=>cases e;exact⟨v,u,rfl,h1,h2,h3⟩
    |succ i=>exact r i g' e
def ab1{h:Heap}{d:Str}{s:Stmt}{ps:List Str}{df:Option Int}(X:K.In h)(G:h.Ns mainGlobals mg)(e:DE K d s df)(b:Ro d s ps df):∃f fd,AY K mg d s ps df f fd:=by
 cases df with
 |none =>
  let⟨f,oc,od,kV,dc,pm,an,cd,ct,sl,q1,q2,q3,q4⟩:=e;exact⟨f,_,vk X G q1,⟨⟨_,_,_,_,_,_,_,_,_,_,rfl,q2,q3⟩,q4⟩,(L9 q2 q3 q4).binds b,λn z=>nomatch z⟩
 |some n =>
  let⟨a,tk,o,p,k,sD,⟨f,oc,od,kV,dc,pm,an,cd,ct,sl,q1,q2,q3,q4⟩,e⟩:=e;have z:=b K a tk o p k sD kV dc pm an cd ct e;exact⟨f,_,vk X G q1,⟨⟨_,_,_,_,_,_,_,_,_,_,rfl,q2,q3⟩,q4⟩,z.1,λm w=>by cases w;exact⟨tk,z.2⟩⟩
theorem N6{h:Heap}{bs:List String}{gs:List (Str×Gv)}{va:List V}(X:K.In h)(G:h.Ns mainGlobals mg)(hb:∀x∈bs,mg (Str.ofString x)=none)(hg:GV K mg va gs):∀{ds:List Dd},A5 K ds→A4 ds→yX bs gs ds=true→iM P w K mg base (ds.map EL) (tab ds)
 |[],_,_,_=>iM.nil
 |d::ds,q,b,k=>by
  let⟨k1,k2⟩:=dw k;have r:=N6 X G hb hg q.2 b.2 k2;let⟨f,fd,D⟩:=ab1 X G q.1 b.1;refine iM.cons r ?_;let⟨nm,st,ps,N,lv,io,bd,df⟩:=d;cases io with
  |none=>exact abY r hb hg D k1
  |some io=>cases io with
   |nil=>exact ab0 r hb hg D k1
   |cons i io=>exact abZ (i::io) (List.cons_ne_nil _ _) r hb hg D k1
def bV{d:Dd}{ds:List Dd}{t:List FT}{g:Qqq}{F:Qqk}(e:tab ds=t)(h:d.io=none)(q:eB t d.b=g)(r:fn d.N.length g=F):tab (d::ds)=.p F::t:=by
 subst e q r;show pB (tab ds) d::tab ds=_;unfold pB;rw[h]
def aaF{d:Dd}{ds:List Dd}{t:List FT}{g:Qqq}{i:Nat}{io:List Nat}{F:Qzz→Option (M×D×Qzz)}(e:tab ds=t)(h:d.io=some (i::io))(q:eB t d.b=g)(r:rB d.N.length (i::io) g=F):tab (d::ds)=.io (i::io) F::t:=by
 subst e q r;show pB (tab ds) d::tab ds=_;unfold pB;rw[h]
def Dw{d:Dd}{ds:List Dd}{t:List FT}{g:Qqq}{F:Qzz→Option D}(e:tab ds=t)(h:d.io=some [])(q:eB t d.b=g)(r:lh d.N.length g=F):tab (d::ds)=.oo F::t:=by
 subst e q r;show pB (tab ds) d::tab ds=_;unfold pB;rw[h]
def ab2 {h:Heap}{bs:List String}{gs:List (Str×Gv)}{ds:List Dd}{st:Stmt}{N:List Str}{lv:Nat}{b:B}{t:List FT}{F:Qqk}{x:Str}{fa:Addr} (X:K.In h) (G:h.Ns mainGlobals mg) (GW:mg "law" = some (.ref fa)) (hb:A6 K bs) (hg:A7 K gs) (q:A5 K (⟨"law",st,[x],N,lv,none,b,none⟩::ds)) (ba:A4 (⟨"law",st,[x],N,lv,none,b,none⟩::ds)) (k:yX bs gs (⟨"law",st,[x],N,lv,none,b,none⟩::ds)=true)
  (e:tab (⟨"law",st,[x],N,lv,none,b,none⟩::ds)=.p F::t) (hs:∀(kV doc pm:Value) (an:Option Addr) (bX ct:Value) (s:Shared) (v:Value),BindsTo s (PySem.W.fnOf "law" "law" (gC st) (fE st) (cu st) .none kV doc pm an bX ct) ⟨[v],[]⟩ [(x,v)]) :
  ∃fd:FuncData,(∀(s:Shared) (v:Value),BindsTo s fd ⟨[v],[]⟩ [(x,v)])∧∀base:Heap,K.In base→base.Ns mainGlobals mg→lZ P w K mg base mK (lv+1) fa fd [x] (p5 K 1 F):=by
 let⟨k1,k2⟩:=dw k;have hb:=MT X G hb;let⟨va,hg⟩:=N5 X G hg;let⟨⟨f,oc,od,kV,dc,pm,an,cd,ct,sl,q1,q2,q3,q4⟩,qs⟩:=q;have ef:=GW.symm.trans (vk X G q1);cases ef;refine⟨_,λs v=>hs kV dc pm an cd ct s v,λbase _ _=>?_⟩;have r:iM P w K mg base (ds.map EL) (tab ds):=N6 X G hb hg qs ba.2 k2;have ht:fn N.length (eB (tab ds) b)=F:=by
  have e:FT.p (fn N.length (eB (tab ds) b))::tab ds=.p F::t:=e;cases e;rfl
 have fk:=L9 (x := "law") (qual := "law") (st:=st) q2 q3 q4;refine fk.ok (zA k1) (λvs H Q E h=>h.1) (λbX A outer s H vs Q E hr q=>?_);let⟨ts,p1,p2⟩:=sB (t:=tab ds) (va:=va) (K:=K) b (dw k1).2;rw[←ht]at q;exact⟨ts,(p1 _ (ctx r hb hg k1 hr)).go,KL p2 q⟩
end
end C
namespace aL
open PySem PySem.Spec L2 My J
abbrev top(i:Nat):PySem.Stmt:=PySem.Challenge.pw_lazyhoist_k31_whole_wanted_or_a_way.main.body.getD i (.Pass ⟨0,0,0,0⟩)
abbrev bs:List String:=["bool", "dict", "enumerate", "int", "isinstance", "len", "list", "max", "range", "set", "sorted", "sum"]
abbrev gs:List (Str×C.Gv):=[]
abbrev t0:List C.FT:=[]
abbrev Rr:List C.Dd:=[]
def e0:C.tab Rr=t0:=rfl
def Ho:Qqq :=
 (aq (aM (jB (ae aP (ae au (jV 0) (jC (.int 0))) (jC (.str "reckon"))))
  (aF (aV (ag (ae au (jV 0) (jC (.int 2))) (ag (ae au (jV 0) (jC (.int 3))) (ag (ae au (jV 0) (jC (.int 4))) ai)))))
  aS)
 (aF (jC .non)))
def oj:Qqk:=fn 1 Ho
def d1:C.Dd:=⟨"reckoning_of",top 1,["row"],["row"],0,none,(.c (.ie (.c .eq (.ix (.v 0) (.ki 0)) (.ks "reckon")) (.o (.l (.rt (.tu (.c (.ix (.v 0) (.ki 2)) (.c (.ix (.v 0) (.ki 3)) (.c (.ix (.v 0) (.ki 4)) .n))))))) .n) (.o (.l (.rt .kn)))),none⟩
def Ru:List C.Dd:=d1::Rr
def t1:List C.FT:=.p oj::t0
def e1:C.tab Ru=t1:=C.bV e0 rfl rfl rfl
def aaG:Qqq :=
 (aq (aM (cQ (jB (ae aP (ae au (jV 0) (jC (.int 0))) (jC (.str "reckon")))) (jB (ae aP (ae au (jV 0) (jC (.int 0))) (jC (.str "copy")))))
  (aF (ae au (jV 0) (jC (.int 1))))
  aS)
 (aF (jC .non)))
def yx:Qqk:=fn 1 aaG
def d2:C.Dd:=⟨"sets",top 2,["row"],["row"],0,none,(.c (.ie (.or (.c .eq (.ix (.v 0) (.ki 0)) (.ks "reckon")) (.c .eq (.ix (.v 0) (.ki 0)) (.ks "copy"))) (.o (.l (.rt (.ix (.v 0) (.ki 1))))) .n) (.o (.l (.rt .kn)))),none⟩
def Rv:List C.Dd:=d2::Ru
def t2:List C.FT:=.p yx::t1
def e2:C.tab Rv=t2:=C.bV e1 rfl rfl rfl
def Jj:Qqq :=
 (aq (aw 2 (aC yx (ag (jV 0) ai)))
 (aF (nD (ae kY (jV 2) (jC .non)) (mO (ae aP (jV 2) (ae au (jV 1) (jC (.int 1)))) (ae aP (jV 2) (ae au (jV 1) (jC (.int 2))))))))
def qu:Qqk:=fn 3 Jj
def d3:C.Dd:=⟨"changes",top 3,["row", "reckoning"],["row", "reckoning", "name"],1,none,(.c (.l (.st 2 (.ca 0 (.c (.v 0) .n)))) (.o (.l (.rt (.an (.co .qb (.v 2) .kn) (.or (.co .eq (.v 2) (.ix (.v 1) (.ki 1))) (.co .eq (.v 2) (.ix (.v 1) (.ki 2))))))))),none⟩
def Rx:List C.Dd:=d3::Rv
def t3:List C.FT:=.p qu::t2
def e3:C.tab Rx=t3:=C.bV e2 rfl rfl rfl
def HW:Qqq :=
 (aq (aw 2 (ae au (jV 0) (jV 1)))
 (aq (aM (jB (ae aP (ae au (jV 2) (jC (.int 0))) (jC (.str "end"))))
  (aF (bP ai))
  aS)
 (aq (aM (jB (ae aP (ae au (jV 2) (jC (.int 0))) (jC (.str "go"))))
  (aF (bP (ag (ae au (jV 2) (jC (.int 1))) ai)))
  aS)
 (aq (aM (jB (ae aP (ae au (jV 2) (jC (.int 0))) (jC (.str "part"))))
  (aF (bP (ag (ae bW (jV 1) (jC (.int 1))) (ag (ae au (jV 2) (jC (.int 2))) ai))))
  aS)
 (aF (bP (ag (ae bW (jV 1) (jC (.int 1))) ai)))))))
def tm:Qqk:=fn 3 HW
def d4:C.Dd:=⟨"followers",top 5,["program", "n"],["program", "n", "row"],0,none,(.c (.l (.st 2 (.ix (.v 0) (.v 1)))) (.c (.ie (.c .eq (.ix (.v 2) (.ki 0)) (.ks "end")) (.o (.l (.rt (.li .n)))) .n) (.c (.ie (.c .eq (.ix (.v 2) (.ki 0)) (.ks "go")) (.o (.l (.rt (.li (.c (.ix (.v 2) (.ki 1)) .n))))) .n) (.c (.ie (.c .eq (.ix (.v 2) (.ki 0)) (.ks "part")) (.o (.l (.rt (.li (.c (.bo .add (.v 1) (.ki 1)) (.c (.ix (.v 2) (.ki 2)) .n)))))) .n) (.o (.l (.rt (.li (.c (.bo .add (.v 1) (.ki 1)) .n))))))))),none⟩
def Ry:List C.Dd:=d4::Rx
def t4:List C.FT:=.p tm::t3
def e4:C.tab Ry=t4:=C.bV e3 rfl rfl rfl
def Hk:Qqq :=
 (aF (cv (cf (ag (aK bG (ag (jV 0) ai)) ai)) [0] dN (aC tm (ag (jV 1) (ag (jV 0) ai)))))
def qi:Qqk:=fn 1 Hk
def d5:C.Dd:=⟨"all_followers",top 6,["program"],["program"],1,none,(.o (.l (.rt (.cp (.r1 (.c (.fb .len (.c (.v 0) .n)) .n)) [0] .y (.ca 0 (.c (.v 1) (.c (.v 0) .n))))))),none⟩
def Rz:List C.Dd:=d5::Ry
def t5:List C.FT:=.p qi::t4
def e5:C.tab Rz=t5:=C.bV e4 rfl rfl rfl
def tF:Qqq :=
 (cJ 1 (aV (ag (jV 2) (ag (jV 4) ai))))
def B7:Qqq :=
 (bT 3 (aT (bF (jV 3)) (gN 4)
  tF))
def J0:Qqq :=
 (aq (aw 1 (bP (ag (aV (ag (de gQ (jC (.int 1))) (ag (jC (.int 0)) ai))) ai)))
 (aq (aT (gb (ag (aC qi (ag (jV 0) ai)) ai)) (gT 2 (bR (gN 2) (bR (gN 3) dJ)))
  B7)
 (aF (jV 1))))
def xQ:Qqk:=fn 5 J0
def d6:C.Dd:=⟨"places",top 7,["program"],["program", "told", "n", "targets", "m"],2,none,(.c (.l (.st 1 (.li (.c (.tu (.c (.uo .neg (.ki 1)) (.c (.ki 0) .n))) .n)))) (.c (.fo (.en (.c (.ca 0 (.c (.v 0) .n)) .n)) (.t 2 (.c (.n 2) (.c (.n 3) .n))) (.o (.fz 3 (.fo (.l (.v 3)) (.n 4) (.o (.l (.ap 1 (.tu (.c (.v 2) (.c (.v 4) .n)))))))))) (.o (.l (.rt (.v 1)))))),none⟩
def RA:List C.Dd:=d6::Rz
def t6:List C.FT:=.p xQ::t5
def e6:C.tab RA=t6:=C.bV e5 rfl rfl rfl
def wU:Qqq :=
 (aq (aw 3 (aC oj (ag (jV 2) ai)))
 (aM (jB (ae kY (jV 3) (jC .non)))
  (m9 1 (jV 3) (jC (.bl true)))
  aS))
def HD:Qqq :=
 (aq (aw 1 uI)
 (aq (bT 0 (aT (bF (jV 0)) (gN 2)
  wU))
 (aF (aK uw (ag (jV 1) ai)))))
def ou:Qqk:=fn 4 HD
def d7:C.Dd:=⟨"reckonings",top 8,["program"],["program", "told", "row", "reckoning"],1,none,(.c (.l (.st 1 .dT)) (.c (.fz 0 (.fo (.l (.v 0)) (.n 2) (.c (.l (.st 3 (.ca 5 (.c (.v 2) .n)))) (.o (.ie (.c .qb (.v 3) .kn) (.o (.l (.tp 1 (.v 3) (.kb true)))) .n))))) (.o (.l (.rt (.fb .yV (.c (.v 1) .n))))))),none⟩
def RB:List C.Dd:=d7::RA
def t7:List C.FT:=.p ou::t6
def e7:C.tab RB=t7:=C.bV e6 rfl rfl rfl
def tG:Qqq :=
 (yT 1 (jV 4) (jV 2))
def B8:Qqq :=
 (bT 3 (aT (bF (jV 3)) (gN 4)
  tG))
def J1:Qqq :=
 (aq (yS 1 (cf (ag (aK bG (ag (jV 0) ai)) ai)))
 (aq (bT 0 (aT (gb (ag (jV 0) ai)) (gT 2 (bR (gN 2) (bR (gN 3) dJ)))
  B8))
 (aF (jV 1))))
def xR:Qqk:=fn 5 J1
def d8:C.Dd:=⟨"turned",top 9,["steps"],["steps", "back", "n", "targets", "m"],0,none,(.c (.l (.ne 1 (.r1 (.c (.fb .len (.c (.v 0) .n)) .n)))) (.c (.fz 0 (.fo (.en (.c (.v 0) .n)) (.t 2 (.c (.n 2) (.c (.n 3) .n))) (.o (.fz 3 (.fo (.l (.v 3)) (.n 4) (.o (.l (.na 1 (.v 4) (.v 2))))))))) (.o (.l (.rt (.v 1)))))),none⟩
def RC:List C.Dd:=d8::RB
def t8:List C.FT:=.p xR::t7
def e8:C.tab RC=t8:=C.bV e7 rfl rfl rfl
def xu:Qqq :=
 (aM (jB (jV 3))
  (aw 1 (ae rq (jV 1) (ae oV (jC (.int 1)) (jV 2))))
  aS)
def Jk:Qqq :=
 (aq (aw 1 (jC (.int 0)))
 (aq (bT 0 (aT (gb (ag (jV 0) ai)) (gT 2 (bR (gN 2) (bR (gN 3) dJ)))
  xu))
 (aF (jV 1))))
def tM:Qqk:=fn 4 Jk
def d9:C.Dd:=⟨"bits_of",top 11,["truths"],["truths", "bits", "k", "there"],0,none,(.c (.l (.st 1 (.ki 0))) (.c (.fz 0 (.fo (.en (.c (.v 0) .n)) (.t 2 (.c (.n 2) (.c (.n 3) .n))) (.o (.ie (.b (.v 3)) (.o (.l (.st 1 (.bo .bor (.v 1) (.bo .shl (.ki 1) (.v 2)))))) .n)))) (.o (.l (.rt (.v 1)))))),none⟩
def RD:List C.Dd:=d9::RC
def t9:List C.FT:=.p tM::t8
def e9:C.tab RD=t9:=C.bV e8 rfl rfl rfl
def HX:Qqq :=
 (aF (aC tM (ag (cv (bF (aC ou (ag (jV 0) ai))) [] dN (jC (.bl true))) ai)))
def tD:Qqk:=fn 1 HX
def A8:C.Dd:=⟨"every_bit",top 12,["program"],["program"],2,none,(.o (.l (.rt (.ca 0 (.c (.cp (.l (.ca 2 (.c (.v 0) .n))) [] .y (.kb true)) .n))))),none⟩
def OL:List C.Dd:=A8::RD
def RH:List C.FT:=.p tD::t9
def e10:C.tab OL=RH:=C.bV e9 rfl rfl rfl
def wC:Qqq :=
 (m9 1 (jV 3) (ae oV (jC (.int 1)) (jV 2)))
def Hl:Qqq :=
 (aq (aw 1 uI)
 (aq (aT (gb (ag (aC ou (ag (jV 0) ai)) ai)) (gT 2 (bR (gN 2) (bR (gN 3) dJ)))
  wC)
 (aF (cv (bF (jV 0)) [1] dN (uv (jV 1) (aC oj (ag (jV 0) ai)) (jC (.int 0)))))))
def wM:Qqk:=fn 4 Hl
def A9:C.Dd:=⟨"reckoned_bits",top 13,["program"],["program", "by_reckoning", "k", "reckoning"],2,none,(.c (.l (.st 1 .dT)) (.c (.fo (.en (.c (.ca 3 (.c (.v 0) .n)) .n)) (.t 2 (.c (.n 2) (.c (.n 3) .n))) (.o (.l (.tp 1 (.v 3) (.bo .shl (.ki 1) (.v 2)))))) (.o (.l (.rt (.cp (.l (.v 0)) [1] .y (.v3 (.v 1) (.ca 9 (.c (.v 0) .n)) (.ki 0)))))))),none⟩
def OO:List C.Dd:=A9::OL
def RJ:List C.FT:=.p wM::RH
def e11:C.tab OO=RJ:=C.bV e10 rfl rfl rfl
def wG:Qqq :=
 (aq (aw 5 (aC yx (ag (jV 4) ai)))
 (aq (aM (jB (fX true (jV 5) (jV 2)))
  (bT 1 (k5 2 (jV 5) (aC tM (ag (cv (bF (jV 1)) [4] dN (aC qu (ag (jV 1) (ag (jV 0) ai)))) ai))))
  aS)
 (cJ 3 (oO (jV 2) (jV 5)))))
def Hq:Qqq :=
 (aq (aw 1 (aC ou (ag (jV 0) ai)))
 (aq (aw 2 ur)
 (aq (aw 3 (bP ai))
 (aq (bT 0 (aT (bF (jV 0)) (gN 4)
  wG))
 (aF (jV 3))))))
def wV:Qqk:=fn 6 Hq
def Ba:C.Dd:=⟨"changed_bits",top 14,["program"],["program", "told", "by_name", "bits", "row", "name"],2,none,(.c (.l (.st 1 (.ca 4 (.c (.v 0) .n)))) (.c (.l (.st 2 .dK)) (.c (.l (.st 3 (.li .n))) (.c (.fz 0 (.fo (.l (.v 0)) (.n 4) (.c (.l (.st 5 (.ca 9 (.c (.v 4) .n)))) (.c (.ie (.d true (.v 5) (.v 2)) (.o (.fz 1 (.l (.dp 2 (.v 5) (.ca 2 (.c (.cp (.l (.v 1)) [4] .y (.ca 8 (.c (.v 1) (.c (.v 0) .n)))) .n)))))) .n) (.o (.l (.ap 3 (.dg (.v 2) (.v 5))))))))) (.o (.l (.rt (.v 3)))))))),none⟩
def OQ:List C.Dd:=Ba::OO
def RK:List C.FT:=.p wV::RJ
def e12:C.tab OQ=RK:=C.bV e11 rfl rfl rfl
def tH:Qqq :=
 (aq (aw 7 (ae rq (ae au (jV 3) (jV 6)) (ae gD (ae au (jV 3) (jV 5)) (ae au (jV 2) (jV 6)))))
 (aM (jB (ae kg (jV 7) (ae au (jV 3) (jV 6))))
  (aq (fS 3 (jV 6) (jV 7))
 (cJ 4 (jV 6)))
  aS))
def B9:Qqq :=
 (aq (uU 5 4)
 (aT (bF (ae au (jV 0) (jV 5))) (gN 6)
  tH))
def tI:Qqx :=
 (jB (ae iU (aK bG (ag (jV 4) ai)) (jC (.int 0))))
def J2:Qqq :=
 (aq (aw 3 (aK uH (ag (jV 1) ai)))
 (aq (aw 4 (Av (ag (aK bG (ag (jV 1) ai)) ai)))
 (aq (ic tI
  B9)
 (aF (jV 3)))))
def xS:Qqk:=fn 8 J2
def Bb:C.Dd:=⟨"spread",top 15,["steps", "made", "passed"],["steps", "made", "passed", "told", "waiting", "n", "m", "more"],0,none,(.c (.l (.st 3 (.fb .list (.c (.v 1) .n)))) (.c (.l (.st 4 (.lr (.c (.fb .len (.c (.v 1) .n)) .n)))) (.c (.wh (.c .gt (.fb .len (.c (.v 4) .n)) (.ki 0)) (.c (.l (.po 5 4)) (.o (.fo (.l (.ix (.v 0) (.v 5))) (.n 6) (.c (.l (.st 7 (.bo .bor (.ix (.v 3) (.v 6)) (.bo .band (.ix (.v 3) (.v 5)) (.ix (.v 2) (.v 6)))))) (.o (.ie (.c .ne (.v 7) (.ix (.v 3) (.v 6))) (.c (.l (.si 3 (.v 6) (.v 7))) (.o (.l (.ap 4 (.v 6))))) .n))))))) (.o (.l (.rt (.v 3))))))),none⟩
def OS:List C.Dd:=Bb::OQ
def RL:List C.FT:=.p xS::RK
def e13:C.tab OS=RL:=C.bV e12 rfl rfl rfl
def qj:Qqq :=
 (aM (dm (jB (fX true (jV 6) (jV 3))) (eY (jB (ae au (jV 2) (jV 6)))))
  (aq (k5 3 (jV 6) (jV 5))
 (cJ 4 (jV 6)))
  aS)
def wW:Qqq :=
 (aT (bF (ae au (jV 0) (jV 5))) (gN 6)
  qj)
def HF:Qqq :=
 (aq (aw 4 (bP ai))
 (aq (bT 1 (aT (bF (jV 1)) (gN 5)
  wW))
 (aF (jV 4))))
def xk:Qzz→Option (M×D×Qzz):=rB 7 [3] HF
def Bc:C.Dd:=⟨"next_layer",top 18,["steps", "layer", "barred", "came_from"],["steps", "layer", "barred", "came_from", "fresh", "n", "m"],0,some [3],(.c (.l (.st 4 (.li .n))) (.c (.fz 1 (.fo (.l (.v 1)) (.n 5) (.o (.fo (.l (.ix (.v 0) (.v 5))) (.n 6) (.o (.ie (.an (.d true (.v 6) (.v 3)) (.nt (.b (.ix (.v 2) (.v 6))))) (.c (.l (.dp 3 (.v 6) (.v 5))) (.o (.l (.ap 4 (.v 6))))) .n)))))) (.o (.l (.rt (.v 4)))))),none⟩
def OU:List C.Dd:=Bc::OS
def RM:List C.FT:=.io [3] xk::RL
def e14:C.tab OU=RM:=C.aaF e13 rfl rfl rfl
def B4:Qqq :=
 (aq (cJ 2 (jV 1))
 (aw 1 (oO (jV 0) (jV 1))))
def sY:Qqx :=
 (jB (ae kY (jV 1) (jC .non)))
def Iu:Qqq :=
 (aq (aw 2 (bP ai))
 (aq (ic sY
  B4)
 (aq (zo 2)
 (aF (jV 2)))))
def xB:Qqk:=fn 3 Iu
def Be:C.Dd:=⟨"way_back",top 19,["came_from", "n"],["came_from", "n", "way"],0,none,(.c (.l (.st 2 (.li .n))) (.c (.wh (.c .qb (.v 1) .kn) (.c (.l (.ap 2 (.v 1))) (.o (.l (.st 1 (.dg (.v 0) (.v 1))))))) (.c (.l (.rv 2)) (.o (.l (.rt (.v 2))))))),none⟩
def OV:List C.Dd:=Be::OU
def RN:List C.FT:=.p xB::RM
def e15:C.tab OV=RN:=C.bV e14 rfl rfl rfl
def sJ:Qqq :=
 (aM (jB (ae au (jV 2) (jV 6)))
  (aF (aC xB (ag (jV 4) (ag (jV 6) ai))))
  aS)
def wH:Qqq :=
 (aq (bT 5 (aT (bF (jV 5)) (gN 6)
  sJ))
 (yp 5 [3] [4] [(0,0),(1,5),(2,3),(3,4)] xk (ag (jV 0) (ag (jV 5) (ag (jV 3) (ag (jV 4) ai))))))
def sM:Qqx :=
 (jB (ae iU (aK bG (ag (jV 5) ai)) (jC (.int 0))))
def Hr:Qqq :=
 (aq (aM (jB (ae au (jV 3) (jV 1)))
  (aF (jC .non))
  aS)
 (aq (aw 4 (yR (jV 1) (jC .non)))
 (aq (aw 5 (bP (ag (jV 1) ai)))
 (aq (ic sM
  wH)
 (aF (jC .non))))))
def ot:Qqk:=fn 7 Hr
def Bf:C.Dd:=⟨"shortest_way",top 17,["steps", "start", "goals", "barred"],["steps", "start", "goals", "barred", "came_from", "layer", "n"],1,none,(.c (.ie (.b (.ix (.v 3) (.v 1))) (.o (.l (.rt .kn))) .n) (.c (.l (.st 4 (.d1 (.v 1) .kn))) (.c (.l (.st 5 (.li (.c (.v 1) .n)))) (.c (.wh (.c .gt (.fb .len (.c (.v 5) .n)) (.ki 0)) (.c (.fz 5 (.fo (.l (.v 5)) (.n 6) (.o (.ie (.b (.ix (.v 2) (.v 6))) (.o (.l (.rt (.ca 0 (.c (.v 4) (.c (.v 6) .n)))))) .n)))) (.o (.l (.iS 5 1 [4] (.c (.v 0) (.c (.v 5) (.c (.v 3) (.c (.v 4) .n))))))))) (.o (.l (.rt .kn))))))),none⟩
def OW:List C.Dd:=Bf::OV
def RP:List C.FT:=.p ot::RN
def e16:C.tab OW=RP:=C.bV e15 rfl rfl rfl
def wD:Qqq :=
 (cJ 4 (rj (jB (ae aP (ae au (jV 6) (jC (.int 0))) (jC (.str "end")))) (ae au (jV 2) (jV 5)) (ae gD (ae au (jV 2) (jV 5)) (ae au (jV 3) (jV 5)))))
def Hm:Qqq :=
 (aq (aw 1 (aC tD (ag (jV 0) ai)))
 (aq (aw 2 (cv (bF (aC wM (ag (jV 0) ai))) [1] dN (ae gD (jV 1) (de nF (jV 0)))))
 (aq (aw 3 (aC wV (ag (jV 0) ai)))
 (aq (aw 4 (bP ai))
 (aq (bT 0 (aT (gb (ag (jV 0) ai)) (gT 2 (bR (gN 5) (bR (gN 6) dJ)))
  wD))
 (aF (aC xS (ag (aC xR (ag (aC qi (ag (jV 0) ai)) ai)) (ag (jV 4) (ag (jV 2) ai))))))))))
def wN:Qqk:=fn 7 Hm
def Bg:C.Dd:=⟨"unwanted_bits",top 22,["program"],["program", "every", "passed", "stopping", "made", "n", "row"],3,none,(.c (.l (.st 1 (.ca 6 (.c (.v 0) .n)))) (.c (.l (.sc 2 (.l (.ca 5 (.c (.v 0) .n))) [1] .y (.bo .band (.v 1) (.uo .inv (.v 0))))) (.c (.l (.st 3 (.ca 4 (.c (.v 0) .n)))) (.c (.l (.st 4 (.li .n))) (.c (.fz 0 (.fo (.en (.c (.v 0) .n)) (.t 2 (.c (.n 5) (.c (.n 6) .n))) (.o (.l (.ap 4 (.ie (.c .eq (.ix (.v 6) (.ki 0)) (.ks "end")) (.ix (.v 2) (.v 5)) (.bo .band (.ix (.v 2) (.v 5)) (.ix (.v 3) (.v 5))))))))) (.o (.l (.rt (.ca 3 (.c (.ca 8 (.c (.ca 11 (.c (.v 0) .n)) .n)) (.c (.v 4) (.c (.v 2) .n)))))))))))),none⟩
def OX:List C.Dd:=Bg::OW
def RQ:List C.FT:=.p wN::RP
def e17:C.tab OX=RQ:=C.bV e16 rfl rfl rfl
def xC:Qqq :=
 (m9 3 (jV 4) (ae gD (jV 1) (de nF (ae au (jV 2) (ae au (jV 4) (jC (.int 1)))))))
def J3:Qqq :=
 (aq (aw 1 (aC tD (ag (jV 0) ai)))
 (aq (aw 2 (aC wN (ag (jV 0) ai)))
 (aq (aw 3 uI)
 (aq (aT (bF (aC xQ (ag (jV 0) ai))) (gN 4)
  xC)
 (aF (jV 3))))))
def tU:Qqk:=fn 5 J3
def Bi:C.Dd:=⟨"wanted",top 21,["program"],["program", "every", "missing", "told", "place"],4,none,(.c (.l (.st 1 (.ca 7 (.c (.v 0) .n)))) (.c (.l (.st 2 (.ca 0 (.c (.v 0) .n)))) (.c (.l (.st 3 .dT)) (.c (.fo (.l (.ca 11 (.c (.v 0) .n))) (.n 4) (.o (.l (.tp 3 (.v 4) (.bo .band (.v 1) (.uo .inv (.ix (.v 2) (.ix (.v 4) (.ki 1))))))))) (.o (.l (.rt (.v 3)))))))),none⟩
def OY:List C.Dd:=Bi::OX
def RT:List C.FT:=.p tU::RQ
def e18:C.tab OY=RT:=C.bV e17 rfl rfl rfl
def Iw:Qqq :=
 (aq (aw 3 (ae au (aC ou (ag (jV 0) ai)) (jV 1)))
 (aq (bT 0 (aw 4 (cv (bF (jV 0)) [3] dN (mO (ae aP (ae au (jV 0) (jC (.int 0))) (jC (.str "end"))) (aC qu (ag (jV 0) (ag (jV 1) ai)))))))
 (aq (bT 0 (aw 5 (cv (bF (jV 0)) [3] dN (ae u5 (aC oj (ag (jV 0) ai)) (jV 1)))))
 (aF (aC ot (ag (aC qi (ag (jV 0) ai)) (ag (ae au (jV 2) (jC (.int 1))) (ag (jV 4) (ag (jV 5) ai)))))))))
def qq:Qqk:=fn 6 Iw
def Bj:C.Dd:=⟨"unwanted",top 23,["program", "k", "place"],["program", "k", "place", "reckoning", "goals", "barred"],2,none,(.c (.l (.st 3 (.ix (.ca 11 (.c (.v 0) .n)) (.v 1)))) (.c (.fz 0 (.l (.sc 4 (.l (.v 0)) [3] .y (.or (.co .eq (.ix (.v 0) (.ki 0)) (.ks "end")) (.ca 15 (.c (.v 0) (.c (.v 1) .n))))))) (.c (.fz 0 (.l (.sc 5 (.l (.v 0)) [3] .y (.co .AJ (.ca 17 (.c (.v 0) .n)) (.v 1))))) (.o (.l (.rt (.ca 2 (.c (.ca 13 (.c (.v 0) .n)) (.c (.ix (.v 2) (.ki 1)) (.c (.v 4) (.c (.v 5) .n))))))))))),none⟩
def OZ:List C.Dd:=Bj::OY
def RV:List C.FT:=.p qq::RT
def e19:C.tab OZ=RV:=C.bV e18 rfl rfl rfl
def Iy:Qqq :=
 (aq (aM (jB (ae gx (jV 1) (aK bG (ag (jV 0) ai))))
  (aF (ae au (jV 0) (jV 1)))
  aS)
 (aF (ae bW (ae fW (jV 1) (jC (.int 7919))) (jC (.int 11)))))
def ky:Qqk:=fn 2 Iy
def Bl:C.Dd:=⟨"_law_cell",top 25,["_law_script", "_law_k"],["_law_script", "_law_k"],0,none,(.c (.ie (.c .lt (.v 1) (.fb .len (.c (.v 0) .n))) (.o (.l (.rt (.ix (.v 0) (.v 1))))) .n) (.o (.l (.rt (.bo .add (.bo .mul (.v 1) (.ki 7919)) (.ki 11)))))),none⟩
def O4:List C.Dd:=Bl::OZ
def RW:List C.FT:=.p ky::RV
def e20:C.tab O4=RW:=C.bV e19 rfl rfl rfl
def HY:Qqq :=
 (aF (ae bf (ae fW (ae bW (ae bW (jV 0) (ae fW (jC (.int 7)) (jV 1))) (jC (.int 11))) (jC (.int 2862933555777941757))) (jC (.int 999999999999999989))))
def ku:Qqk:=fn 2 HY
def Bm:C.Dd:=⟨"_law_mixed",top 26,["_law_cell_here", "_law_k"],["_law_cell_here", "_law_k"],0,none,(.o (.l (.rt (.bo .mod (.bo .mul (.bo .add (.bo .add (.v 0) (.bo .mul (.ki 7) (.v 1))) (.ki 11)) (.ki 2862933555777941757)) (.ki 999999999999999989))))),none⟩
def O6:List C.Dd:=Bm::O4
def RX:List C.FT:=.p ku::RW
def e21:C.tab O6=RX:=C.bV e20 rfl rfl rfl
def Hu:Qqq :=
 (aF (ae aP (ae bf (aC ky (ag (jV 0) (ag (jC (.int 0)) ai))) (jC (.int 2))) (jC (.int 1))))
def qk:Qqk:=fn 1 Hu
def Bn:C.Dd:=⟨"_law_is_free",top 27,["_law_script"],["_law_script"],1,none,(.o (.l (.rt (.co .eq (.bo .mod (.ca 1 (.c (.v 0) (.c (.ki 0) .n))) (.ki 2)) (.ki 1))))),none⟩
def O7:List C.Dd:=Bn::O6
def RZ:List C.FT:=.p qk::RX
def e22:C.tab O7=RZ:=C.bV e21 rfl rfl rfl
def sR:Qqq :=
 (aq (aw 8 (ae bW (ae cC (ae cC (jV 0) (jC (.int 192))) (ae bW (jV 7) (jC (.int 1)))) (ae fW (jC (.int 5)) (jV 7))))
 (aM (cQ (jB (ae aP (jV 7) (jV 3))) (jB (ae aP (jV 7) (jC (.int 0)))))
  (aw 6 (ae bW (jV 6) (ae au (jV 1) (ae bf (ae bW (jV 8) (ae fW (jV 5) (aK nE (ag (ae aP (jV 7) (jV 3)) ai)))) (jC (.int 26))))))
  (aw 6 (ae bW (jV 6) (ae au (ae bW (jV 1) (jC (.str "0123456789"))) (ae bf (jV 8) (jC (.int 36))))))))
def w9:Qqq :=
 (aq (aw 6 (jC (.str "")))
 (aq (aT (cf (ag (jV 2) ai)) (gN 7)
  sR)
 (aq (aM (jB (ae (eZ false) (jV 6) (aV (ag (jC (.str "say")) (ag (jC (.str "go")) (ag (jC (.str "part")) (ag (jC (.str "end")) ai)))))))
  (aw 6 (ae bW (jV 6) (jC (.str "1"))))
  aS)
 (cJ 4 (jV 6)))))
def HZ:Qqq :=
 (aq (aw 1 (jC (.str "abcdefghijklmnopqrstuvwxyz")))
 (aq (aw 0 (aC ku (ag (jV 0) (ag (jC (.int 3)) ai))))
 (aq (aw 2 (ae bW (jC (.int 1)) (ae bf (jV 0) (jC (.int 8)))))
 (aq (aw 3 (ae bf (ae cC (jV 0) (jC (.int 8))) (jV 2)))
 (aq (aw 4 (bP ai))
 (aq (aT (cf (ag (ae bW (jC (.int 3)) (ae bf (ae cC (jV 0) (jC (.int 64))) (jC (.int 3)))) ai)) (gN 5)
  w9)
 (aF (jV 4))))))))
def qm:Qqk:=fn 9 HZ
def Bp:C.Dd:=⟨"_law_names",top 28,["_law_cell_here"],["_law_cell_here", "_law_signs", "_law_size", "_law_at", "_law_names_here", "_law_k", "_law_name", "_law_j", "_law_step"],1,none,(.c (.l (.st 1 (.ks "abcdefghijklmnopqrstuvwxyz"))) (.c (.l (.st 0 (.ca 1 (.c (.v 0) (.c (.ki 3) .n))))) (.c (.l (.st 2 (.bo .add (.ki 1) (.bo .mod (.v 0) (.ki 8))))) (.c (.l (.st 3 (.bo .mod (.bo .div (.v 0) (.ki 8)) (.v 2)))) (.c (.l (.st 4 (.li .n))) (.c (.fo (.r1 (.c (.bo .add (.ki 3) (.bo .mod (.bo .div (.v 0) (.ki 64)) (.ki 3))) .n)) (.n 5) (.c (.l (.st 6 (.ks ""))) (.c (.fo (.r1 (.c (.v 2) .n)) (.n 7) (.c (.l (.st 8 (.bo .add (.bo .div (.bo .div (.v 0) (.ki 192)) (.bo .add (.v 7) (.ki 1))) (.bo .mul (.ki 5) (.v 7))))) (.o (.ie (.or (.c .eq (.v 7) (.v 3)) (.c .eq (.v 7) (.ki 0))) (.o (.l (.st 6 (.bo .add (.v 6) (.ix (.v 1) (.bo .mod (.bo .add (.v 8) (.bo .mul (.v 5) (.fb .int (.c (.co .eq (.v 7) (.v 3)) .n)))) (.ki 26))))))) (.o (.l (.st 6 (.bo .add (.v 6) (.ix (.bo .add (.v 1) (.ks "0123456789")) (.bo .mod (.v 8) (.ki 36))))))))))) (.c (.ie (.c .n9 (.v 6) (.tu (.c (.ks "say") (.c (.ks "go") (.c (.ks "part") (.c (.ks "end") .n)))))) (.o (.l (.st 6 (.bo .add (.v 6) (.ks "1"))))) .n) (.o (.l (.ap 4 (.v 6)))))))) (.o (.l (.rt (.v 4)))))))))),none⟩
def O8:List C.Dd:=Bp::O7
def R0:List C.FT:=.p qm::RZ
def e23:C.tab O8=R0:=C.bV e22 rfl rfl rfl
def Hv:Qqq :=
 (aq (aM (jB (ae aP (ae bf (jV 0) (jC (.int 6))) (jC (.int 0))))
  (aF (ae au (bP (ag (jC (.int 0)) (ag (jC (.int 1)) (ag (ae jf (ae jQ (jC (.int 2)) (jC (.int 64))) (jC (.int 1))) (ag (ae bf (ae fW (ae cC (jV 0) (jC (.int 24))) (jC (.int 48271))) (ae jQ (jC (.int 2)) (jC (.int 64)))) ai))))) (ae bf (ae cC (jV 0) (jC (.int 6))) (jC (.int 4)))))
  aS)
 (aF (ae au (jV 1) (ae bf (ae cC (jV 0) (jC (.int 6))) (aK bG (ag (jV 1) ai))))))
def jE:Qqk:=fn 2 Hv
def Bq:C.Dd:=⟨"_law_operand",top 29,["_law_cell_here", "_law_names_here"],["_law_cell_here", "_law_names_here"],0,none,(.c (.ie (.c .eq (.bo .mod (.v 0) (.ki 6)) (.ki 0)) (.o (.l (.rt (.ix (.li (.c (.ki 0) (.c (.ki 1) (.c (.bo .sub (.bo .pow (.ki 2) (.ki 64)) (.ki 1)) (.c (.bo .mod (.bo .mul (.bo .div (.v 0) (.ki 24)) (.ki 48271)) (.bo .pow (.ki 2) (.ki 64))) .n))))) (.bo .mod (.bo .div (.v 0) (.ki 6)) (.ki 4)))))) .n) (.o (.l (.rt (.ix (.v 1) (.bo .mod (.bo .div (.v 0) (.ki 6)) (.fb .len (.c (.v 1) .n)))))))),none⟩
def O9:List C.Dd:=Bq::O8
def R6:List C.FT:=.p jE::R0
def e24:C.tab O9=R6:=C.bV e23 rfl rfl rfl
def xa:Qqq :=
 (aq (aw 7 (aC ku (ag (jV 4) (ag (jV 6) ai))))
 (aq (aw 8 (aC ku (ag (jV 4) (ag (ae bW (jV 6) (jC (.int 20))) ai))))
 (aq (aw 9 (ae bf (aC ku (ag (jV 4) (ag (ae bW (jV 6) (jC (.int 40))) ai))) (jC (.int 8))))
 (aq (aM (jB (aC qk (ag (jV 0) ai)))
  (aq (aw 7 (ae bf (jV 4) (ae jQ (jC (.int 10)) (jC (.int 21)))))
 (aq (aw 8 (ae bf (ae cC (jV 4) (ae jQ (jC (.int 10)) (jC (.int 21)))) (ae jQ (jC (.int 10)) (jC (.int 21)))))
 (aq (aw 9 (ae bf (ae cC (jV 4) (ae jQ (jC (.int 10)) (jC (.int 42)))) (jC (.int 8))))
 (aw 4 (ae cC (jV 4) (ae fW (jC (.int 8)) (ae jQ (jC (.int 10)) (jC (.int 42)))))))))
  aS)
 (cJ 5 (aV (ag (ae au (jC (.str "+-*&|^<=")) (jV 9)) (ag (aC jE (ag (jV 7) (ag (jV 1) ai))) (ag (aC jE (ag (jV 8) (ag (jV 1) ai))) ai)))))))))
def H0:Qqq :=
 (aq (aw 2 (aC ky (ag (jV 0) (ag (jC (.int 1)) ai))))
 (aq (aw 3 (ae bW (jC (.int 1)) (ae bf (jV 2) (jC (.int 4)))))
 (aq (aM (jB (ae aP (ae bf (ae cC (jV 2) (jC (.int 4))) (jC (.int 6))) (jC (.int 1))))
  (aw 3 (jC (.int 12)))
  aS)
 (aq (aw 4 (ae cC (jV 2) (jC (.int 24))))
 (aq (aw 5 (bP ai))
 (aq (aT (cf (ag (jV 3) ai)) (gN 6)
  xa)
 (aq (aM (dm (jB (ae aP (aK bG (ag (jV 5) ai)) (jC (.int 2)))) (jB (ae aP (ae bf (ae cC (jV 2) (jC (.int 4))) (jC (.int 3))) (jC (.int 0)))))
  (fS 5 (jC (.int 1)) (aV (ag (ae au (ae au (jV 5) (jC (.int 0))) (jC (.int 0))) (ag (ae au (ae au (jV 5) (jC (.int 0))) (jC (.int 2))) (ag (ae au (ae au (jV 5) (jC (.int 0))) (jC (.int 1))) ai)))))
  aS)
 (aF (jV 5)))))))))
def qo:Qqk:=fn 10 H0
def Br:C.Dd:=⟨"_law_deeds",top 30,["_law_script", "_law_names_here"],["_law_script", "_law_names_here", "_law_cell_here", "_law_many", "_law_rest", "_law_found", "_law_k", "_law_one", "_law_other", "_law_sign"],2,none,(.c (.l (.st 2 (.ca 4 (.c (.v 0) (.c (.ki 1) .n))))) (.c (.l (.st 3 (.bo .add (.ki 1) (.bo .mod (.v 2) (.ki 4))))) (.c (.ie (.c .eq (.bo .mod (.bo .div (.v 2) (.ki 4)) (.ki 6)) (.ki 1)) (.o (.l (.st 3 (.ki 12)))) .n) (.c (.l (.st 4 (.bo .div (.v 2) (.ki 24)))) (.c (.l (.st 5 (.li .n))) (.c (.fo (.r1 (.c (.v 3) .n)) (.n 6) (.c (.l (.st 7 (.ca 3 (.c (.v 4) (.c (.v 6) .n))))) (.c (.l (.st 8 (.ca 3 (.c (.v 4) (.c (.bo .add (.v 6) (.ki 20)) .n))))) (.c (.l (.st 9 (.bo .mod (.ca 3 (.c (.v 4) (.c (.bo .add (.v 6) (.ki 40)) .n))) (.ki 8)))) (.c (.ie (.b (.ca 2 (.c (.v 0) .n))) (.c (.l (.st 7 (.bo .mod (.v 4) (.bo .pow (.ki 10) (.ki 21))))) (.c (.l (.st 8 (.bo .mod (.bo .div (.v 4) (.bo .pow (.ki 10) (.ki 21))) (.bo .pow (.ki 10) (.ki 21))))) (.c (.l (.st 9 (.bo .mod (.bo .div (.v 4) (.bo .pow (.ki 10) (.ki 42))) (.ki 8)))) (.o (.l (.st 4 (.bo .div (.v 4) (.bo .mul (.ki 8) (.bo .pow (.ki 10) (.ki 42)))))))))) .n) (.o (.l (.ap 5 (.tu (.c (.ix (.ks "+-*&|^<=") (.v 9)) (.c (.ca 0 (.c (.v 7) (.c (.v 1) .n))) (.c (.ca 0 (.c (.v 8) (.c (.v 1) .n))) .n)))))))))))) (.c (.ie (.an (.c .eq (.fb .len (.c (.v 5) .n)) (.ki 2)) (.c .eq (.bo .mod (.bo .div (.v 2) (.ki 4)) (.ki 3)) (.ki 0))) (.o (.l (.si 5 (.ki 1) (.tu (.c (.ix (.ix (.v 5) (.ki 0)) (.ki 0)) (.c (.ix (.ix (.v 5) (.ki 0)) (.ki 2)) (.c (.ix (.ix (.v 5) (.ki 0)) (.ki 1)) .n))))))) .n) (.o (.l (.rt (.v 5))))))))))),none⟩
def Pa:List C.Dd:=Br::O9
def R7:List C.FT:=.p qo::R6
def e25:C.tab Pa=R7:=C.bV e24 rfl rfl rfl
def Jl:Qqq :=
 (aq (aw 4 (ae au (jV 2) (ae bf (ae bf (jV 1) (jC (.int 60))) (aK bG (ag (jV 2) ai)))))
 (aq (aw 5 (aC jE (ag (ae cC (jV 1) (jC (.int 43200))) (ag (jV 2) ai))))
 (aq (aM (jB (ae gx (ae bf (jV 0) (jC (.int 11))) (jC (.int 5))))
  (aq (oY (gT 3 (bR (gN 6) (bR (gN 7) (bR (gN 8) dJ)))) (ae au (jV 3) (ae bf (ae bf (ae cC (jV 1) (jC (.int 60))) (jC (.int 12))) (aK bG (ag (jV 3) ai)))))
 (aF (aV (ag (jC (.str "reckon")) (ag (jV 4) (ag (jV 6) (ag (jV 7) (ag (jV 8) ai))))))))
  aS)
 (aq (aM (jB (ae aP (ae bf (jV 0) (jC (.int 11))) (jC (.int 5))))
  (aF (aV (ag (jC (.str "copy")) (ag (jV 4) (ag (jV 5) ai)))))
  aS)
 (aq (aM (jB (ae aP (ae bf (jV 0) (jC (.int 11))) (jC (.int 6))))
  (aF (aV (ag (jC (.str "say")) (ag (jV 5) ai))))
  aS)
 (aq (aM (jB (ae gx (ae bf (jV 0) (jC (.int 11))) (jC (.int 9))))
  (aF (aV (ag (jC (.str "part")) (ag (jV 5) (ag (ae bf (ae cC (jV 1) (jC (.int 720))) (jC (.int 60))) ai)))))
  aS)
 (aF (aV (ag (jC (.str "part")) (ag (jV 5) (ag (de gQ (jC (.int 1))) ai)))))))))))
def tN:Qqk:=fn 9 Jl
def Bs:C.Dd:=⟨"_law_row",top 31,["_law_cell_here", "_law_other", "_law_names_here", "_law_deeds_here"],["_law_cell_here", "_law_other", "_law_names_here", "_law_deeds_here", "_law_name", "_law_operand_here", "_law_s", "_law_a", "_law_b"],1,none,(.c (.l (.st 4 (.ix (.v 2) (.bo .mod (.bo .mod (.v 1) (.ki 60)) (.fb .len (.c (.v 2) .n)))))) (.c (.l (.st 5 (.ca 1 (.c (.bo .div (.v 1) (.ki 43200)) (.c (.v 2) .n))))) (.c (.ie (.c .lt (.bo .mod (.v 0) (.ki 11)) (.ki 5)) (.c (.l (.as (.t 3 (.c (.n 6) (.c (.n 7) (.c (.n 8) .n)))) (.ix (.v 3) (.bo .mod (.bo .mod (.bo .div (.v 1) (.ki 60)) (.ki 12)) (.fb .len (.c (.v 3) .n)))))) (.o (.l (.rt (.tu (.c (.ks "reckon") (.c (.v 4) (.c (.v 6) (.c (.v 7) (.c (.v 8) .n)))))))))) .n) (.c (.ie (.c .eq (.bo .mod (.v 0) (.ki 11)) (.ki 5)) (.o (.l (.rt (.tu (.c (.ks "copy") (.c (.v 4) (.c (.v 5) .n))))))) .n) (.c (.ie (.c .eq (.bo .mod (.v 0) (.ki 11)) (.ki 6)) (.o (.l (.rt (.tu (.c (.ks "say") (.c (.v 5) .n)))))) .n) (.c (.ie (.c .lt (.bo .mod (.v 0) (.ki 11)) (.ki 9)) (.o (.l (.rt (.tu (.c (.ks "part") (.c (.v 5) (.c (.bo .mod (.bo .div (.v 1) (.ki 720)) (.ki 60)) .n))))))) .n) (.o (.l (.rt (.tu (.c (.ks "part") (.c (.v 5) (.c (.uo .neg (.ki 1)) .n))))))))))))),none⟩
def Pb:List C.Dd:=Bs::Pa
def R8:List C.FT:=.p tN::R7
def e26:C.tab Pb=R8:=C.bV e25 rfl rfl rfl
def Iz:Qqq :=
 (aq (aw 2 (cv (cf (ag (aK bG (ag (jV 0) ai)) ai)) [0] (jB (ae aP (ae au (ae au (jV 1) (jV 0)) (jC (.int 0))) (jC (.str "end")))) (jV 0)))
 (aq (aM (cQ (jB (ae gF (jV 2) (bP ai))) (jB (ae iU (ae bf (jV 1) (jC (.int 3))) (jC (.int 0)))))
  (aF (aV (ag (jC (.str "end")) ai)))
  aS)
 (aF (aV (ag (jC (.str "go")) (ag (ae bf (ae cC (jV 1) (jC (.int 3))) (ae au (jV 2) (jC (.int 0)))) ai))))))
def xD:Qqk:=fn 3 Iz
def Bt:C.Dd:=⟨"_law_last",top 32,["_law_rows", "_law_number_here"],["_law_rows", "_law_number_here", "_law_ends"],0,none,(.c (.l (.sc 2 (.r1 (.c (.fb .len (.c (.v 0) .n)) .n)) [0] (.c .eq (.ix (.ix (.v 1) (.v 0)) (.ki 0)) (.ks "end")) (.v 0))) (.c (.ie (.or (.c .su (.v 2) (.li .n)) (.c .gt (.bo .mod (.v 1) (.ki 3)) (.ki 0))) (.o (.l (.rt (.tu (.c (.ks "end") .n))))) .n) (.o (.l (.rt (.tu (.c (.ks "go") (.c (.bo .mod (.bo .div (.v 1) (.ki 3)) (.ix (.v 2) (.ki 0))) .n)))))))),none⟩
def Pg:List C.Dd:=Bt::Pb
def R9:List C.FT:=.p xD::R8
def e27:C.tab Pg=R9:=C.bV e26 rfl rfl rfl
def HG:Qqq :=
 (aq (aM (jB (aC qk (ag (jV 0) ai)))
  (aF (aC ky (ag (jV 0) (ag (jV 1) ai))))
  aS)
 (aF (aC ku (ag (aK uZ (ag (iD iV (jV 0) jh (gP (jC (.int 4)))) ai)) (ag (jV 1) ai)))))
def ql:Qqk:=fn 2 HG
def Bu:C.Dd:=⟨"_law_number",top 34,["_law_script", "_law_k"],["_law_script", "_law_k"],2,none,(.c (.ie (.b (.ca 5 (.c (.v 0) .n))) (.o (.l (.rt (.ca 7 (.c (.v 0) (.c (.v 1) .n)))))) .n) (.o (.l (.rt (.ca 6 (.c (.fb .sum (.c (.sl (.v 0) .n (.s (.ki 4))) .n)) (.c (.v 1) .n))))))),none⟩
def Ph:List C.Dd:=Bu::Pg
def Sb:List C.FT:=.p ql::R9
def e28:C.tab Ph=Sb:=C.bV e27 rfl rfl rfl
def xc:Qqq :=
 (aq (aw 7 (aC ku (ag (jV 6) (ag (jV 5) ai))))
 (aq (cJ 4 (aC tN (ag (jV 6) (ag (jV 7) (ag (jV 2) (ag (jV 3) ai))))))
 (aq (aM (jB (ae aP (ae bf (jV 6) (jC (.int 11))) (jC (.int 9))))
  (cJ 4 (aV (ag (jC (.str "end")) ai)))
  aS)
 (aM (jB (ae aP (ae bf (jV 6) (jC (.int 11))) (jC (.int 10))))
  (cJ 4 (aV (ag (jC (.str "go")) (ag (ae bf (ae cC (jV 7) (jC (.int 720))) (jC (.int 60))) ai))))
  aS))))
def Ia:Qqq :=
 (aq (aw 2 (aC qm (ag (aC ky (ag (jV 0) (ag (jC (.int 0)) ai))) ai)))
 (aq (aw 3 (aC qo (ag (jV 0) (ag (jV 2) ai))))
 (aq (aw 4 (bP ai))
 (aq (bT 1 (aT (gb (ag (jV 1) ai)) (gT 2 (bR (gN 5) (bR (gN 6) dJ)))
  xc))
 (aF (ae bW (jV 4) (bP (ag (aC xD (ag (jV 4) (ag (aC ql (ag (jV 0) (ag (jC (.int 58)) ai))) ai))) ai))))))))
def xv:Qqk:=fn 8 Ia
def Bv:C.Dd:=⟨"_law_rough",top 33,["_law_script", "_law_cells"],["_law_script", "_law_cells", "_law_names_here", "_law_deeds_here", "_law_rows", "_law_k", "_law_cell_here", "_law_other"],3,none,(.c (.l (.st 2 (.ca 5 (.c (.ca 8 (.c (.v 0) (.c (.ki 0) .n))) .n)))) (.c (.l (.st 3 (.ca 3 (.c (.v 0) (.c (.v 2) .n))))) (.c (.l (.st 4 (.li .n))) (.c (.fz 1 (.fo (.en (.c (.v 1) .n)) (.t 2 (.c (.n 5) (.c (.n 6) .n))) (.c (.l (.st 7 (.ca 7 (.c (.v 6) (.c (.v 5) .n))))) (.c (.l (.ap 4 (.ca 2 (.c (.v 6) (.c (.v 7) (.c (.v 2) (.c (.v 3) .n))))))) (.c (.ie (.c .eq (.bo .mod (.v 6) (.ki 11)) (.ki 9)) (.o (.l (.ap 4 (.tu (.c (.ks "end") .n))))) .n) (.o (.ie (.c .eq (.bo .mod (.v 6) (.ki 11)) (.ki 10)) (.o (.l (.ap 4 (.tu (.c (.ks "go") (.c (.bo .mod (.bo .div (.v 7) (.ki 720)) (.ki 60)) .n)))))) .n))))))) (.o (.l (.rt (.bo .add (.v 4) (.li (.c (.ca 1 (.c (.v 4) (.c (.ca 0 (.c (.v 0) (.c (.ki 58) .n))) .n))) .n)))))))))),none⟩
def Pj:List C.Dd:=Bv::Ph
def Sd:List C.FT:=.p xv::Sb
def e29:C.tab Pj=Sd:=C.bV e28 rfl rfl rfl
def B5:Qqq :=
 (aw 1 (ae jf (jV 1) (jC (.int 1))))
def xm:Qqx :=
 (jB (ae aP (ae au (ae au (jV 0) (jV 1)) (jC (.int 0))) (jC (.str "go"))))
def IA:Qqq :=
 (aq (aw 1 (ae bf (jV 1) (aK bG (ag (jV 0) ai))))
 (aq (ic xm
  B5)
 (aF (jV 1))))
def xE:Qqk:=fn 2 IA
def Bw:C.Dd:=⟨"_law_goal",top 35,["_law_rough_here", "_law_to"],["_law_rough_here", "_law_to"],0,none,(.c (.l (.st 1 (.bo .mod (.v 1) (.fb .len (.c (.v 0) .n))))) (.c (.wh (.c .eq (.ix (.ix (.v 0) (.v 1)) (.ki 0)) (.ks "go")) (.o (.l (.st 1 (.bo .sub (.v 1) (.ki 1)))))) (.o (.l (.rt (.v 1)))))),none⟩
def Pk:List C.Dd:=Bw::Pj
def Se:List C.FT:=.p xE::Sd
def e30:C.tab Pk=Se:=C.bV e29 rfl rfl rfl
def Hj:Qqq :=
 (aq (aw 2 (cv (uV (ag (jC (.int 2)) (ag (aK bG (ag (jV 0) ai)) ai))) [0] (jB (ae (eZ false) (ae au (ae au (jV 1) (jV 0)) (jC (.int 0))) (aV (ag (jC (.str "reckon")) (ag (jC (.str "copy")) (ag (jC (.str "say")) ai)))))) (jV 0)))
 (aq (aM (cQ (jB (ae gF (jV 2) (bP ai))) (jB (ae (eZ true) (ae au (ae au (jV 0) (jC (.int 0))) (jC (.int 0))) (aV (ag (jC (.str "reckon")) (ag (jC (.str "copy")) (ag (jC (.str "say")) ai)))))))
  (aF (jV 0))
  aS)
 (aq (aw 3 (ae au (jV 2) (ae bf (ae cC (jV 1) (jC (.int 4))) (aK bG (ag (jV 2) ai)))))
 (aq (fS 0 (jV 3) (aV (ag (jC (.str "part")) (ag (ae au (ae au (jV 0) (jV 3)) (jC (.int 1))) (ag (jC (.int 1)) ai)))))
 (aq (fS 0 (jC (.int 0)) (aV (ag (jC (.str "go")) (ag (jV 3) ai))))
 (aF (jV 0)))))))
def wI:Qzz→Option D:=lh 4 Hj
def Bx:C.Dd:=⟨"_law_with_while",top 36,["_law_rows", "_law_cell_here"],["_law_rows", "_law_cell_here", "_law_flat", "_law_last_here"],0,some [],(.c (.l (.sc 2 (.r2 (.c (.ki 2) (.c (.fb .len (.c (.v 0) .n)) .n))) [0] (.c .n9 (.ix (.ix (.v 1) (.v 0)) (.ki 0)) (.tu (.c (.ks "reckon") (.c (.ks "copy") (.c (.ks "say") .n))))) (.v 0))) (.c (.ie (.or (.c .su (.v 2) (.li .n)) (.c .v7 (.ix (.ix (.v 0) (.ki 0)) (.ki 0)) (.tu (.c (.ks "reckon") (.c (.ks "copy") (.c (.ks "say") .n)))))) (.o (.l (.rt (.v 0)))) .n) (.c (.l (.st 3 (.ix (.v 2) (.bo .mod (.bo .div (.v 1) (.ki 4)) (.fb .len (.c (.v 2) .n)))))) (.c (.l (.si 0 (.v 3) (.tu (.c (.ks "part") (.c (.ix (.ix (.v 0) (.v 3)) (.ki 1)) (.c (.ki 1) .n)))))) (.c (.l (.si 0 (.ki 0) (.tu (.c (.ks "go") (.c (.v 3) .n))))) (.o (.l (.rt (.v 0))))))))),none⟩
def Pl:List C.Dd:=Bx::Pk
def Sf:List C.FT:=.oo wI::Se
def e31:C.tab Pl=Sf:=C.Dw e30 rfl rfl rfl
def Hn:Qqq :=
 (aq (aw 2 (cv (cf (ag (aK bG (ag (jV 0) ai)) ai)) [0] (jB (ae (eZ false) (ae au (ae au (jV 1) (jV 0)) (jC (.int 0))) (aV (ag (jC (.str "reckon")) (ag (jC (.str "copy")) (ag (jC (.str "say")) ai)))))) (jV 0)))
 (aq (aM (jB (ae aP (ae bf (jV 1) (jC (.int 4))) (jC (.int 3))))
  (lS [0] [(0,0),(1,1)] wI (ag (jV 0) (ag (jV 1) ai)))
  aS)
 (aq (aM (cQ (jB (ae gx (aK bG (ag (jV 2) ai)) (jC (.int 2)))) (jB (ae aP (ae bf (jV 1) (jC (.int 2))) (jC (.int 0)))))
  (aF (jV 0))
  aS)
 (aq (aw 3 (ae au (jV 2) (ae bf (ae cC (jV 1) (jC (.int 4))) (ae jf (aK bG (ag (jV 2) ai)) (jC (.int 1))))))
 (aq (bT 2 (aw 4 (cv (bF (jV 2)) [3] (jB (ae iU (jV 0) (jV 1))) (jV 0))))
 (aq (aw 5 (ae au (jV 4) (ae bf (ae cC (jV 1) (jC (.int 256))) (aK bG (ag (jV 4) ai)))))
 (aq (aw 6 (ae bf (ae cC (jV 1) (jC (.int 16384))) (aK bG (ag (jV 0) ai))))
 (aq (aM (jB (ae aP (ae au (ae au (jV 0) (de gQ (jC (.int 1)))) (jC (.int 0))) (jC (.str "go"))))
  (aw 6 (ae bf (jV 6) (ae bW (jV 3) (jC (.int 1)))))
  aS)
 (aq (aM (jB (mW gx pZ (jV 3) (jV 6) (jV 5)))
  (aw 6 (ae bW (jV 5) (jC (.int 1))))
  aS)
 (aq (aM (jB (ae aP (ae au (ae au (jV 0) (jV 6)) (jC (.int 0))) (jC (.str "go"))))
  (aw 6 (jC (.int 0)))
  aS)
 (aq (fS 0 (jV 3) (aV (ag (jC (.str "part")) (ag (ae au (ae au (jV 0) (jV 3)) (jC (.int 1))) (ag (ae bW (jV 5) (jC (.int 1))) ai)))))
 (aq (fS 0 (jV 5) (aV (ag (jC (.str "go")) (ag (jV 6) ai))))
 (aF (jV 0))))))))))))))
def wO:Qzz→Option D:=lh 7 Hn
def By:C.Dd:=⟨"_law_with_else",top 37,["_law_rows", "_law_cell_here"],["_law_rows", "_law_cell_here", "_law_flat", "_law_first", "_law_later", "_law_last_here", "_law_to"],1,some [],(.c (.l (.sc 2 (.r1 (.c (.fb .len (.c (.v 0) .n)) .n)) [0] (.c .n9 (.ix (.ix (.v 1) (.v 0)) (.ki 0)) (.tu (.c (.ks "reckon") (.c (.ks "copy") (.c (.ks "say") .n))))) (.v 0))) (.c (.ie (.c .eq (.bo .mod (.v 1) (.ki 4)) (.ki 3)) (.o (.l (.rO 0 [0] (.c (.v 0) (.c (.v 1) .n))))) .n) (.c (.ie (.or (.c .lt (.fb .len (.c (.v 2) .n)) (.ki 2)) (.c .eq (.bo .mod (.v 1) (.ki 2)) (.ki 0))) (.o (.l (.rt (.v 0)))) .n) (.c (.l (.st 3 (.ix (.v 2) (.bo .mod (.bo .div (.v 1) (.ki 4)) (.bo .sub (.fb .len (.c (.v 2) .n)) (.ki 1)))))) (.c (.fz 2 (.l (.sc 4 (.l (.v 2)) [3] (.c .gt (.v 0) (.v 1)) (.v 0)))) (.c (.l (.st 5 (.ix (.v 4) (.bo .mod (.bo .div (.v 1) (.ki 256)) (.fb .len (.c (.v 4) .n)))))) (.c (.l (.st 6 (.bo .mod (.bo .div (.v 1) (.ki 16384)) (.fb .len (.c (.v 0) .n))))) (.c (.ie (.c .eq (.ix (.ix (.v 0) (.uo .neg (.ki 1))) (.ki 0)) (.ks "go")) (.o (.l (.st 6 (.bo .mod (.v 6) (.bo .add (.v 3) (.ki 1)))))) .n) (.c (.ie (.h .lt .le (.v 3) (.v 6) (.v 5)) (.o (.l (.st 6 (.bo .add (.v 5) (.ki 1))))) .n) (.c (.ie (.c .eq (.ix (.ix (.v 0) (.v 6)) (.ki 0)) (.ks "go")) (.o (.l (.st 6 (.ki 0)))) .n) (.c (.l (.si 0 (.v 3) (.tu (.c (.ks "part") (.c (.ix (.ix (.v 0) (.v 3)) (.ki 1)) (.c (.bo .add (.v 5) (.ki 1)) .n)))))) (.c (.l (.si 0 (.v 5) (.tu (.c (.ks "go") (.c (.v 6) .n))))) (.o (.l (.rt (.v 0)))))))))))))))),none⟩
def Pm:List C.Dd:=By::Pl
def Sg:List C.FT:=.oo wO::Sf
def e32:C.tab Pm=Sg:=C.Dw e31 rfl rfl rfl
def wX:Qqq :=
 (aq (aw 6 (aC ky (ag (jV 0) (ag (ae bW (jC (.int 2)) (jV 5)) ai))))
 (aq (cJ 4 (aC tN (ag (ae bW (ae fW (ae cC (jV 6) (jC (.int 11))) (jC (.int 11))) (ae bf (jV 6) (jC (.int 7)))) (ag (aC ku (ag (jV 6) (ag (jV 5) ai))) (ag (jV 2) (ag (jV 3) ai))))))
 (cJ 4 (aV (ag (jC (.str "go")) (ag (ae jf (ae fW (jC (.int 2)) (jV 5)) (jC (.int 1))) ai))))))
def HJ:Qqq :=
 (aq (aw 2 (aC qm (ag (aC ky (ag (jV 0) (ag (jC (.int 0)) ai))) ai)))
 (aq (aw 3 (aC qo (ag (jV 0) (ag (jV 2) ai))))
 (aq (aw 4 (bP (ag (aV (ag (jC (.str "go")) (ag (ae jf (ae fW (jC (.int 2)) (jV 1)) (jC (.int 1))) ai))) ai)))
 (aq (aT (cf (ag (jV 1) ai)) (gN 5)
  wX)
 (aq (fS 4 (jC (.int 2)) (aV (ag (jC (.str "go")) (ag (ae bW (ae fW (jC (.int 2)) (jV 1)) (jC (.int 1))) ai))))
 (aF (ae bW (jV 4) (bP (ag (aV (ag (jC (.str "end")) ai)) ai)))))))))
def xn:Qqk:=fn 7 HJ
def Bz:C.Dd:=⟨"_law_stairs",top 38,["_law_script", "_law_many"],["_law_script", "_law_many", "_law_names_here", "_law_deeds_here", "_law_rows", "_law_k", "_law_cell_here"],3,none,(.c (.l (.st 2 (.ca 9 (.c (.ca 12 (.c (.v 0) (.c (.ki 0) .n))) .n)))) (.c (.l (.st 3 (.ca 7 (.c (.v 0) (.c (.v 2) .n))))) (.c (.l (.st 4 (.li (.c (.tu (.c (.ks "go") (.c (.bo .sub (.bo .mul (.ki 2) (.v 1)) (.ki 1)) .n))) .n)))) (.c (.fo (.r1 (.c (.v 1) .n)) (.n 5) (.c (.l (.st 6 (.ca 12 (.c (.v 0) (.c (.bo .add (.ki 2) (.v 5)) .n))))) (.c (.l (.ap 4 (.ca 6 (.c (.bo .add (.bo .mul (.bo .div (.v 6) (.ki 11)) (.ki 11)) (.bo .mod (.v 6) (.ki 7))) (.c (.ca 11 (.c (.v 6) (.c (.v 5) .n))) (.c (.v 2) (.c (.v 3) .n))))))) (.o (.l (.ap 4 (.tu (.c (.ks "go") (.c (.bo .sub (.bo .mul (.ki 2) (.v 5)) (.ki 1)) .n))))))))) (.c (.l (.si 4 (.ki 2) (.tu (.c (.ks "go") (.c (.bo .add (.bo .mul (.ki 2) (.v 1)) (.ki 1)) .n))))) (.o (.l (.rt (.bo .add (.v 4) (.li (.c (.tu (.c (.ks "end") .n)) .n))))))))))),none⟩
def Pn:List C.Dd:=Bz::Pm
def Sh:List C.FT:=.p xn::Sg
def e33:C.tab Pn=Sh:=C.bV e32 rfl rfl rfl
def Hw:Qqq :=
 (aq (aw 5 (ae bf (jV 0) (jC (.int 14))))
 (aq (aw 6 (ae cC (jV 0) (jC (.int 14))))
 (aq (aM (jB (ae gx (jV 5) (jC (.int 6))))
  (aq (oY (gT 3 (bR (gN 7) (bR (gN 8) (bR (gN 9) dJ)))) (ae au (jV 4) (ae bf (ae cC (jV 6) (aK bG (ag (jV 3) ai))) (aK bG (ag (jV 4) ai)))))
 (aF (aV (ag (jC (.str "reckon")) (ag (ae au (jV 3) (ae bf (jV 6) (aK bG (ag (jV 3) ai)))) (ag (jV 7) (ag (jV 8) (ag (jV 9) ai))))))))
  aS)
 (aq (aM (jB (ae gx (jV 5) (jC (.int 8))))
  (aF (aV (ag (jC (.str "copy")) (ag (ae au (jV 3) (ae bf (jV 6) (aK bG (ag (jV 3) ai)))) (ag (aC jE (ag (ae cC (jV 6) (aK bG (ag (jV 3) ai))) (ag (jV 3) ai))) ai)))))
  aS)
 (aq (aM (jB (ae gx (jV 5) (jC (.int 10))))
  (aF (aV (ag (jC (.str "say")) (ag (aC jE (ag (jV 6) (ag (jV 3) ai))) ai))))
  aS)
 (aq (aM (dm (jB (ae gx (jV 5) (jC (.int 12)))) (jB (ae iU (jV 2) (jC (.int 1)))))
  (aF (aV (ag (jC (.str "part")) (ag (aC jE (ag (ae cC (jV 6) (ae jf (jV 2) (jC (.int 1)))) (ag (jV 3) ai))) (ag (ae bf (ae bW (ae bW (jV 1) (jC (.int 2))) (ae bf (jV 6) (ae jf (jV 2) (jC (.int 1))))) (jV 2)) ai)))))
  aS)
 (aq (aM (jB (ae aP (jV 5) (jC (.int 12))))
  (aF (aV (ag (jC (.str "go")) (ag (ae bf (jV 6) (jV 2)) ai))))
  aS)
 (aF (aV (ag (jC (.str "end")) ai))))))))))
def sU:Qqk:=fn 10 Hw
def BD:C.Dd:=⟨"_law_any_row",top 39,["_law_cell_here", "_law_n", "_law_many", "_law_names_here", "_law_deeds_here"],["_law_cell_here", "_law_n", "_law_many", "_law_names_here", "_law_deeds_here", "_law_kind", "_law_rest", "_law_s", "_law_a", "_law_b"],1,none,(.c (.l (.st 5 (.bo .mod (.v 0) (.ki 14)))) (.c (.l (.st 6 (.bo .div (.v 0) (.ki 14)))) (.c (.ie (.c .lt (.v 5) (.ki 6)) (.c (.l (.as (.t 3 (.c (.n 7) (.c (.n 8) (.c (.n 9) .n)))) (.ix (.v 4) (.bo .mod (.bo .div (.v 6) (.fb .len (.c (.v 3) .n))) (.fb .len (.c (.v 4) .n)))))) (.o (.l (.rt (.tu (.c (.ks "reckon") (.c (.ix (.v 3) (.bo .mod (.v 6) (.fb .len (.c (.v 3) .n)))) (.c (.v 7) (.c (.v 8) (.c (.v 9) .n)))))))))) .n) (.c (.ie (.c .lt (.v 5) (.ki 8)) (.o (.l (.rt (.tu (.c (.ks "copy") (.c (.ix (.v 3) (.bo .mod (.v 6) (.fb .len (.c (.v 3) .n)))) (.c (.ca 9 (.c (.bo .div (.v 6) (.fb .len (.c (.v 3) .n))) (.c (.v 3) .n))) .n))))))) .n) (.c (.ie (.c .lt (.v 5) (.ki 10)) (.o (.l (.rt (.tu (.c (.ks "say") (.c (.ca 9 (.c (.v 6) (.c (.v 3) .n))) .n)))))) .n) (.c (.ie (.an (.c .lt (.v 5) (.ki 12)) (.c .gt (.v 2) (.ki 1))) (.o (.l (.rt (.tu (.c (.ks "part") (.c (.ca 9 (.c (.bo .div (.v 6) (.bo .sub (.v 2) (.ki 1))) (.c (.v 3) .n))) (.c (.bo .mod (.bo .add (.bo .add (.v 1) (.ki 2)) (.bo .mod (.v 6) (.bo .sub (.v 2) (.ki 1)))) (.v 2)) .n))))))) .n) (.c (.ie (.c .eq (.v 5) (.ki 12)) (.o (.l (.rt (.tu (.c (.ks "go") (.c (.bo .mod (.v 6) (.v 2)) .n)))))) .n) (.o (.l (.rt (.tu (.c (.ks "end") .n)))))))))))),none⟩
def Pq:List C.Dd:=BD::Pn
def Si:List C.FT:=.p sU::Sh
def e34:C.tab Pq=Si:=C.bV e33 rfl rfl rfl
def Td:Qqq :=
 (aq (aw 2 (ae au (jV 0) (jV 1)))
 (aq (aM (jB (ae aP (ae au (jV 2) (jC (.int 0))) (jC (.str "end"))))
  (aF (bP ai))
  aS)
 (aq (aM (jB (ae aP (ae au (jV 2) (jC (.int 0))) (jC (.str "go"))))
  (aF (bP (ag (ae au (jV 2) (jC (.int 1))) ai)))
  aS)
 (aq (aM (jB (ae aP (ae au (jV 2) (jC (.int 0))) (jC (.str "part"))))
  (aF (bP (ag (ae bW (jV 1) (jC (.int 1))) (ag (ae au (jV 2) (jC (.int 2))) ai))))
  aS)
 (aF (bP (ag (ae bW (jV 1) (jC (.int 1))) ai)))))))
def oi:Qqk:=fn 3 Td
def BE:C.Dd:=⟨"_law_followers",top 44,["_law_program_here", "_law_n"],["_law_program_here", "_law_n", "_law_row_here"],0,none,(.c (.l (.st 2 (.ix (.v 0) (.v 1)))) (.c (.ie (.c .eq (.ix (.v 2) (.ki 0)) (.ks "end")) (.o (.l (.rt (.li .n)))) .n) (.c (.ie (.c .eq (.ix (.v 2) (.ki 0)) (.ks "go")) (.o (.l (.rt (.li (.c (.ix (.v 2) (.ki 1)) .n))))) .n) (.c (.ie (.c .eq (.ix (.v 2) (.ki 0)) (.ks "part")) (.o (.l (.rt (.li (.c (.bo .add (.v 1) (.ki 1)) (.c (.ix (.v 2) (.ki 2)) .n)))))) .n) (.o (.l (.rt (.li (.c (.bo .add (.v 1) (.ki 1)) .n))))))))),none⟩
def Pr:List C.Dd:=BE::Pq
def Sj:List C.FT:=.p oi::Si
def e35:C.tab Pr=Sj:=C.bV e34 rfl rfl rfl
def sN:Qqq :=
 (aM (jB (ae aP (ae au (ae au (jV 0) (jV 3)) (jC (.int 0))) (jC (.str "end"))))
  (k5 2 (jV 3) (jC (.bl true)))
  aS)
def wJ:Qqq :=
 (aq (oY (gT 2 (bR (gN 6) (bR (gN 7) dJ))) (ae au (bP (ag (aV (ag (jV 5) (ag (jV 3) ai))) (ag (aV (ag (jV 3) (ag (jV 5) ai))) ai))) (aK nE (ag (jV 1) ai))))
 (aM (dm (jB (fX false (jV 6) (jV 2))) (jB (fX true (jV 7) (jV 2))))
  (aq (k5 2 (jV 7) (jC (.bl true)))
 (aw 4 (jC (.bl true))))
  aS))
def wK:Qqq :=
 (aT (bF (aC oi (ag (jV 0) (ag (jV 3) ai)))) (gN 5)
  wJ)
def wL:Qqq :=
 (aq (aw 4 (jC (.bl false)))
 (aT (cf (ag (aK bG (ag (jV 0) ai)) ai)) (gN 3)
  wK))
abbrev B2:Qqx :=
 (jB (jV 4))
def Hs:Qqq :=
 (aq (aw 2 (yR (jC (.int 0)) (jC (.bl true))))
 (aq (aM (eY (jB (jV 1)))
  (aq (aw 2 ur)
 (aT (cf (ag (aK bG (ag (jV 0) ai)) ai)) (gN 3)
  sN))
  aS)
 (aq (aw 4 (jC (.bl true)))
 (aq (ic B2
  wL)
 (aF (jV 2))))))
def sO:Qqk:=fn 8 Hs
def BF:C.Dd:=⟨"_law_comes_to",top 40,["_law_rows", "_law_ahead"],["_law_rows", "_law_ahead", "_law_seen", "_law_n", "_law_more", "_law_m", "_law_one", "_law_other"],1,none,(.c (.l (.st 2 (.d1 (.ki 0) (.kb true)))) (.c (.ie (.nt (.b (.v 1))) (.c (.l (.st 2 .dK)) (.o (.fo (.r1 (.c (.fb .len (.c (.v 0) .n)) .n)) (.n 3) (.o (.ie (.c .eq (.ix (.ix (.v 0) (.v 3)) (.ki 0)) (.ks "end")) (.o (.l (.dp 2 (.v 3) (.kb true)))) .n))))) .n) (.c (.l (.st 4 (.kb true))) (.c (.wh (.b (.v 4)) (.c (.l (.st 4 (.kb false))) (.o (.fo (.r1 (.c (.fb .len (.c (.v 0) .n)) .n)) (.n 3) (.o (.fo (.l (.ca 0 (.c (.v 0) (.c (.v 3) .n)))) (.n 5) (.c (.l (.as (.t 2 (.c (.n 6) (.c (.n 7) .n))) (.ix (.li (.c (.tu (.c (.v 5) (.c (.v 3) .n))) (.c (.tu (.c (.v 3) (.c (.v 5) .n))) .n))) (.fb .int (.c (.v 1) .n))))) (.o (.ie (.an (.d false (.v 6) (.v 2)) (.d true (.v 7) (.v 2))) (.c (.l (.dp 2 (.v 7) (.kb true))) (.o (.l (.st 4 (.kb true))))) .n))))))))) (.o (.l (.rt (.v 2)))))))),none⟩
def Pt:List C.Dd:=BF::Pr
def Sl:List C.FT:=.p sO::Sj
def e36:C.tab Pt=Sl:=C.bV e35 rfl rfl rfl
def sQ:Qqq :=
 (aq (aw 3 (aC sO (ag (jV 0) (ag (jC (.bl true)) ai))))
 (aq (aw 4 (aC sO (ag (jV 0) (ag (jC (.bl false)) ai))))
 (aq (aw 5 (cv (cf (ag (aK bG (ag (jV 0) ai)) ai)) [3] (jB (fX true (jV 0) (jV 1))) (jV 0)))
 (aq (aw 6 (cv (cf (ag (aK bG (ag (jV 0) ai)) ai)) [4] (jB (fX true (jV 0) (jV 1))) (jV 0)))
 (aM (jB (ae ip (jV 5) (bP ai)))
  (fS 0 (ae jf (ae au (jV 5) (jC (.int 0))) (jC (.int 1))) (aV (ag (jC (.str "say")) (ag (jV 2) ai))))
  (aM (dm (jB (ae ip (jV 6) (bP ai))) (jB (ae aP (ae au (jV 6) (de gQ (jC (.int 1)))) (jV 1))))
  (fS 0 (jV 1) (aV (ag (jC (.str "end")) ai)))
  (aM (jB (ae ip (jV 6) (bP ai)))
  (fS 0 (ae au (jV 6) (de gQ (jC (.int 1)))) (aV (ag (jC (.str "say")) (ag (jV 2) ai))))
  (aF (jV 0)))))))))
def HK:Qqq :=
 (aq (aw 1 (ae jf (aK bG (ag (jV 0) ai)) (jC (.int 1))))
 (aq (aM (jB (ae kg (ae au (ae au (jV 0) (jV 1)) (jC (.int 0))) (jC (.str "go"))))
  (fS 0 (jV 1) (aV (ag (jC (.str "end")) ai)))
  aS)
 (aq (aT (cf (ag (ae fW (jC (.int 2)) (aK bG (ag (jV 0) ai))) ai)) (gN 2)
  sQ)
 (aF (jV 0)))))
def sZ:Qzz→Option D:=lh 7 HK
def BG:C.Dd:=⟨"_law_mended",top 41,["_law_rows"],["_law_rows", "_law_last_here", "_law_turn", "_law_seen", "_law_near", "_law_lost", "_law_dead"],2,some [],(.c (.l (.st 1 (.bo .sub (.fb .len (.c (.v 0) .n)) (.ki 1)))) (.c (.ie (.c .ne (.ix (.ix (.v 0) (.v 1)) (.ki 0)) (.ks "go")) (.o (.l (.si 0 (.v 1) (.tu (.c (.ks "end") .n))))) .n) (.c (.fo (.r1 (.c (.bo .mul (.ki 2) (.fb .len (.c (.v 0) .n))) .n)) (.n 2) (.c (.l (.st 3 (.ca 0 (.c (.v 0) (.c (.kb true) .n))))) (.c (.l (.st 4 (.ca 0 (.c (.v 0) (.c (.kb false) .n))))) (.c (.l (.sc 5 (.r1 (.c (.fb .len (.c (.v 0) .n)) .n)) [3] (.d true (.v 0) (.v 1)) (.v 0))) (.c (.l (.sc 6 (.r1 (.c (.fb .len (.c (.v 0) .n)) .n)) [4] (.d true (.v 0) (.v 1)) (.v 0))) (.o (.ie (.c .qc (.v 5) (.li .n)) (.o (.l (.si 0 (.bo .sub (.ix (.v 5) (.ki 0)) (.ki 1)) (.tu (.c (.ks "say") (.c (.v 2) .n)))))) (.o (.ie (.an (.c .qc (.v 6) (.li .n)) (.c .eq (.ix (.v 6) (.uo .neg (.ki 1))) (.v 1))) (.o (.l (.si 0 (.v 1) (.tu (.c (.ks "end") .n))))) (.o (.ie (.c .qc (.v 6) (.li .n)) (.o (.l (.si 0 (.ix (.v 6) (.uo .neg (.ki 1))) (.tu (.c (.ks "say") (.c (.v 2) .n)))))) (.o (.l (.rt (.v 0))))))))))))))) (.o (.l (.rt (.v 0))))))),none⟩
def Pu:List C.Dd:=BG::Pt
def Sn:List C.FT:=.oo sZ::Sl
def e37:C.tab Pu=Sn:=C.Dw e36 rfl rfl rfl
def Hh:Qqq :=
 (aq (aw 2 (aC qm (ag (aC ky (ag (jV 0) (ag (jC (.int 0)) ai))) ai)))
 (aq (aw 3 (aC qo (ag (jV 0) (ag (jV 2) ai))))
 (aq (aw 4 (aK uT (ag (jC (.int 1)) (ag (aK bG (ag (jV 1) ai)) ai))))
 (aq (aw 5 (bP (ag (aV (ag (jC (.str "end")) ai)) ai)))
 (aq (aM (jB (ae iU (aK bG (ag (jV 1) ai)) (jC (.int 0))))
  (aw 5 (cv (cf (ag (jV 4) ai)) [4,2,3,1] dN (aC sU (ag (ae au (jV 4) (jV 0)) (ag (jV 0) (ag (jV 1) (ag (jV 2) (ag (jV 3) ai))))))))
  aS)
 (lS [5] [(0,5)] sZ (ag (jV 5) ai)))))))
def wF:Qqk:=fn 6 Hh
def BH:C.Dd:=⟨"_law_any_program",top 42,["_law_script", "_law_cells"],["_law_script", "_law_cells", "_law_names_here", "_law_deeds_here", "_law_many", "_law_rows"],3,none,(.c (.l (.st 2 (.ca 14 (.c (.ca 17 (.c (.v 0) (.c (.ki 0) .n))) .n)))) (.c (.l (.st 3 (.ca 12 (.c (.v 0) (.c (.v 2) .n))))) (.c (.l (.st 4 (.fb .max (.c (.ki 1) (.c (.fb .len (.c (.v 1) .n)) .n))))) (.c (.l (.st 5 (.li (.c (.tu (.c (.ks "end") .n)) .n)))) (.c (.ie (.c .gt (.fb .len (.c (.v 1) .n)) (.ki 0)) (.o (.l (.sc 5 (.r1 (.c (.v 4) .n)) [4,2,3,1] .y (.ca 3 (.c (.ix (.v 4) (.v 0)) (.c (.v 0) (.c (.v 1) (.c (.v 2) (.c (.v 3) .n))))))))) .n) (.o (.l (.rO 0 [5] (.c (.v 5) .n))))))))),none⟩
def Pw:List C.Dd:=BH::Pu
def Sq:List C.FT:=.p wF::Sn
def e38:C.tab Pw=Sq:=C.bV e37 rfl rfl rfl
def wQ:Qqq :=
 (aq (aM (dm (jB (ae aP (ae au (jV 6) (jC (.int 0))) (jC (.str "part")))) (jB (ae aP (ae au (jV 6) (jC (.int 2))) (de gQ (jC (.int 1))))))
  (aw 6 (aV (ag (jC (.str "part")) (ag (ae au (jV 6) (jC (.int 1))) (ag (ae bW (jV 5) (jC (.int 2))) ai)))))
  (aM (dm (jB (ae aP (ae au (jV 6) (jC (.int 0))) (jC (.str "part")))) (jB (ae aP (ae bf (ae au (jV 6) (jC (.int 2))) (aK bG (ag (jV 3) ai))) (ae bW (jV 5) (jC (.int 1))))))
  (aw 6 (aV (ag (jC (.str "part")) (ag (ae au (jV 6) (jC (.int 1))) (ag (jV 5) ai)))))
  (aM (jB (ae aP (ae au (jV 6) (jC (.int 0))) (jC (.str "part"))))
  (aw 6 (aV (ag (jC (.str "part")) (ag (ae au (jV 6) (jC (.int 1))) (ag (ae bf (ae au (jV 6) (jC (.int 2))) (aK bG (ag (jV 3) ai))) ai)))))
  (aM (jB (ae aP (ae au (jV 6) (jC (.int 0))) (jC (.str "go"))))
  (aw 6 (aV (ag (jC (.str "go")) (ag (aC xE (ag (jV 3) (ag (ae au (jV 6) (jC (.int 1))) ai))) ai))))
  aS))))
 (cJ 4 (jV 6)))
def Hx:Qqq :=
 (aq (aM (jB (aC qk (ag (jV 0) ai)))
  (aF (aC wF (ag (jV 0) (ag (jV 1) ai))))
  aS)
 (aq (aw 2 (aC ql (ag (jV 0) (ag (jC (.int 57)) ai))))
 (aq (aM (jB (ae aP (ae bf (jV 2) (jC (.int 8))) (jC (.int 1))))
  (aF (aC xn (ag (jV 0) (ag (ae bW (jC (.int 1)) (ae bf (ae cC (jV 2) (jC (.int 8))) (jC (.int 28)))) ai))))
  aS)
 (aq (aw 3 (aC xv (ag (jV 0) (ag (jV 1) ai))))
 (aq (aw 4 (bP ai))
 (aq (bT 3 (aT (gb (ag (jV 3) ai)) (gT 2 (bR (gN 5) (bR (gN 6) dJ)))
  wQ))
 (lS [4] [(0,4)] wO (ag (jV 4) (ag (aC ql (ag (jV 0) (ag (jC (.int 59)) ai))) ai)))))))))
def xg:Qqk:=fn 7 Hx
def BI:C.Dd:=⟨"_law_program",top 43,["_law_script", "_law_cells"],["_law_script", "_law_cells", "_law_turn", "_law_rough_here", "_law_rows", "_law_n", "_law_row_here"],4,none,(.c (.ie (.b (.ca 16 (.c (.v 0) .n))) (.o (.l (.rt (.ca 0 (.c (.v 0) (.c (.v 1) .n)))))) .n) (.c (.l (.st 2 (.ca 10 (.c (.v 0) (.c (.ki 57) .n))))) (.c (.ie (.c .eq (.bo .mod (.v 2) (.ki 8)) (.ki 1)) (.o (.l (.rt (.ca 5 (.c (.v 0) (.c (.bo .add (.ki 1) (.bo .mod (.bo .div (.v 2) (.ki 8)) (.ki 28))) .n)))))) .n) (.c (.l (.st 3 (.ca 9 (.c (.v 0) (.c (.v 1) .n))))) (.c (.l (.st 4 (.li .n))) (.c (.fz 3 (.fo (.en (.c (.v 3) .n)) (.t 2 (.c (.n 5) (.c (.n 6) .n))) (.c (.ie (.an (.c .eq (.ix (.v 6) (.ki 0)) (.ks "part")) (.c .eq (.ix (.v 6) (.ki 2)) (.uo .neg (.ki 1)))) (.o (.l (.st 6 (.tu (.c (.ks "part") (.c (.ix (.v 6) (.ki 1)) (.c (.bo .add (.v 5) (.ki 2)) .n))))))) (.o (.ie (.an (.c .eq (.ix (.v 6) (.ki 0)) (.ks "part")) (.c .eq (.bo .mod (.ix (.v 6) (.ki 2)) (.fb .len (.c (.v 3) .n))) (.bo .add (.v 5) (.ki 1)))) (.o (.l (.st 6 (.tu (.c (.ks "part") (.c (.ix (.v 6) (.ki 1)) (.c (.v 5) .n))))))) (.o (.ie (.c .eq (.ix (.v 6) (.ki 0)) (.ks "part")) (.o (.l (.st 6 (.tu (.c (.ks "part") (.c (.ix (.v 6) (.ki 1)) (.c (.bo .mod (.ix (.v 6) (.ki 2)) (.fb .len (.c (.v 3) .n))) .n))))))) (.o (.ie (.c .eq (.ix (.v 6) (.ki 0)) (.ks "go")) (.o (.l (.st 6 (.tu (.c (.ks "go") (.c (.ca 8 (.c (.v 3) (.c (.ix (.v 6) (.ki 1)) .n))) .n)))))) .n))))))) (.o (.l (.ap 4 (.v 6))))))) (.o (.l (.rO 6 [4] (.c (.v 4) (.c (.ca 10 (.c (.v 0) (.c (.ki 59) .n))) .n))))))))))),none⟩
def Px:List C.Dd:=BI::Pw
def Sr:List C.FT:=.p xg::Sq
def e39:C.tab Px=Sr:=C.bV e38 rfl rfl rfl
def wY:Qqq :=
 (cJ 1 (aV (ag (jV 2) (ag (jV 3) ai))))
def wZ:Qqq :=
 (aT (bF (aC oi (ag (jV 0) (ag (jV 2) ai)))) (gN 3)
  wY)
def HL:Qqq :=
 (aq (aw 1 (bP (ag (aV (ag (de gQ (jC (.int 1))) (ag (jC (.int 0)) ai))) ai)))
 (aq (aT (cf (ag (aK bG (ag (jV 0) ai)) ai)) (gN 2)
  wZ)
 (aF (jV 1))))
def xo:Qqk:=fn 4 HL
def BJ:C.Dd:=⟨"_law_places",top 45,["_law_program_here"],["_law_program_here", "_law_found", "_law_n", "_law_m"],1,none,(.c (.l (.st 1 (.li (.c (.tu (.c (.uo .neg (.ki 1)) (.c (.ki 0) .n))) .n)))) (.c (.fo (.r1 (.c (.fb .len (.c (.v 0) .n)) .n)) (.n 2) (.o (.fo (.l (.ca 4 (.c (.v 0) (.c (.v 2) .n)))) (.n 3) (.o (.l (.ap 1 (.tu (.c (.v 2) (.c (.v 3) .n))))))))) (.o (.l (.rt (.v 1)))))),none⟩
def Py:List C.Dd:=BJ::Px
def Ss:List C.FT:=.p xo::Sr
def e40:C.tab Py=Ss:=C.bV e39 rfl rfl rfl
def Jm:Qqq :=
 (aF (nD (ae aP (ae au (jV 0) (jC (.int 0))) (jC (.str "reckon"))) (ae gF (iD iV (jV 0) (gP (jC (.int 2))) jh) (jV 1))))
def qv:Qqk:=fn 2 Jm
def BK:C.Dd:=⟨"_law_has",top 46,["_law_row_here", "_law_deed"],["_law_row_here", "_law_deed"],0,none,(.o (.l (.rt (.an (.co .eq (.ix (.v 0) (.ki 0)) (.ks "reckon")) (.co .su (.sl (.v 0) (.s (.ki 2)) .n) (.v 1)))))),none⟩
def Pz:List C.Dd:=BK::Py
def Sv:List C.FT:=.p qv::Ss
def e41:C.tab Pz=Sv:=C.bV e40 rfl rfl rfl
def Hy:Qqq :=
 (aF (nD (ae (eZ false) (ae au (jV 0) (jC (.int 0))) (aV (ag (jC (.str "reckon")) (ag (jC (.str "copy")) ai)))) (ae (eZ false) (ae au (jV 0) (jC (.int 1))) (iD iV (jV 1) (gP (jC (.int 1))) jh))))
def sW:Qqk:=fn 2 Hy
def BL:C.Dd:=⟨"_law_changes",top 47,["_law_row_here", "_law_deed"],["_law_row_here", "_law_deed"],0,none,(.o (.l (.rt (.an (.co .n9 (.ix (.v 0) (.ki 0)) (.tu (.c (.ks "reckon") (.c (.ks "copy") .n)))) (.co .n9 (.ix (.v 0) (.ki 1)) (.sl (.v 1) (.s (.ki 1)) .n)))))),none⟩
def PB:List C.Dd:=BL::Pz
def Sw:List C.FT:=.p sW::Sv
def e42:C.tab PB=Sw:=C.bV e41 rfl rfl rfl
def xh:Qqq :=
 (aM (dm (jB (ae aP (ae au (jV 2) (jC (.int 0))) (jC (.str "reckon")))) (jB (ae (pj true) (iD iV (jV 2) (gP (jC (.int 2))) jh) (jV 1))))
  (cJ 1 (iD iV (jV 2) (gP (jC (.int 2))) jh))
  aS)
def Ib:Qqq :=
 (aq (aw 1 (bP ai))
 (aq (bT 0 (aT (bF (jV 0)) (gN 2)
  xh))
 (aF (jV 1))))
def xx:Qqk:=fn 3 Ib
def BM:C.Dd:=⟨"_law_known",top 48,["_law_program_here"],["_law_program_here", "_law_found", "_law_row_here"],0,none,(.c (.l (.st 1 (.li .n))) (.c (.fz 0 (.fo (.l (.v 0)) (.n 2) (.o (.ie (.an (.c .eq (.ix (.v 2) (.ki 0)) (.ks "reckon")) (.c .AI (.sl (.v 2) (.s (.ki 2)) .n) (.v 1))) (.o (.l (.ap 1 (.sl (.v 2) (.s (.ki 2)) .n)))) .n)))) (.o (.l (.rt (.v 1)))))),none⟩
def PD:List C.Dd:=BM::PB
def Sx:List C.FT:=.p xx::Sw
def e43:C.tab PD=Sx:=C.bV e42 rfl rfl rfl
def IC:Qqq :=
 (aF (aC xg (ag (jV 0) (ag (iD iV (jV 0) (gP (jC (.int 2))) (gP (jC (.int 22)))) ai))))
def xF:Qqk:=fn 1 IC
def BO:C.Dd:=⟨"_law_made",top 49,["_law_script"],["_law_script"],5,none,(.o (.l (.rt (.ca 4 (.c (.v 0) (.c (.sl (.v 0) (.s (.ki 2)) (.s (.ki 22))) .n)))))),none⟩
def PF:List C.Dd:=BO::PD
def Sy:List C.FT:=.p xF::Sx
def e44:C.tab PF=Sy:=C.bV e43 rfl rfl rfl
def w6:Qqq :=
 (aq (aM (cQ (eY (jB (aK jj (ag (jV 6) (ag (jC (.ty "int")) ai))))) (cQ (jB (aK jj (ag (jV 6) (ag (jC (.ty "bool")) ai)))) (jB (ae (eZ true) (jV 6) (jV 5)))))
  (aF (jC (.bl false)))
  aS)
 (aq (aM (jB (aC qv (ag (ae au (jV 0) (jV 6)) (ag (jV 1) ai))))
  (aF (jC (.bl false)))
  aS)
 (aq (aw 4 (jV 6))
 (aw 5 (aC oi (ag (jV 0) (ag (jV 6) ai)))))))
def HM:Qqq :=
 (aq (aM (cQ (eY (jB (aK jj (ag (jV 2) (ag (jC (.ty "list")) ai))))) (cQ (jB (ae aP (aK bG (ag (jV 2) ai)) (jC (.int 0)))) (jB (ae kg (AH (ag (jV 2) ai)) (aK bG (ag (jV 2) ai))))))
  (aF (jC (.bl false)))
  aS)
 (aq (aw 4 (jV 3))
 (aq (aw 5 (bP (ag (jV 3) ai)))
 (aq (bT 2 (aT (bF (jV 2)) (gN 6)
  w6))
 (aF (mO (aC sW (ag (ae au (jV 0) (jV 4)) (ag (jV 1) ai))) (ae aP (ae au (ae au (jV 0) (jV 4)) (jC (.int 0))) (jC (.str "end")))))))))
def xq:Qqk:=fn 7 HM
def BP:C.Dd:=⟨"_law_walked",top 50,["_law_program_here", "_law_deed", "_law_way", "_law_m"],["_law_program_here", "_law_deed", "_law_way", "_law_m", "_law_at", "_law_ahead", "_law_n"],1,none,(.c (.ie (.or (.nt (.b (.fb .oa (.c (.v 2) (.c (.ty "list") .n))))) (.or (.c .eq (.fb .len (.c (.v 2) .n)) (.ki 0)) (.c .ne (.ls (.c (.v 2) .n)) (.fb .len (.c (.v 2) .n))))) (.o (.l (.rt (.kb false)))) .n) (.c (.l (.st 4 (.v 3))) (.c (.l (.st 5 (.li (.c (.v 3) .n)))) (.c (.fz 2 (.fo (.l (.v 2)) (.n 6) (.c (.ie (.or (.nt (.b (.fb .oa (.c (.v 6) (.c (.ty "int") .n))))) (.or (.b (.fb .oa (.c (.v 6) (.c (.ty "bool") .n)))) (.c .v7 (.v 6) (.v 5)))) (.o (.l (.rt (.kb false)))) .n) (.c (.ie (.b (.ca 3 (.c (.ix (.v 0) (.v 6)) (.c (.v 1) .n)))) (.o (.l (.rt (.kb false)))) .n) (.c (.l (.st 4 (.v 6))) (.o (.l (.st 5 (.ca 9 (.c (.v 0) (.c (.v 6) .n))))))))))) (.o (.l (.rt (.or (.ca 2 (.c (.ix (.v 0) (.v 4)) (.c (.v 1) .n))) (.co .eq (.ix (.ix (.v 0) (.v 4)) (.ki 0)) (.ks "end")))))))))),none⟩
def PH:List C.Dd:=BP::PF
def Sz:List C.FT:=.p xq::Sy
def e45:C.tab PH=Sz:=C.bV e44 rfl rfl rfl
def wR:Qqq :=
 (aM (jB (ae aP (ae gD (ae nC (k7 (jV 3) (aV (ag (jV 4) (ag (jV 5) ai)))) (jV 2)) (jC (.int 1))) (jC (.int 0))))
  (aF (jC (.bl false)))
  aS)
def Hz:Qqq :=
 (aq (aM (jB (aC qv (ag (ae au (jV 0) (jV 4)) (ag (jV 1) ai))))
  (aF (jC (.bl true)))
  aS)
 (aq (aM (cQ (jB (aC sW (ag (ae au (jV 0) (jV 4)) (ag (jV 1) ai)))) (jB (ae aP (ae au (ae au (jV 0) (jV 4)) (jC (.int 0))) (jC (.str "end")))))
  (aF (jC (.bl false)))
  aS)
 (aq (aT (bF (aC oi (ag (jV 0) (ag (jV 4) ai)))) (gN 5)
  wR)
 (aF (jC (.bl true))))))
def xi:Qqk:=fn 6 Hz
def BQ:C.Dd:=⟨"_law_goes_on",top 51,["_law_program_here", "_law_deed", "_law_k", "_law_wants", "_law_m"],["_law_program_here", "_law_deed", "_law_k", "_law_wants", "_law_m", "_law_n"],1,none,(.c (.ie (.b (.ca 4 (.c (.ix (.v 0) (.v 4)) (.c (.v 1) .n)))) (.o (.l (.rt (.kb true)))) .n) (.c (.ie (.or (.b (.ca 3 (.c (.ix (.v 0) (.v 4)) (.c (.v 1) .n)))) (.c .eq (.ix (.ix (.v 0) (.v 4)) (.ki 0)) (.ks "end"))) (.o (.l (.rt (.kb false)))) .n) (.c (.fo (.l (.ca 10 (.c (.v 0) (.c (.v 4) .n)))) (.n 5) (.o (.ie (.c .eq (.bo .band (.bo .shr (.tg (.v 3) (.tu (.c (.v 4) (.c (.v 5) .n)))) (.v 2)) (.ki 1)) (.ki 0)) (.o (.l (.rt (.kb false)))) .n))) (.o (.l (.rt (.kb true))))))),none⟩
def PJ:List C.Dd:=BQ::PH
def SD:List C.FT:=.p xi::Sz
def e46:C.tab PJ=SD:=C.bV e45 rfl rfl rfl
def yd:Qqq :=
 (aM (cQ (eY (jB (aK jj (ag (k7 (jV 4) (jV 5)) (ag (jC (.ty "int")) ai))))) (eY (jB (mW pZ gx (jC (.int 0)) (k7 (jV 4) (jV 5)) (ae oV (jC (.int 1)) (aK bG (ag (jV 3) ai)))))))
  (aF (jC (.bl false)))
  aS)
def ye:Qqq :=
 (aq (aw 8 (aC qq (ag (jV 1) (ag (jV 6) (ag (jV 5) ai)))))
 (aM (jB (ae aP (ae gD (ae nC (k7 (jV 4) (jV 5)) (jV 6)) (jC (.int 1))) (jC (.int 0))))
  (aM (eY (jB (aC xq (ag (jV 1) (ag (jV 7) (ag (jV 8) (ag (ae au (jV 5) (jC (.int 1))) ai)))))))
  (aF (jC (.bl false)))
  aS)
  (aM (cQ (jB (ae kY (jV 8) (jC .non))) (eY (jB (aC xi (ag (jV 1) (ag (jV 7) (ag (jV 6) (ag (jV 4) (ag (ae au (jV 5) (jC (.int 1))) ai)))))))))
  (aF (jC (.bl false)))
  aS)))
def CZ:Qqq :=
 (bT 2 (aT (bF (jV 2)) (gN 5)
  ye))
def N7:Qqq :=
 (aq (aw 1 (aC xF (ag (jV 0) ai)))
 (aq (aw 2 (aC xo (ag (jV 1) ai)))
 (aq (aw 3 (aC xx (ag (jV 1) ai)))
 (aq (aw 4 (aC tU (ag (jV 1) ai)))
 (aq (aM (cQ (eY (jB (aK jj (ag (jV 4) (ag (jC (.ty "dict")) ai))))) (jB (ae ip (aK mY (ag (jV 4) ai)) (aK mY (ag (jV 2) ai)))))
  (aF (jC (.bl false)))
  aS)
 (aq (bT 2 (aT (bF (jV 2)) (gN 5)
  yd))
 (aq (bT 3 (aT (gb (ag (jV 3) ai)) (gT 2 (bR (gN 6) (bR (gN 7) dJ)))
  CZ))
 (aF (jC (.bl true))))))))))
def yZ:Qqk:=fn 9 N7
def BR:C.Dd:=⟨"law",top 52,["_law_script"],["_law_script", "_law_program_here", "_law_spots", "_law_known_here", "_law_wants", "_law_spot", "_law_k", "_law_deed", "_law_way"],6,none,(.c (.l (.st 1 (.ca 2 (.c (.v 0) .n)))) (.c (.l (.st 2 (.ca 6 (.c (.v 1) .n)))) (.c (.l (.st 3 (.ca 3 (.c (.v 1) .n)))) (.c (.l (.st 4 (.ca 28 (.c (.v 1) .n)))) (.c (.ie (.or (.nt (.b (.fb .oa (.c (.v 4) (.c (.ty "dict") .n))))) (.c .qc (.fb .uL (.c (.v 4) .n)) (.fb .uL (.c (.v 2) .n)))) (.o (.l (.rt (.kb false)))) .n) (.c (.fz 2 (.fo (.l (.v 2)) (.n 5) (.o (.ie (.or (.nt (.b (.fb .oa (.c (.tg (.v 4) (.v 5)) (.c (.ty "int") .n))))) (.nt (.h .le .lt (.ki 0) (.tg (.v 4) (.v 5)) (.bo .shl (.ki 1) (.fb .len (.c (.v 3) .n)))))) (.o (.l (.rt (.kb false)))) .n)))) (.c (.fz 3 (.fo (.en (.c (.v 3) .n)) (.t 2 (.c (.n 6) (.c (.n 7) .n))) (.o (.fz 2 (.fo (.l (.v 2)) (.n 5) (.c (.l (.st 8 (.ca 27 (.c (.v 1) (.c (.v 6) (.c (.v 5) .n)))))) (.o (.ie (.c .eq (.bo .band (.bo .shr (.tg (.v 4) (.v 5)) (.v 6)) (.ki 1)) (.ki 0)) (.o (.ie (.nt (.b (.ca 1 (.c (.v 1) (.c (.v 7) (.c (.v 8) (.c (.ix (.v 5) (.ki 1)) .n))))))) (.o (.l (.rt (.kb false)))) .n)) (.o (.ie (.or (.c .qb (.v 8) .kn) (.nt (.b (.ca 0 (.c (.v 1) (.c (.v 7) (.c (.v 6) (.c (.v 4) (.c (.ix (.v 5) (.ki 1)) .n))))))))) (.o (.l (.rt (.kb false)))) .n)))))))))) (.o (.l (.rt (.kb true))))))))))),none⟩
def zB:List C.Dd:=BR::PJ
def t47:List C.FT:=.p yZ::SD
def e47:C.tab zB=t47:=C.bV e46 rfl rfl rfl
def ok:C.yX bs gs zB=true:=by decide +kernel
def adD:C.BA d1.nm d1.st d1.ps:=C.fP λ_ _ _ _ _ _ _=>rfl
def adE:C.BA d2.nm d2.st d2.ps:=C.fP λ_ _ _ _ _ _ _=>rfl
def adF:C.BA d3.nm d3.st d3.ps:=C.fA λ_ _ _ _ _ _ _ _=>rfl
def adG:C.BA d4.nm d4.st d4.ps:=C.fA λ_ _ _ _ _ _ _ _=>rfl
def adH:C.BA d5.nm d5.st d5.ps:=C.fP λ_ _ _ _ _ _ _=>rfl
def adI:C.BA d6.nm d6.st d6.ps:=C.fP λ_ _ _ _ _ _ _=>rfl
def adJ:C.BA d7.nm d7.st d7.ps:=C.fP λ_ _ _ _ _ _ _=>rfl
def adK:C.BA d8.nm d8.st d8.ps:=C.fP λ_ _ _ _ _ _ _=>rfl
def adL:C.BA d9.nm d9.st d9.ps:=C.fP λ_ _ _ _ _ _ _=>rfl
def ab3:C.BA A8.nm A8.st A8.ps:=C.fP λ_ _ _ _ _ _ _=>rfl
def ab4:C.BA A9.nm A9.st A9.ps:=C.fP λ_ _ _ _ _ _ _=>rfl
def ab5:C.BA Ba.nm Ba.st Ba.ps:=C.fP λ_ _ _ _ _ _ _=>rfl
def ab6:C.BA Bb.nm Bb.st Bb.ps:=C.Rm λ_ _ _ _ _ _ _ _ _=>rfl
def ab7:C.BA Bc.nm Bc.st Bc.ps:=C.AZ λ_ _ _ _ _ _ _ _ _ _=>rfl
def ab8:C.BA Be.nm Be.st Be.ps:=C.fA λ_ _ _ _ _ _ _ _=>rfl
def ab9:C.BA Bf.nm Bf.st Bf.ps:=C.AZ λ_ _ _ _ _ _ _ _ _ _=>rfl
def aca:C.BA Bg.nm Bg.st Bg.ps:=C.fP λ_ _ _ _ _ _ _=>rfl
def acb:C.BA Bi.nm Bi.st Bi.ps:=C.fP λ_ _ _ _ _ _ _=>rfl
def acd:C.BA Bj.nm Bj.st Bj.ps:=C.Rm λ_ _ _ _ _ _ _ _ _=>rfl
def ace:C.BA Bl.nm Bl.st Bl.ps:=C.fA λ_ _ _ _ _ _ _ _=>rfl
def acf:C.BA Bm.nm Bm.st Bm.ps:=C.fA λ_ _ _ _ _ _ _ _=>rfl
def acg:C.BA Bn.nm Bn.st Bn.ps:=C.fP λ_ _ _ _ _ _ _=>rfl
def ach:C.BA Bp.nm Bp.st Bp.ps:=C.fP λ_ _ _ _ _ _ _=>rfl
def aci:C.BA Bq.nm Bq.st Bq.ps:=C.fA λ_ _ _ _ _ _ _ _=>rfl
def acj:C.BA Br.nm Br.st Br.ps:=C.fA λ_ _ _ _ _ _ _ _=>rfl
def ack:C.BA Bs.nm Bs.st Bs.ps:=C.AZ λ_ _ _ _ _ _ _ _ _ _=>rfl
def acm:C.BA Bt.nm Bt.st Bt.ps:=C.fA λ_ _ _ _ _ _ _ _=>rfl
def acn:C.BA Bu.nm Bu.st Bu.ps:=C.fA λ_ _ _ _ _ _ _ _=>rfl
def aco:C.BA Bv.nm Bv.st Bv.ps:=C.fA λ_ _ _ _ _ _ _ _=>rfl
def acp:C.BA Bw.nm Bw.st Bw.ps:=C.fA λ_ _ _ _ _ _ _ _=>rfl
def acq:C.BA Bx.nm Bx.st Bx.ps:=C.fA λ_ _ _ _ _ _ _ _=>rfl
def acr:C.BA By.nm By.st By.ps:=C.fA λ_ _ _ _ _ _ _ _=>rfl
def acs:C.BA Bz.nm Bz.st Bz.ps:=C.fA λ_ _ _ _ _ _ _ _=>rfl
def acu:C.BA BD.nm BD.st BD.ps:=C.Rn λ_ _ _ _ _ _ _ _ _ _ _=>rfl
def acv:C.BA BE.nm BE.st BE.ps:=C.fA λ_ _ _ _ _ _ _ _=>rfl
def acw:C.BA BF.nm BF.st BF.ps:=C.fA λ_ _ _ _ _ _ _ _=>rfl
def acx:C.BA BG.nm BG.st BG.ps:=C.fP λ_ _ _ _ _ _ _=>rfl
def acy:C.BA BH.nm BH.st BH.ps:=C.fA λ_ _ _ _ _ _ _ _=>rfl
def acz:C.BA BI.nm BI.st BI.ps:=C.fA λ_ _ _ _ _ _ _ _=>rfl
def acA:C.BA BJ.nm BJ.st BJ.ps:=C.fP λ_ _ _ _ _ _ _=>rfl
def acB:C.BA BK.nm BK.st BK.ps:=C.fA λ_ _ _ _ _ _ _ _=>rfl
def acC:C.BA BL.nm BL.st BL.ps:=C.fA λ_ _ _ _ _ _ _ _=>rfl
def acD:C.BA BM.nm BM.st BM.ps:=C.fP λ_ _ _ _ _ _ _=>rfl
def acE:C.BA BO.nm BO.st BO.ps:=C.fP λ_ _ _ _ _ _ _=>rfl
def acF:C.BA BP.nm BP.st BP.ps:=C.AZ λ_ _ _ _ _ _ _ _ _ _=>rfl
def acG:C.BA BQ.nm BQ.st BQ.ps:=C.Rn λ_ _ _ _ _ _ _ _ _ _ _=>rfl
def acH:C.BA BR.nm BR.st BR.ps:=C.fP λ_ _ _ _ _ _ _=>rfl
def ba:C.A4 zB:=⟨acH,acG,acF,acE,acD,acC,acB,acA,acz,acy,acx,acw,acv,acu,acs,acr,acq,acp,aco,acn,acm,ack,acj,aci,ach,acg,acf,ace,acd,acb,aca,ab9,ab8,ab7,ab6,ab5,ab4,ab3,adL,adK,adJ,adI,adH,adG,adF,adE,adD,trivial⟩
end aL
namespace aL
open PySem L2 J
local macro_rules|`($m \ $x)=>`(some ($m,$x))
local macro_rules|`($f∘$x)=>`(D.lst (($x).map $f))
local macro_rules|`(↥$x)=>`(D.int (($x):Int))
local macro_rules|`(tactic|simp! [$xs,*])=>`(tactic|simp -implicitDefEqProofs only [$xs,*])
local macro_rules|`(tactic|simp! [$xs,*]$l:location)=>`(tactic|simp -implicitDefEqProofs only [$xs,*]$l:location)
local macro_rules|`(∅)=>`((by omega))
def gz{α:Type}{a:α}{l:List α}:(a::l)[0]?=some a:=rfl
def gy{α:Type}{a:α}{l:List α}{i:Nat}:(a::l)[i+1]?=l[i]?:=List.getElem?_cons_succ
def oq{α β:Type}{a:α}{f:α→Option β}:(some a).bind f=f a:=rfl
def tz{α:Type}{a b:α}{l:List α}:(a::l).set 0 b=b::l:=rfl
def tq{α:Type}{a b:α}{l:List α}{i:Nat}:(a::l).set (i+1) b=a::l.set i b:=rfl
def mq{α β:Type}{a:α}{l:List α}{f:α→β}:(a::l).map f=f a::l.map f:=rfl
def mn{α β:Type}{f:α→β}:[].map f=[]:=rfl
def oy{α β:Type}{a:α}{f:α→β}:(some a).map f=some (f a):=rfl
def ln{α β:Type}{l:List α}{f:α→β}:(l.map f).length=l.length:=dZ _
def cA{d:D}{ds:Qzz}{n:Nat}:((d::ds).map (λd=>some (M.al,d))++List.replicate (n+1-(d::ds).length) none:Ev)=.al\d::(ds.map (λd=>some (M.al,d))++List.replicate (n-ds.length) none):=by simp
def bE{n:Nat}:(([]:Qzz).map (λd=>some (M.al,d))++List.replicate (n+1-([]:Qzz).length) none:Ev)=none::(([]:Qzz).map (λd=>some (M.al,d))++List.replicate (n-([]:Qzz).length) none):=rfl
def bH:(([]:Qzz).map (λd=>some (M.al,d))++List.replicate (0-([]:Qzz).length) none:Ev)=[]:=rfl
def an{a b:Prop}(x:a)(y:b):a∧b:=⟨x,y⟩
def evs :=
 an @m8<|an @fV<|an @DP<|an @NQ<|an @Dm<|an @ym<|an @DS<|an @DT<|an @oM<|an @qS<|an @cR<|an @dF<|an @abJ<|an @bO<|an @mX<|an @kH<|an @KR<|an @kJ<|an @uh<|an @ui<|an @yn<|an @ig<|an @uj<|an @pf<|an @OB<|an @fT<|an @yo<|an @Z3<|an @oH<|an @Bool.and_self<|an @Bool.and_true<|an @Bool.true_and<|an @Bool.false_eq_true<|an @decide_true<|an @decide_false<|an @Bool.not_true<|an @Bool.not_false<|an @szT<|an @mul_r<|an @oG<|an @div_ii<|an @abG<|an @B6<|an @HC<|an @aq.eq_1<|an @aM.eq_1<|an @jB.eq_1<|an @ae.eq_1<|an @de.eq_1<|an @jV.eq_1<|an @aK.eq_1<|an @ag.eq_1<|an @ai.eq_1<|an @aF.eq_1<|an @aw.eq_1<|an @aS.eq_1<|an @jC.eq_1<|an @aC.eq_1<|an @nD.eq_1<|an @mO.eq_1<|an @Eu.eq_1<|an @dm.eq_1<|an @cQ.eq_1<|an @eY.eq_1<|an @rj.eq_1<|an @aV.eq_1<|an @bP.eq_1<|an @kZ.eq_1<|an @i6.eq_1<|an @cJ.eq_1<|an @fS.eq_1<|an @oY.eq_1<|an @gL.eq_1<|an @bT.eq_1<|an @aW.eq_1<|an @aT.eq_1<|an @bF.eq_1<|an @cf.eq_1<|an @ft.eq_1<|an @gN.eq_1<|an @dN.eq_1<|an @List.map_cons.{0,0} <| an @List.map_nil.{0,0} <| an @List.length_cons.{0} <| an @List.length_nil.{0} <| an @List.cons_append.{0} <| an @List.nil_append.{0} <| an @List.getElem?_cons_zero.{0} <| an @List.getElem?_cons_succ.{0} <| an @List.set_cons_zero.{0} <| an @List.set_cons_succ.{0} <| an @List.all_cons.{0} <| an @List.all_nil.{0} <| an @Option.bind_some.{0,0} <| an @Option.bind_none.{0,0} <| an @Option.map_some.{0,0} <| an @Option.map_none.{0,0} <| an @id_eq.{1} <| an @if_true.{1} <| an @if_false.{1} <| an @List.length_map.{0,0} <| an @and_self<|an @and_true<|an @true_and<|an @ne_eq.{1} <| an @not_false_eq_true<|an @iD.eq_1<|an @gP.eq_1<|an @jh.eq_1<|an @mW.eq_1 @Gk.eq_1
local macro_rules|`(tactic| symm)=>`(tactic| simp! [evs,bR,dJ,b9,own,Ey,fH,List.replicate,reduceIte,reduceCtorEq,Nat.reduceAdd,Nat.reduceSub,Nat.reduceLeDiff,Int.reducePow,Int.reduceNeg,Int.reduceLT,Int.reduceLE,Int.reduceToNat,Nat.reduceLT,Int.reduceEq,Int.reduceSub,Int.reduceAdd])
local macro_rules|`(tactic| nofun)=>`(tactic| ((try symm);repeat ((first|rw[div_ii ∅]|rw[oG ∅]|rw[mul_r ∅]|rw[DQ ∅]|rw[mul_r (by split<;>omega)]);try symm)))
local macro_rules|`(tactic| ac_rfl)=>`(tactic| first | (with_reducible first|exact Dm|exact ym|exact DS|exact oM|exact DT|exact m8|exact fV|exact oG ∅|exact div_ii ∅|exact mul_r ∅|exact DQ ∅|exact acI|exact dF|exact qU (by assumption)|exact fB _ _ _)|exact tp3 _ _|exact tp2 _|assumption | (with_reducible apply ca;(· ac_rfl);(· first|assumption|exact Dx _ _|exact C0 _ _|exact Ca _ _|exact yf _|exact C1 _)) | (apply bo;(· ac_rfl);(· ac_rfl))|rfl | (apply adM;(· first|rfl|assumption|omega|exact qG _|decide);(· ac_rfl)))
local macro_rules|`(tactic| infer_instance)=>`(tactic| (apply bl;(· ac_rfl);(· first|exact decide_eq_true (by assumption)|exact decide_eq_false (by assumption)|rfl|assumption|exact(rH _).trans (by assumption)|exact(ER _).trans (by assumption)|exact(nH _).trans (by assumption))))
def bo{α β:Type}{o:Option α}{a:α}{k:α→Option β}{r:Option β}(h:o=some a)(h2:k a=r):o.bind k=r:=by rw[h];exact h2
theorem bl{f:Qqj}{e:Ev}{m:M}{b c:Bool}(h:f e=some (m,.bl b))(h2:b=c):jB f e=some c:=by unfold jB;rw[h,←h2];rfl
def ca{F:Qqk}{fs:Qqz}{e:Ev}{xs:List (M×D)}{r:Qzq}(h:fs e=some xs)(h2:F (xs.map (·.2))=r):aC F fs e=r:=by unfold aC;rw[h];exact h2
def qU{ds:Qzz}{k:Int}{d:D}{m n:M}(h:L2.bz ds k=some d):au (m,.lst ds) (n,.int k)=some (aY m,d):=by rw[cR,h];rfl
def acI{α:Type}{l:List α}{f:α→D}{m:M}:bG [(m,f∘l)]=some (.fr,.int (l.length:Int)):=by rw[dF,ln]
def adM{c:Prop}[Decidable c]{α:Type}{x y r:α}(h:c)(h2:x=r):(if c then x else y)=r:=by rw[if_pos h];exact h2
def gj{c:Qqx}{f g:Qqq}{e:Ev}(h:c e=some false):aq (aM c f aS) g e=g e:=by simp[aq,aM,h,aS]
noncomputable abbrev AB:Str := "abcdefghijklmnopqrstuvwxyz"
def Dy(x y:Str):(x++y).length=x.length+y.length:=by
 show(x.cps++y.cps).size=_;rw[Array.size_append];rfl
def oE(ns:List Int)(k:Int)(h0:0≤k):∃c,ky [.int∘ns,.int k]=some (.fr,.int c):=by
 unfold ky fn Iy;symm;by_cases h:k<ns.length
 ·let⟨c,hc⟩:=JL h0 h;refine⟨c,?_⟩;simp only[h,hc];symm;simp only[Mq,pf]
 ·simp only[h];nofun;exact⟨_,rfl⟩
def oC(c k:Int):∃x,ku [.int c,.int k]=some (.fr,.int x):=by
 unfold ku fn HY;nofun;exact⟨_,rfl⟩
def C2(ns:List Int):∃b,qk [.int∘ns]=some (.fr,.bl b):=by
 let⟨c,hc⟩:=oE ns 0 ∅;unfold qk fn Hu;symm;rw[hc];nofun;exact⟨_,rfl⟩
def V4(c sz a k j:Int)(L:Qzq)(z:Str)(o:Qzq)(hz:z.length≤20)(h0:0≤j)(h1:j<9) :
  ∃z' o',sR [.fr\.int c,.fr\.str AB,.fr\.int sz,.fr\.int a,L,.fr\.int k,.fr\.str z,.fr\.int j,o]=some (.nx [.fr\.int c,.fr\.str AB,.fr\.int sz,.fr\.int a,L,.fr\.int k,.fr\.str z',.fr\.int j,o'])∧z'.length≤z.length+1:=by
 have sab:AB.length≤sizeLine:=by decide
 have la:AB.cps.toList.length=26:=by decide +kernel
 have lb:(AB++("0123456789" : Str)).cps.toList.length=36:=by decide +kernel
 have sb:(AB++("0123456789" : Str)).length≤sizeLine:=by decide +kernel
 have sc:AB.length+("0123456789" : Str).length≤sizeLine:=by decide
 have h8:sR [.fr\.int c,.fr\.str AB,.fr\.int sz,.fr\.int a,L,.fr\.int k,.fr\.str z,.fr\.int j,o] =
  (aM (cQ (jB (ae aP (jV 7) (jV 3))) (jB (ae aP (jV 7) (jC (.int 0)))))
   (aw 6 (ae bW (jV 6) (ae au (jV 1) (ae bf (ae bW (jV 8) (ae fW (jV 5) (aK nE (ag (ae aP (jV 7) (jV 3)) ai)))) (jC (.int 26))))))
   (aw 6 (ae bW (jV 6) (ae au (ae bW (jV 1) (jC (.str "0123456789"))) (ae bf (jV 8) (jC (.int 36)))))))
   [.fr\.int c,.fr\.str AB,.fr\.int sz,.fr\.int a,L,.fr\.int k,.fr\.str z,.fr\.int j,.fr\.int (c/192/(j+1)+5*j)]:=by
  unfold sR;refine ax ?_
  ac_rfl
 rw[h8];generalize c/192/(j+1)+5*j=st;have fin:∀d,J.One d→∃y:Str,d=.str y∧y.length=1:=λd ⟨cc,e⟩=>⟨_,e,rfl⟩;have hc:∃b,(cQ (jB (ae aP (jV 7) (jV 3))) (jB (ae aP (jV 7) (jC (.int 0))))) [.fr\.int c,.fr\.str AB,.fr\.int sz,.fr\.int a,L,.fr\.int k,.fr\.str z,.fr\.int j,.fr\.int st]=some b:=by
  symm;by_cases q:j=a
  ·simp only[q,decide_true];exact⟨_,rfl⟩
  ·simp only[q,decide_false];exact⟨_,rfl⟩
 let⟨b,hb⟩:=hc;cases b with
 |true =>
  rw[bK hb];have hm:∀i:Int,∃y:Str,au (.fr,.str AB) (.fr,.int (i%26))=.fr\.str y∧y.length=1:=λi=>by
   let⟨d,e,od⟩:=CT (m:=.fr) (n:=.fr) (x:=AB) (i:=i%26) sab ∅ (by rw[la];omega);let⟨y,rfl,hy⟩:=fin d od;exact⟨y,e,hy⟩
  nofun;let⟨y,e,hy⟩:=hm (st+k*if decide (j=a)=true then 1 else 0);rw[e];symm;rw[yl (by rw[hy];exact dC (show z.length+1≤21 by omega) (by decide))];symm;exact⟨_,_,rfl,by rw[Dy];omega⟩
 |false =>
  rw[bL hb];symm;rw[yl sc];nofun;let⟨d,e,od⟩:=CT (m:=.fr) (n:=.fr) (x:=AB++("0123456789" : Str)) (i:=st%36) sb ∅ (by rw[lb];omega);let⟨y,rfl,hy⟩:=fin d od;rw[e];symm;rw[yl (by rw[hy];exact dC (show z.length+1≤21 by omega) (by decide))];symm;exact⟨_,_,rfl,by rw[Dy];omega⟩
def V5(c sz a k:Int)(fs:List Str)(o6 o7 o8:Qzq)(hs:0≤sz∧sz≤8)(hf:fs.length≤50) :
  ∃z bU fC,w9 [.fr\.int c,.fr\.str AB,.fr\.int sz,.fr\.int a,.bo\.str∘fs,.fr\.int k,o6,o7,o8]=some (.nx [.fr\.int c,.fr\.str AB,.fr\.int sz,.fr\.int a,.bo\.lst ((fs++[z]).map .str),.fr\.int k,.fr\.str z,bU,fC])∧z.length≤20:=by
 let⟨e',l1,z,bU,fC,he,hz⟩:=dh (g:=gN 7) (b:=sR) (m:=.fr) (ds:=cj 0 sz.toNat) (e:=[.fr\.int c,.fr\.str AB,.fr\.int sz,.fr\.int a,.bo\.str∘fs,.fr\.int k,.fr\.str "",o7,o8])
  (λi e=>∃(z:Str) (o7 o8:Qzq),e=[.fr\.int c,.fr\.str AB,.fr\.int sz,.fr\.int a,.bo\.str∘fs,.fr\.int k,.fr\.str z,o7,o8]∧z.length≤i) ⟨"",o7,o8,rfl,aU _⟩
  (λi d e hd bx=>by
   let⟨z,o7,o8,he,hz⟩:=bx;subst he;let⟨hi,rfl⟩:=lR hd;let⟨z',o',q,hl⟩:=V4 c sz a k (0+(i:Int)) (.bo\.str∘fs) z o8 ∅ ∅ ∅;exact⟨_,_,rfl,q,z',_,o',rfl,by omega⟩)
 subst he;rw[kK]at hz;have hz8:z.length≤8:=by omega
 unfold w9;rw[ax (e':=[.fr\.int c,.fr\.str AB,.fr\.int sz,.fr\.int a,.bo\.str∘fs,.fr\.int k,.fr\.str "",o7,o8]) rfl];rw[ax (e':=[.fr\.int c,.fr\.str AB,.fr\.int sz,.fr\.int a,.bo\.str∘fs,.fr\.int k,.fr\.str z,bU,fC]) (by
  have cK:-4611686018427387904≤sz∧sz<4611686018427387904:=by omega
  simp! [aT,cf,ag,ai,jV,gz,gy,id_eq,oq,cK,and_self,if_true];exact l1)]
 have s5:fs.length<sizeLine:=eD hf (by decide);have hb:∃b,(jB (ae (eZ false) (jV 6) (aV (ag (jC (.str "say")) (ag (jC (.str "go")) (ag (jC (.str "part")) (ag (jC (.str "end")) ai))))))) [.fr\.int c,.fr\.str AB,.fr\.int sz,.fr\.int a,.bo\.str∘fs,.fr\.int k,.fr\.str z,bU,fC]=some b:=⟨dS (.str z) [.str "say",.str "go",.str "part",.str "end"],by with_unfolding_all rfl⟩;let⟨b,hb⟩:=hb;cases b with
 |false =>
  rw[ax (e':=[.fr\.int c,.fr\.str AB,.fr\.int sz,.fr\.int a,.bo\.str∘fs,.fr\.int k,.fr\.str z,bU,fC]) (by rw[bL hb];rfl)];refine⟨z,bU,fC,?_,by omega⟩;simp! [cJ,jV,gz,gy,id_eq,oq,ig,if_true,ft,own,ln,s5,tz,tq,List.map_append,mq,mn]
 |true =>
  have s1:z.length+("1" : Str).length≤sizeLine:=dC (show z.length+1≤9 by omega) (by decide);rw[ax (e':=[.fr\.int c,.fr\.str AB,.fr\.int sz,.fr\.int a,.bo\.str∘fs,.fr\.int k,.fr\.str (z ++ "1"),bU,fC]) (by
   rw[bK hb];simp! [aw,ae,jV,jC,gz,gy,id_eq,oq,yl s1,kH,tz,tq])]
  refine⟨z ++ "1",bU,fC,?_,by
   rw[Dy];have:("1" : Str).length=1:=rfl;omega⟩
  simp! [cJ,jV,gz,gy,id_eq,oq,ig,if_true,ft,own,ln,s5,tz,tq,List.map_append,mq,mn]
def Cu(c:Int):∃fs:List Str,(3≤fs.length∧fs.length≤5)∧qm [.int c]=some (.un,.str∘fs):=by
 let⟨x,hx⟩:=oC c 3;let⟨e',l1,fs,o5,o6,o7,o8,he,hl⟩:=dh (g:=gN 5) (b:=w9) (m:=.fr) (ds:=cj 0 (3+x/64%3).toNat) (e:=[.fr\.int x,.fr\.str AB,.fr\.int (1+x%8),.fr\.int (x/8%(1+x%8)),.bo\.lst [],none,none,none,none])
  (λi e=>∃(fs:List Str) (o5 o6 o7 o8:Qzq),e=[.fr\.int x,.fr\.str AB,.fr\.int (1+x%8),.fr\.int (x/8%(1+x%8)),.bo\.str∘fs,o5,o6,o7,o8]∧fs.length=i) ⟨[],none,none,none,none,rfl,rfl⟩
  (λi d e hd bx=>by
   let⟨fs,o5,o6,o7,o8,he,hl⟩:=bx;subst he;let⟨hi,rfl⟩:=lR hd;let⟨z,bU,fC,q,hz⟩:=V5 x (1+x%8) (x/8%(1+x%8)) (0+(i:Int)) fs o6 o7 o8 ∅ ∅;exact⟨_,_,rfl,q,fs++[z],_,_,bU,fC,rfl,by simp[hl]⟩)
 subst he;rw[kK]at hl;refine⟨fs,by omega,?_⟩;unfold qm fn HZ;simp only[cA,bE,bH];rw[ax (e':=[.al\.int c,.fr\.str AB,none,none,none,none,none,none,none]) rfl];rw[ax (e':=[.fr\.int x,.fr\.str AB,none,none,none,none,none,none,none]) (by ac_rfl)];rw[ax (e':=[.fr\.int x,.fr\.str AB,.fr\.int (1+x%8),none,none,none,none,none,none]) (by ac_rfl)];rw[ax (e':=[.fr\.int x,.fr\.str AB,.fr\.int (1+x%8),.fr\.int (x/8%(1+x%8)),none,none,none,none,none]) (by ac_rfl)];rw[ax (e':=[.fr\.int x,.fr\.str AB,.fr\.int (1+x%8),.fr\.int (x/8%(1+x%8)),.bo\.lst [],none,none,none,none]) rfl];rw[ax (e':=[.fr\.int x,.fr\.str AB,.fr\.int (1+x%8),.fr\.int (x/8%(1+x%8)),.bo\.str∘fs,o5,o6,o7,o8]) (by
  have cK:-4611686018427387904≤3+x/64%3∧3+x/64%3<4611686018427387904:=by omega
  ac_rfl)]
 rfl
def UY{ns:List Str}{k:Int}(h0:0≤k)(h1:k<ns.length):∃c,L2.bz (ns.map D.str) k=some (.str c):=VN h0 h1
def qt(c:Int)(ns:List Str)(h:0<ns.length):∃k:Ko,jE [.int c,.str∘ns]=some (.fr,kD k):=by
 unfold jE fn Hv;simp only[cA,bE,bH];have hb:(jB (ae aP (ae bf (jV 0) (jC (.int 6))) (jC (.int 0)))) [.al\.int c,.al\.str∘ns]=some (decide (c%6=0)):=by nofun
 by_cases q:c%6=0
 ·rw[dW (e':=[.al\.int c,.al\.str∘ns]) (m:=.fr) (d:=kD (.inl ((L2.bz [0,1,18446744073709551615,c/24*48271%18446744073709551616] (c/6%4)).getD 0))) (by
   rw[bK (by infer_instance)];nofun;have e:=iZ (l:=[D.int 0,.int 1,.int 18446744073709551615,.int (c/24*48271%18446744073709551616)]) (k:=c/6%4) ∅ (by simp;omega);have e2:=iZ (l:=[(0:Int),1,18446744073709551615,c/24*48271%18446744073709551616]) (k:=c/6%4) ∅ (by simp;omega);rw[e,e2];have:∀(l:List Int) (i:Nat) (h:i<l.length) (h':i<(l.map D.int).length),(l.map D.int)[i]=D.int l[i]:=λl i h h'=>by simp
   have e3:=this [(0:Int),1,18446744073709551615,c/24*48271%18446744073709551616] (c/6%4).toNat (by simp;omega) (by simp;omega);simp! [mq,mn]at e3;rw[e3];rfl)]
  exact⟨_,rfl⟩
 ·rw[gj (by infer_instance)];nofun;let⟨z,e⟩:=UY (ns:=ns) (k:=c/6%ns.length) (gG _ ∅) (gS _ ∅);rw[e];symm;exact⟨.inr z,by simp only[Mq,OB];rfl⟩
noncomputable abbrev De:=Str×Ko×Ko
abbrev ao(q:De):D:=.tup [.str q.1,kD q.2.1,kD q.2.2]
def aaH(q:De):(ao q).cq=true:=by simp only[ao,D.cq,D.cI,qG,Bool.and_self]
def qy{α β:Type}{f:α→β}{l:List α}{k:Int}(h0:0≤k)(h1:k<l.length):∃c∈l,L2.bz (l.map f) k=some (f c):=by
 rw[iZ h0 (by simpa using h1)];exact⟨l[k.toNat]'∅,rN _,by simp⟩
section
variable {m n:M}
end
def aaI{m n:M}{i:Int}(h0:0≤i)(h1:i<8):∃s:Str,au (m,.str "+-*&|^<=") (n,.int i)=some (.fr,.str s):=by
 let⟨d,e,c,rfl⟩:=CT (m:=m) (n:=n) (x := "+-*&|^<=") (i:=i) (by decide) h0 (by rw[show(("+-*&|^<=" : Str).cps.toList.length:Int)=8 by decide +kernel];exact h1);exact⟨_,e⟩
def X2(ns:List Int)(fs:List Str)(hf:0<fs.length)(A2 A3:Qzq)(r k:Int)(ds:List De)(hd:ds.length≤50)(o7 o8 o9:Qzq) :
  ∃r' q bU fC GX,xa [.al\.int∘ns,.al\.str∘fs,A2,A3,.fr\.int r,.bo\ao∘ds,.fr\.int k,o7,o8,o9]=some (.nx [.al\.int∘ns,.al\.str∘fs,A2,A3,.fr\.int r',.bo\.lst ((ds++[q]).map ao),.fr\.int k,bU,fC,GX]):=by
 let⟨x1,h1⟩:=oC r k;let⟨x2,h2⟩:=oC r (k+20);let⟨x3,h3⟩:=oC r (k+40);let⟨b,hb⟩:=C2 ns;have s5:ds.length<sizeLine:=eD hd (by decide);unfold xa;rw[ax (e':=[.al\.int∘ns,.al\.str∘fs,A2,A3,.fr\.int r,.bo\ao∘ds,.fr\.int k,.fr\.int x1,o8,o9]) (by ac_rfl)];rw[ax (e':=[.al\.int∘ns,.al\.str∘fs,A2,A3,.fr\.int r,.bo\ao∘ds,.fr\.int k,.fr\.int x1,.fr\.int x2,o9]) (by ac_rfl)];rw[ax (e':=[.al\.int∘ns,.al\.str∘fs,A2,A3,.fr\.int r,.bo\ao∘ds,.fr\.int k,.fr\.int x1,.fr\.int x2,.fr\.int (x3%8)]) (by ac_rfl)];have fin:∀(r' y1 y2 y3:Int),0≤y3→y3<8→∃q,cJ 5 (aV (ag (ae au (jC (.str "+-*&|^<=")) (jV 9)) (ag (aC jE (ag (jV 7) (ag (jV 1) ai))) (ag (aC jE (ag (jV 8) (ag (jV 1) ai))) ai)))) [.al\.int∘ns,.al\.str∘fs,A2,A3,.fr\.int r',.bo\ao∘ds,.fr\.int k,.fr\.int y1,.fr\.int y2,.fr\.int y3]=some (.nx [.al\.int∘ns,.al\.str∘fs,A2,A3,.fr\.int r',.bo\.lst ((ds++[q]).map ao),.fr\.int k,.fr\.int y1,.fr\.int y2,.fr\.int y3]):=λr' y1 y2 y3 z0 z1=>by
  let⟨s,hs⟩:=aaI (m:=.fr) (n:=.fr) z0 z1;let⟨a,ha⟩:=qt y1 fs hf;let⟨b,hb⟩:=qt y2 fs hf;refine⟨(s,a,b),?_⟩;symm;rw[hs];symm;rw[ha];symm;rw[hb];symm;simp! [s5,if_true,List.map_append,mq,mn,ao]
 cases b with
 |false =>
  rw[ax (e':=[.al\.int∘ns,.al\.str∘fs,A2,A3,.fr\.int r,.bo\ao∘ds,.fr\.int k,.fr\.int x1,.fr\.int x2,.fr\.int (x3%8)]) (by ac_rfl)];let⟨q,hq⟩:=fin r x1 x2 (x3%8) ∅ ∅;exact⟨_,q,_,_,_,hq⟩
 |true =>
  rw[ax (e':=[.al\.int∘ns,.al\.str∘fs,A2,A3,.fr\.int (r/8000000000000000000000000000000000000000000),.bo\ao∘ds,.fr\.int k,.fr\.int (r%1000000000000000000000),.fr\.int (r/1000000000000000000000%1000000000000000000000),.fr\.int (r/1000000000000000000000000000000000000000000%8)]) (by
   rw[bK (by infer_instance)]
   ac_rfl)]
  let⟨q,hq⟩:=fin (r/8000000000000000000000000000000000000000000) (r%1000000000000000000000) (r/1000000000000000000000%1000000000000000000000) (r/1000000000000000000000000000000000000000000%8) ∅ ∅;exact⟨_,q,_,_,_,hq⟩
def Cv(ns:List Int)(fs:List Str)(hf:0<fs.length):∃ds:List De,(1≤ds.length∧ds.length≤12)∧qo [.int∘ns,.str∘fs]=some (.un,ao∘ds):=by
 let⟨c,hc⟩:=oE ns 1 ∅;unfold qo fn H0;simp only[cA,bE,bH];rw[ax (e':=[.al\.int∘ns,.al\.str∘fs,.fr\.int c,none,none,none,none,none,none,none]) (by ac_rfl)];rw[ax (e':=[.al\.int∘ns,.al\.str∘fs,.fr\.int c,.fr\.int (1+c%4),none,none,none,none,none,none]) (by ac_rfl)];have hm:∃many:Int,(1≤many∧many≤12)∧aM (jB (ae aP (ae bf (ae cC (jV 2) (jC (.int 4))) (jC (.int 6))) (jC (.int 1)))) (aw 3 (jC (.int 12))) aS [.al\.int∘ns,.al\.str∘fs,.fr\.int c,.fr\.int (1+c%4),none,none,none,none,none,none]=some (.nx [.al\.int∘ns,.al\.str∘fs,.fr\.int c,.fr\.int many,none,none,none,none,none,none]):=by
  by_cases q:c/4%6=1
  ·exact⟨12,by omega,by rw[bK (by infer_instance)];rfl⟩
  ·exact⟨1+c%4,by omega,by rw[bL (by infer_instance)];rfl⟩
 let⟨many,wj,em⟩:=hm;rw[ax em];rw[ax (e':=[.al\.int∘ns,.al\.str∘fs,.fr\.int c,.fr\.int many,.fr\.int (c/24),none,none,none,none,none]) (by ac_rfl)];rw[ax (e':=[.al\.int∘ns,.al\.str∘fs,.fr\.int c,.fr\.int many,.fr\.int (c/24),.bo\.lst [],none,none,none,none]) rfl];let⟨e',l1,ds,r,o6,o7,o8,o9,he,hl⟩:=dh (g:=gN 6) (b:=xa) (m:=.fr) (ds:=cj 0 many.toNat) (e:=[.al\.int∘ns,.al\.str∘fs,.fr\.int c,.fr\.int many,.fr\.int (c/24),.bo\.lst [],none,none,none,none])
  (λi e=>∃(ds:List De) (r:Int) (o6 o7 o8 o9:Qzq),e=[.al\.int∘ns,.al\.str∘fs,.fr\.int c,.fr\.int many,.fr\.int r,.bo\ao∘ds,o6,o7,o8,o9]∧ds.length=i) ⟨[],_,none,none,none,none,rfl,rfl⟩
  (λi d e hd bx=>by
   let⟨ds,r,o6,o7,o8,o9,he,hl⟩:=bx;subst he;let⟨hi,rfl⟩:=lR hd;let⟨r',q,bU,fC,GX,e⟩:=X2 ns fs hf (.fr\.int c) (.fr\.int many) r (0+(i:Int)) ds ∅ o7 o8 o9;exact⟨_,_,rfl,e,ds++[q],r',_,bU,fC,GX,rfl,by simp[hl]⟩)
 subst he;rw[kK]at hl;rw[ax (e':=[.al\.int∘ns,.al\.str∘fs,.fr\.int c,.fr\.int many,.fr\.int r,.bo\ao∘ds,o6,o7,o8,o9]) (by
  have cK:-4611686018427387904≤many∧many<4611686018427387904:=by omega
  simp! [aT,cf,ag,ai,jV,gz,gy,id_eq,oq,cK,and_self,if_true];exact l1)]
 by_cases q2:ds.length=2
 ·obtain⟨d0,d1,rfl⟩:∃a b,ds=[a,b]:=by
   clear hl l1;obtain _|⟨a,_|⟨b,_|_⟩⟩:=ds
   ·cases q2
   ·cases q2
   ·exact⟨a,b,rfl⟩
   ·cases q2
  by_cases q3:c/4%3=0
  ·refine⟨[d0,(d0.1,d0.2.2,d0.2.1)],by simp,?_⟩;rw[ax (e':=[.al\.int∘ns,.al\.str∘fs,.fr\.int c,.fr\.int many,.fr\.int r,.bo\.lst ([d0,(d0.1,d0.2.2,d0.2.1)].map ao),o6,o7,o8,o9]) (by
    rw[bK (by nofun;simp[q3])];rfl)]
   rfl
  ·refine⟨[d0,d1],by simp,?_⟩;rw[ax (e':=[.al\.int∘ns,.al\.str∘fs,.fr\.int c,.fr\.int many,.fr\.int r,.bo\.lst ([d0,d1].map ao),o6,o7,o8,o9]) (by
    rw[bL (by nofun;simp[q3])];rfl)]
   rfl
 ·refine⟨ds,by omega,?_⟩;rw[ax (e':=[.al\.int∘ns,.al\.str∘fs,.fr\.int c,.fr\.int many,.fr\.int r,.bo\ao∘ds,o6,o7,o8,o9]) (by
   rw[bL (by
    symm;have:¬((ds.length:Int)=2):=by omega
    simp only[this,decide_false];symm)]
   rfl)]
  rfl
abbrev Row.flat:Row→Bool
 |.rk _ _ _ _=>true
 |.cp _ _=>true
 |.sy _=>true
 |_=>false
def MV(c o:Int)(fs:List Str)(hf:0<fs.length)(ds:List De)(hd:0<ds.length):∃r:Row,tN [.int c,.int o,.str∘fs,ao∘ds]=.fr\r.d∧(c%11<7→Row.flat r=true)∧(7≤c%11→c%11<9→∃a t,r=.pt a t∧0≤t)∧(9≤c%11→∃a,r=.pt a (-1)):=by
 let⟨nm,_,hn⟩:=qy (f:=D.str) (l:=fs) (k:=o%60%fs.length) (gG _ ∅) (gS _ ∅);let⟨op,ho⟩:=qt (o/43200) fs hf;let⟨q,_,hq⟩:=qy (f:=ao) (l:=ds) (k:=o/60%12%ds.length) (gG _ ∅) (gS _ ∅);unfold tN fn Jl;simp only[cA,bE,bH];rw[ax (e':=[.al\.int c,.al\.int o,.al\.str∘fs,.al\ao∘ds,.al\.str nm,none,none,none,none]) (by ac_rfl)];rw[ax (e':=[.al\.int c,.al\.int o,.al\.str∘fs,.al\ao∘ds,.al\.str nm,.fr\kD op,none,none,none]) (by ac_rfl)];by_cases q1:c%11<5
 ·refine⟨.rk nm q.1 q.2.1 q.2.2,?_,λ_=>rfl,λz=>by omega,λz=>by omega⟩;rw[dW (e':=[.al\.int c,.al\.int o,.al\.str∘fs,.al\ao∘ds,.al\.str nm,.fr\kD op,.al\.str q.1,.al\kD q.2.1,.al\kD q.2.2]) (m:=.fr) (d:=Row.d (.rk nm q.1 q.2.1 q.2.2)) (by
   rw[bK (by infer_instance)];rw[ax (e':=[.al\.int c,.al\.int o,.al\.str∘fs,.al\ao∘ds,.al\.str nm,.fr\kD op,.al\.str q.1,.al\kD q.2.1,.al\kD q.2.2]) (by ac_rfl)];symm;simp! [qG,Bool.and_self,if_true];rfl)]
  rfl
 rw[gj (by infer_instance)];by_cases q2:c%11=5
 ·refine⟨.cp nm op,?_,λ_=>rfl,λz=>by omega,λz=>by omega⟩;rw[dW (e':=[.al\.int c,.al\.int o,.al\.str∘fs,.al\ao∘ds,.al\.str nm,.fr\kD op,none,none,none]) (m:=.fr) (d:=Row.d (.cp nm op)) (by
   rw[bK (by infer_instance)]
   ac_rfl)]
  rfl
 rw[gj (by infer_instance)];by_cases q3:c%11=6
 ·refine⟨.sy op,?_,λ_=>rfl,λz=>by omega,λz=>by omega⟩;rw[dW (e':=[.al\.int c,.al\.int o,.al\.str∘fs,.al\ao∘ds,.al\.str nm,.fr\kD op,none,none,none]) (m:=.fr) (d:=Row.d (.sy op)) (by
   rw[bK (by infer_instance)]
   ac_rfl)]
  rfl
 rw[gj (by infer_instance)];by_cases q4:c%11<9
 ·refine⟨.pt op (o/720%60),?_,λz=>by omega,λ_ _=>⟨_,_,rfl,by omega⟩,λz=>by omega⟩;rw[dW (e':=[.al\.int c,.al\.int o,.al\.str∘fs,.al\ao∘ds,.al\.str nm,.fr\kD op,none,none,none]) (m:=.fr) (d:=Row.d (.pt op (o/720%60))) (by
   rw[bK (by infer_instance)]
   ac_rfl)]
  rfl
 ·refine⟨.pt op (-1),?_,λz=>by omega,λ_ z=>by omega,λ_=>⟨_,rfl⟩⟩;rw[gj (by infer_instance)]
  ac_rfl
abbrev Row.gp:Row→Bool
 |.go _=>true
 |_=>false
abbrev Row.pC:Row→Bool
 |.pt _ _=>true
 |_=>false
abbrev Row.dX:Row→Bool
 |.en=>true
 |_=>false
def rH(r:Row):decide (r.word=("go" : Str))=Row.gp r:=by
 cases r with
 |rk x s a b=>exact(by decide +kernel:decide (("reckon" : Str) = "go")=false)
 |cp x a=>exact(by decide +kernel:decide (("copy" : Str) = "go")=false)
 |sy a=>exact(by decide +kernel:decide (("say" : Str) = "go")=false)
 |go t=>exact(by decide +kernel:decide (("go" : Str) = "go")=true)
 |pt a t=>exact(by decide +kernel:decide (("part" : Str) = "go")=false)
 |en=>exact(by decide +kernel:decide (("end" : Str) = "go")=false)
def ER(r:Row):decide (r.word=("part" : Str))=Row.pC r:=by
 cases r with
 |rk x s a b=>exact(by decide +kernel:decide (("reckon" : Str) = "part")=false)
 |cp x a=>exact(by decide +kernel:decide (("copy" : Str) = "part")=false)
 |sy a=>exact(by decide +kernel:decide (("say" : Str) = "part")=false)
 |go t=>exact(by decide +kernel:decide (("go" : Str) = "part")=false)
 |pt a t=>exact(by decide +kernel:decide (("part" : Str) = "part")=true)
 |en=>exact(by decide +kernel:decide (("end" : Str) = "part")=false)
def nH(r:Row):decide (r.word=("end" : Str))=Row.dX r:=by
 cases r with
 |rk x s a b=>exact(by decide +kernel:decide (("reckon" : Str) = "end")=false)
 |cp x a=>exact(by decide +kernel:decide (("copy" : Str) = "end")=false)
 |sy a=>exact(by decide +kernel:decide (("say" : Str) = "end")=false)
 |go t=>exact(by decide +kernel:decide (("go" : Str) = "end")=false)
 |pt a t=>exact(by decide +kernel:decide (("part" : Str) = "end")=false)
 |en=>exact(by decide +kernel:decide (("end" : Str) = "end")=true)
def fB(m n:M)(r:Row):au (m,r.d) (n,.int 0)=some (aY m,.str r.word):=by
 show(L2.bz r.ds 0).map (λd=>(aY m,d))=_;rw[Row.at0];rfl
def Lg{rs:List Row}{i:Nat}{d:D}(h:(bY (rs.map Row.d))[i]?=some d):∃r,rs[i]?=some r∧d=.tup [.int i,r.d]:=by
 unfold bY at h;rw[rQ,cF]at h;cases e:rs[i]? with
 |none=>rw[e]at h;cases h
 |some r=>rw[e]at h;cases h;exact⟨r,rfl,rfl⟩
abbrev bA(n:Int):Row→List Int
 |.en=>[]
 |.go t=>[t]
 |.pt _ t=>[n+1,t]
 |_=>[n+1]
def aO(rs:List Row)(i j:Nat):Prop:=∃r,rs[i]?=some r∧(j:Int)∈bA i r∧j<rs.length
def MX(rs:List Row)(n:Nat)(r:Row)(h:rs[n]?=some r):tm [Row.d∘rs,.int n]=some (.un,.lst ((bA n r).map .int)):=by
 have aX:n<rs.length:=(bp.mp h).1;have BU:L2.bz (rs.map Row.d) (n:Int)=some r.d:=by
  rw[kE (by rw[ln];exact aX),vm];rw[du aX]at h;rw[dP h]
 generalize (n:Int)=nn at BU ⊢;unfold tm fn HW;symm;rw[BU];symm;simp! [fB,oq,fT,fV,bO,nH,rH,ER];cases r with
 |en=>simp only[Row.dX,bA];symm
 |go t =>
  have q:∀{m n:M},au (m,Row.d (.go t)) (n,.int 1)=some (aY m,.int t):=λ{m n}=>rfl
  ac_rfl
 |pt a t =>
  have q:∀{m n:M},au (m,Row.d (.pt a t)) (n,.int 2)=some (aY m,.int t):=λ{m n}=>rfl
  ac_rfl
 |rk x s a b =>
  ac_rfl
 |cp x a =>
  ac_rfl
 |sy a =>
  ac_rfl
def C3(rs:List Row)(n:Nat)(r:Row)(h:rs[n]?=some r):oi [Row.d∘rs,.int n]=some (.un,.lst ((bA n r).map .int)):=MX rs n r h
structure Good (rs:List Row):Prop where
 pos:0<rs.length
 bA:∀(n:Nat) r,rs[n]?=some r→∀m∈aL.bA n r,0≤m∧m<rs.length
 np:∀(n:Nat) a t,rs[n]?=some (.pt a t)→t≠(n:Int)+1
theorem oA:∀(N:Nat) (l:List Nat),l.Nodup→(∀x∈l,x<N)→l.length≤N
 |0,l,_,h=>by
  cases l with
  |nil=>exact aU _
  |cons a l=>exact absurd (h a cg) (j0 a)
 |N+1,l,hn,h=>by
  have ih:=oA N (l.erase N) (hn.erase N) (λx hx=>by
   have h1:=h x (List.mem_of_mem_erase hx);have h2:x≠N:=λe=>by subst e;exact(List.Nodup.not_mem_erase hn) hx
   omega)
  rw[List.length_erase]at ih;split at ih<;>omega
abbrev ak(l:List Nat):Qzz:=l.map λ(n:Nat)=>↥n
local macro_rules|`(⇑$x)=>`(D.lst (ak $x))
def dE(l:List Nat):(ak l).length=l.length:=by simp[ak]
def xT(l:List Nat)(x:Nat):ak l++[↥x]=ak (l++[x]):=by simp[ak]
def cn(rs:List Row)(n:Nat):List Int:=match rs[n]? with
 |some r=>bA n r
 |none=>[]
def dO(rs:List Row)(n:Nat):List Nat:=(cn rs n).map Int.toNat
set_option tactic.hygienic true in
def Cw{rs:List Row}(g:Good rs){n:Nat}{m:Int}(h:m∈cn rs n):0≤m∧m<rs.length:=by
 unfold cn at h;split at h
 ·rename_i r hr;exact g.bA _ _ hr _ h
 ·cases h
def yy{rs:List Row}(g:Good rs)(n:Nat):(cn rs n).map D.int=ak (dO rs n):=by
 unfold ak dO;rw[gw];refine rR λm hm=>?_;have:=Cw g hm;show D.int m=D.int ((m.toNat:Nat):Int);rw[z8 this.1]
set_option tactic.hygienic true in
def tV{rs:List Row}(g:Good rs){n m:Nat}(h:m∈dO rs n):aO rs n m:=by
 let⟨x,hx,rfl⟩:=bQ.mp h;have b:=Cw g hx;unfold cn at hx;split at hx
 ·rename_i r hr;exact⟨r,hr,by rw[z8 b.1];exact hx,by omega⟩
 ·cases hx
def J4{rs:List Row}{n m:Nat}(h:aO rs n m):m∈dO rs n:=by
 let⟨r,hr,hm,_⟩:=h;refine bQ.mpr ⟨(m:Int),?_,by simp⟩;unfold cn;rw[hr];exact hm
def dI(rs:List Row):Qzz:=(List.range rs.length).map λn=>D.lst ((cn rs n).map D.int)
theorem Jn{fe:Qqj}{m m':M}{fr:Ev}:∀{ds:Qzz}{G:Nat→D},(∀(k:Nat) d,ds[k]?=some d→fe (some (m,d)::fr)=some (m',G k))→dM dN fe m fr ds=some ((List.range ds.length).map λk=>(m',G k))
 |[],G,_=>rfl
 |d::ds,G,h=>by
  have ih:=Jn (fe:=fe) (m:=m) (m':=m') (fr:=fr) (ds:=ds) (G:=λk=>G (k+1)) λk e he=>h (k+1) e (by simpa using he);rw[dM,show dN (some (m,d)::fr)=some true from rfl,oq,if_pos rfl,h 0 d rfl,oq,ih,oq,f6,List.range_succ_eq_map,mq,gw];rfl
def aaJ{m:M}(hm:m=.fr∨m=.un){N:Nat}(h:N≤1000)(G:Nat→D):i6 ((List.range N).map λk=>(m,G k))=some (.un,.lst ((List.range N).map G)):=by
 unfold i6;rw[if_pos (by rw[ln,vj];exact dC h (by decide)),if_pos (by rw[List.all_map];exact lu.mpr λ_ _=>by rcases hm with rfl|rfl<;>rfl),gw];rfl
def Cb{rs:List Row}(hl:rs.length≤800):qi [Row.d∘rs]=some (.un,.lst (dI rs)):=by
 have ex:=Jn (fe:=aC tm (ag (jV 1) (ag (jV 0) ai))) (m:=.fr) (m':=.un) (fr:=[.al\Row.d∘rs]) (ds:=cj 0 rs.length) (G:=λn=>D.lst ((cn rs n).map D.int)) (λk d hd=>by
  let⟨hk,rfl⟩:=lR hd;have hr:rs[k]?=some (rs[k]'hk):=by simp
  have e:=MX rs k _ hr;have ef:cn rs k=bA k (rs[k]'hk):=by unfold cn;rw[hr]
  rw[ef,show(0:Int)+(k:Int)=(k:Int) by omega]
  ac_rfl)
 rw[kK]at ex;have cK:-4611686018427387904≤(rs.length:Int)∧(rs.length:Int)<4611686018427387904:=by omega
 have ht:(rs.length:Int).toNat=rs.length:=by omega
 unfold qi fn Hk;simp! [aF,cv,cf,aK,ag,ai,jV,mq,mn,List.length_cons,List.length_nil,List.replicate,List.nil_append,List.cons_append,List.append_nil,gz,id_eq,oq,dF,ln,cK,and_self,if_true,ht,Nat.sub_self,Nat.reduceAdd,Nat.reduceSub];rw[show f9 [.al\Row.d∘rs] [0]=[.al\Row.d∘rs] from rfl];rw[ex,oq,aaJ (.inr rfl) ∅,oq];rfl
abbrev GY(k:Nat)(e:Ev):Nat:=match e[k]? with
 |some (some (_,.dk ks))=>ks.length
 |_=>0
abbrev bj(ks:List Nat):List (Key×D):=ks.map λ(n:Nat)=>(.inl (n:Int),.bl true)
theorem DY:∀(ks:List Nat) (n:Nat),(cS (bj ks) (.inl (n:Int))).isSome=decide (n∈ks)
 |[],n=>rfl
 |k::ks,n=>by
  have ih:=DY ks n;show(((((Key.inl (k:Int):Key),D.bl true)::bj ks).find? λkv=>decide (kv.1=.inl (n:Int))).map (·.2)).isSome=_;rw[List.find?_cons];by_cases h:k=n
  ·subst h;rw[eC rfl];simp
  ·have f7:¬((Key.inl (k:Int):Key)=.inl (n:Int)):=λe=>h (Int.ofNat_inj.mp (Key.inl.inj e));rw[fI f7];have h':¬n=k:=λz=>h z.symm;simp only[List.mem_cons,h',false_or];exact ih
def MY{ks:List Nat}{n:Nat}(h:n∉ks):putD (bj ks) (.inl (n:Int)) (.bl true)=bj (ks++[n]):=by
 have ha:((bj ks).any λkv=>decide (kv.1=.inl (n:Int)))=false:=by
  rw[List.any_eq_false];intro kv fj;let⟨q,hq,rfl⟩:=bQ.mp fj;simp only[decide_eq_true_eq];intro e;exact h ((Int.ofNat_inj.mp (Key.inl.inj e))▸hq)
 unfold putD;rw[ha,if_neg bw];simp only[bj,List.map_append,mq,mn]
def yz(ks:List Nat):(bj ks).length=ks.length:=by simp[bj]
def bu(S:List (List Nat)):Qzz:=S.map λl=>⇑l
def gB(Bk:List (List Nat)):D:=.lst ((Bk.map ak).map D.lst)
def X3(Bk:List (List Nat)):gB Bk=.lst (bu Bk):=by unfold gB bu;rw[gw];rfl
def X4{A0 A3:Qzq}{Bk:List (List Nat)}{n m:Nat}(hm:m<Bk.length)(hl:(Bk.getD m []).length≤5000) :
  tG [A0,some (.nb,gB Bk),.al\↥n,A3,.al\↥m]=some (.nx [A0,some (.nb,gB (Bk.set m (Bk.getD m []++[n]))),.al\↥n,A3,.al\↥m]):=by
 have wm:dR (Bk.map ak).length (m:Int)=some m:=by
  unfold dR;rw[ln,if_pos ∅,if_pos ∅];simp
 have hd:(Bk.map ak)[m]?=some (ak (Bk.getD m [])):=by
  rw[cF,du hm,mB,du hm];rfl
 have hs:(ak (Bk.getD m [])).length<sizeLine:=by rw[dE];exact eD hl (by decide)
 have e1:(Bk.map ak).set m (ak (Bk.getD m []++[n]))=(Bk.set m (Bk.getD m []++[n])).map ak:=by rw[List.map_set]
 unfold tG gB;simp! [yT,jV,gz,gy,id_eq,oq,mX,uj,pf,if_true,As,JV,wm,hd,hs,xT,e1,tz,tq]
def xU{Bk:List (List Nat)}{m j:Nat}{v:List Nat}(hm:m<Bk.length):(Bk.set m v).getD j []=if j=m then v else Bk.getD j []:=by
 rw[mB,mB,mz];by_cases h:m=j
 ·subst h;simp[hm]
 ·have h':¬j=m:=λz=>h z.symm;simp[h,h']
theorem IE{A0 A3:Qzq}{n:Nat}:∀(ms:List Nat) (Bk:List (List Nat)) (c:Nat) (o4:Qzq),(∀m∈ms,m<Bk.length)→(∀j,(Bk.getD j []).length≤c)→c+ms.length≤5000 →
  ∃lK hX,forL (gN 4) tG .al (ak ms) [A0,some (.nb,gB Bk),.al\↥n,A3,o4]=some (.nx [A0,some (.nb,gB lK),.al\↥n,A3,hX])∧lK.length=Bk.length∧(∀j,(lK.getD j []).length≤c+ms.length)∧(∀j x,x∈Bk.getD j []→x∈lK.getD j [])∧(∀m∈ms,n∈lK.getD m [])∧∀j x,x∈lK.getD j []→x∈Bk.getD j []∨(x=n∧j∈ms)
 |[],Bk,c,o4,_,hc,_=>⟨Bk,o4,by simp[ak,forL],rfl,λj=>by have:=hc j;simp;exact this,λj x h=>h,(λm hm=>nomatch hm),λj x h=>.inl h⟩
 |m::ms,Bk,c,o4,hm,hc,hl=>by
  have kj:=hm m cg;have sC:=hc m;rw[f6]at hl;let⟨lK,hX,q1,q2,q3,q4,q5,q6⟩:=IE (A0:=A0) (A3:=A3) (n:=n) ms (Bk.set m (Bk.getD m []++[n])) (c+1) (.al\↥m) (λx hx=>by rw[fZ];exact hm x (cT _ hx)) (λj=>by
   rw[xU kj];split
   ·rw[fw];simp only[List.length_cons,List.length_nil];omega
   ·have:=hc j;omega) ∅
  refine⟨lK,hX,?_,by rw[q2,fZ],λj=>by have:=q3 j;rw[f6];omega,λj x hx=>q4 j x ?_,λx hx=>?_,λj x hx=>?_⟩
  ·rw[show ak (m::ms)=↥m::ak ms from rfl,forL,show gN 4 (M.al,↥m) [A0,some (.nb,gB Bk),.al\↥n,A3,o4]=some [A0,some (.nb,gB Bk),.al\↥n,A3,.al\↥m] from rfl,oq,X4 kj ∅,oq];exact q1
  ·rw[xU kj];split
   ·rename_i e;subst e;exact jn _ hx
   ·exact hx
  ·rcases dQ.mp hx with rfl|hx
   ·refine q4 x n ?_;rw[xU kj,if_pos rfl];simp
   ·exact q5 x hx
  ·rcases q6 j x hx with z|z
   ·rw[xU kj]at z;split at z
    ·rename_i e;subst e;rcases iq.mp z with y|y
     ·exact .inl y
     ·exact .inr ⟨by simpa using y,cg⟩
    ·exact .inl z
   ·exact .inr ⟨z.1,cT _ z.2⟩
set_option tactic.hygienic true in
def J5(rs:List Row)(n:Nat):(dO rs n).length≤2:=by
 unfold dO cn;rw[ln];split
 ·rename_i r _;cases r<;>simp[bA]
 ·simp
def X5{rs:List Row}(g:Good rs):dI rs=bu ((List.range rs.length).map (dO rs)):=by
 unfold dI bu;rw[gw];refine rR λn _=>?_;show D.lst ((cn rs n).map D.int)=D.lst (ak (dO rs n));rw[yy g]
def V6{rs:List Row}(g:Good rs){i:Nat}{d:D}(h:(bY (dI rs))[i]?=some d):i<rs.length∧d=.tup [↥i,.lst (ak (dO rs i))]:=by
 unfold bY dI at h;rw[rQ,cF]at h;rcases vh i rs.length with z|z
 ·rw[Fv z]at h;cases h;exact⟨z,by show D.tup [↥i,D.lst ((cn rs i).map D.int)]=_;rw[yy g]⟩
 ·rw[pO (by simpa using z)]at h;cases h
def Ug{rs:List Row}(g:Good rs)(hl:rs.length≤800):∃Bk:List (List Nat),xR [.lst (dI rs)]=.fr\.lst (bu Bk)∧Bk.length=rs.length∧(∀n m,aO rs n m→n∈Bk.getD m [])∧∀n m,n∈Bk.getD m []→aO rs n m:=by
 have cK:-4611686018427387904≤(rs.length:Int)∧(rs.length:Int)<4611686018427387904:=by omega
 have ht:(rs.length:Int).toNat=rs.length:=by omega
 have sl:(dI rs).length=rs.length:=by simp[dI]
 have r0:∀j,(List.replicate rs.length ([]:List Nat)).getD j []=[]:=λj=>by
  rw[mB,vd];split<;>rfl
 let⟨e',l1,Bk,o2,o3,o4,he,b1,b2,b3,b4⟩:=dh (g:=gT 2 (bR (gN 2) (bR (gN 3) dJ))) (b:=B8) (m:=.al) (ds:=bY (dI rs)) (e:=[.al\.lst (dI rs),some (.nb,gB (List.replicate rs.length [])),none,none,none])
  (λi e=>∃(Bk:List (List Nat)) (o2 o3 o4:Qzq),e=[.al\.lst (dI rs),some (.nb,gB Bk),o2,o3,o4]∧Bk.length=rs.length∧(∀j,(Bk.getD j []).length≤2*i)∧(∀n,n<i→∀m,aO rs n m→n∈Bk.getD m [])∧∀j x,x∈Bk.getD j []→aO rs x j)
  ⟨List.replicate rs.length [],none,none,none,rfl,by simp,λj=>by rw[r0];simp,λn h=>absurd h (Nat.not_lt_zero n),λj x h=>by rw[r0]at h;cases h⟩
  (λi d e hd bx=>by
   let⟨Bk,o2,o3,o4,he,b1,b2,b3,b4⟩:=bx;subst he;let⟨hi,rfl⟩:=V6 g hd;have lL:=J5 rs i;let⟨lK,hX,q1,q2,q3,q4,q5,q6⟩:=IE (A0:=.al\.lst (dI rs)) (A3:=.al\.lst (ak (dO rs i))) (n:=i) (dO rs i) Bk (2*i) o4 (λm hm=>by
    rw[b1];let⟨_,_,_,z⟩:=tV g hm;exact z) b2 ∅
   refine⟨_,_,rfl,?_,lK,.al\↥i,.al\.lst (ak (dO rs i)),hX,rfl,by rw[q2,b1],λj=>by have:=q3 j;omega,λn hn m hs=>?_,λj x hx=>?_⟩
   ·unfold B8;rw[bT];show aT (bF (jV 3)) (gN 4) tG [.al\.lst (dI rs),some (.nb,gB Bk),.al\↥i,.al\.lst (ak (dO rs i)),o4]=_;simp! [aT,bF,jV,gz,gy,id_eq,oq,b9,oy];exact q1
   ·by_cases e:n=i
    ·subst e;exact q5 m (J4 hs)
    ·exact q4 m n (b3 n ∅ m hs)
   ·rcases q6 j x hx with z|z
    ·exact b4 j x z
    ·let⟨rfl,hj⟩:=z;exact tV g hj)
 subst he;have hE:(bY (dI rs)).length=rs.length:=by simp[bY,sl]
 rw[hE]at b3;refine⟨Bk,?_,b1,λn m hs=>b3 n ?_ m hs,λn m h=>b4 m n h⟩
 ·have n0:((cj 0 rs.length).map λ_=>([]:Qzz))=(List.replicate rs.length ([]:List Nat)).map ak:=by
   unfold cj;rw[gw];exact z7 (by simp) λi h1 h2=>by simp[ak]
  have nb0:EE 1 [.al\.lst (dI rs),none,none,none,none]=true:=rfl;have hs:(cj 0 rs.length).length<sizeLine:=by rw[kK];exact eD hl (by decide)
  unfold xR fn J1;simp only[cA,bE,bH];rw[ax (e':=[.al\.lst (dI rs),some (.nb,gB (List.replicate rs.length [])),none,none,none]) (by
   simp! [yS,cf,aK,ag,ai,jV,gz,id_eq,oq,dF,sl,cK,and_self,if_true,ht,nb0,hs,n0,tz,tq,gB])]
  rw[ax (e':=[.al\.lst (dI rs),some (.nb,gB Bk),o2,o3,o4]) (by
   rw[bT,show aW 0 [.al\.lst (dI rs),some (.nb,gB (List.replicate rs.length [])),none,none,none]=[.al\.lst (dI rs),some (.nb,gB (List.replicate rs.length [])),none,none,none] from rfl];simp! [aT,gb,ag,jV,ai,gz,gy,oq,id_eq,b9,oy];exact l1)]
  rw[←X3];rfl
 ·let⟨r,hr,_⟩:=hs;exact(bp.mp hr).1
def yg(N:Nat):cj 0 N=ak (List.range N):=by
 unfold cj ak;exact rR λk _=>by rw[Int.zero_add]
theorem tf{fc:Qqx}{fe:Qqj}{m:M}{fr:Ev}{p:Nat→Bool}:∀(ks:List Nat),(∀k∈ks,fc (some (m,↥k)::fr)=some (p k)∧fe (some (m,↥k)::fr)=.fr\↥k)→dM fc fe m fr (ak ks)=some ((ak (ks.filter p)).map λx=>(M.fr,x))
 |[],_=>rfl
 |k::ks,h=>by
  let⟨h1,h2⟩:=h k cg;have ih:=tf (fc:=fc) (fe:=fe) (m:=m) (fr:=fr) (p:=p) ks λx hx=>h x (cT _ hx);rw[show ak (k::ks)=↥k::ak ks from rfl,dM,h1,oq,List.filter_cons];cases p k with
  |true=>rw[if_pos rfl,h2,oq,ih,if_pos rfl];rfl
  |false=>rw[if_neg bw,ih,if_neg bw]
mutual
theorem J6:∀d:D,J.plain d=true→PyData.eqv (toPy d) (toPy d)=true
 |.non,_=>by simp[toPy,PyData.eqv]
 |.bl b,_=>by simp[toPy,PyData.eqv]
 |.int i,_=>by simp[toPy,PyData.eqv]
 |.str x,_=>by simp[toPy,PyData.eqv]
 |.ty n,h=>by simp[J.plain]at h
 |.dk _,h=>by simp[J.plain]at h
 |.dt _,h=>by simp[J.plain]at h
 |.tup ds,h=>by
  simp only[toPy,PyData.eqv];exact Ck ds (by simpa only[J.plain]using h)
 |.lst ds,h=>by
  simp only[toPy,PyData.eqv];exact Ck ds (by simpa only[J.plain]using h)
theorem Ck:∀ds:Qzz,J.fF ds=true→PyData.eqvAll (cX ds) (cX ds)=true
 |[],_=>by simp[cX,PyData.eqvAll]
 |d::ds,h=>by
  have h':J.plain d=true∧J.fF ds=true:=by simpa[J.fF]using h
  simp only[cX,PyData.eqvAll,J6 d h'.1,Ck ds h'.2,Bool.and_self]
end
theorem Jo{n:Nat}:∀{ds:Qzz},(∀d∈ds,(toPy d).depth≤n)→PyData.depthAll (cX ds)≤n
 |[],_=>by simp[cX,PyData.depthAll]
 |d::ds,h=>by
  have:=Jo (ds:=ds) λx hx=>h x (cT _ hx);have h1:=h d cg;simp only[cX,PyData.depthAll];omega
theorem tJ:∀{ds:Qzz},(∀d∈ds,J.plain d=true)→J.fF ds=true
 |[],_=>by simp[J.fF]
 |d::ds,h=>by simp only[J.fF,h d List.mem_cons_self,tJ λx hx=>h x (List.mem_cons_of_mem _ hx),Bool.and_self]
def V7{ds:Qzz}(h1:∀d∈ds,J.plain d=true)(h2:∀d∈ds,(toPy d).depth≤10):jS (.lst ds) (.lst ds)=true:=by
 have hd:(toPy (.lst ds)).depth≤60:=by
  simp only[toPy,PyData.depth];have:=Jo h2;omega
 simp only[jS,J.plain,tJ h1,oN,Bool.and_self,Bool.true_and];exact eC ∅
def aaK{m n:M}{ds:Qzz}(h1:∀d∈ds,J.plain d=true)(h2:∀d∈ds,(toPy d).depth≤10):ip (m,.lst ds) (n,.lst ds)=some (.fr,.bl false):=by
 have e:=J6 (.lst ds) (by simp only[J.plain];exact tJ h1);simp only[ip,V7 h1 h2,if_true,e,Bool.not_true]
abbrev cV(q:Int×Int):D:=.tup [.int q.1,.int q.2]
def aZ(l:List (Int×Int)):Qzz:=l.map cV
def UZ(l:List (Int×Int)):∀d∈aZ l,J.plain d=true:=λd hd=>by
 let⟨q,_,rfl⟩:=bQ.mp hd;simp[cV,J.plain,J.fF]
def U0(l:List (Int×Int)):∀d∈aZ l,(toPy d).depth≤10:=λd hd=>by
 let⟨q,_,rfl⟩:=bQ.mp hd;simp[cV,toPy,cX,PyData.depth,PyData.depthAll]
def C4(l:List (Int×Int)):(aZ l).length=l.length:=by simp[aZ]
def J7(l:List (Int×Int))(a b:Int):aZ l++[.tup [.int a,.int b]]=aZ (l++[(a,b)]):=by simp[aZ,cV]
def aR(rs:List Row)(k:Nat):List (Int×Int):=(-1,0)::(List.range k).flatMap λn=>(cn rs n).map λm=>((n:Int),m)
def oD(rs:List Row)(k:Nat):aR rs (k+1)=aR rs k++(cn rs k).map λm=>((k:Int),m):=by
 unfold aR;rw[List.range_succ,List.flatMap_append];simp
def Cy(rs:List Row)(n:Nat):(cn rs n).length≤2:=by
 have:=J5 rs n;unfold dO at this;rwa [ln]at this
theorem ub(rs:List Row):∀k,(aR rs k).length≤2*k+1
 |0=>by simp[aR]
 |k+1=>by
  have:=ub rs k;have:=Cy rs k;rw[oD,fw,ln];omega
theorem HN{A0 A3:Qzq}{n:Int}:∀(ms:List Int) (l:List (Int×Int)) (o4:Qzq),l.length+ms.length≤5000→∃hX,forL (gN 4) tF .fr (ms.map D.int) [A0,.bo\.lst (aZ l),.fr\.int n,A3,o4]=some (.nx [A0,.bo\.lst (aZ (l++ms.map λm=>(n,m))),.fr\.int n,A3,hX])
 |[],l,o4,_=>⟨o4,by simp[forL]⟩
 |m::ms,l,o4,hl=>by
  rw[f6]at hl;let⟨hX,q⟩:=HN (A0:=A0) (A3:=A3) (n:=n) ms (l++[(n,m)]) (.fr\.int m) (by rw[fw];simp only[List.length_cons,List.length_nil];omega);refine⟨hX,?_⟩;have hs:l.length<sizeLine:=eD (show l.length≤5000 by omega) (by decide);rw[mq,forL,show gN 4 (M.fr,D.int m) [A0,.bo\.lst (aZ l),.fr\.int n,A3,o4]=some [A0,.bo\.lst (aZ l),.fr\.int n,A3,.fr\.int m] from rfl,oq];have hb:tF [A0,.bo\.lst (aZ l),.fr\.int n,A3,.fr\.int m]=some (.nx [A0,.bo\.lst (aZ (l++[(n,m)])),.fr\.int n,A3,.fr\.int m]):=by
   unfold tF;symm;rw[C4,if_pos hs,J7]
  rw[hb,oq];simpa using q
def V8{rs:List Row}{i:Nat}{d:D}(h:(bY (dI rs))[i]?=some d):i<rs.length∧d=.tup [↥i,.lst ((cn rs i).map D.int)]:=by
 unfold bY dI at h;rw[rQ,cF]at h;rcases vh i rs.length with z|z
 ·rw[Fv z]at h;cases h;exact⟨z,rfl⟩
 ·rw[pO (by simpa using z)]at h;cases h
def U1{rs:List Row}(hl:rs.length≤800):xQ [Row.d∘rs]=some (.un,.lst (aZ (aR rs rs.length))):=by
 have af:=Cb hl;let⟨e',l1,o2,o3,o4,he⟩:=dh (g:=gT 2 (bR (gN 2) (bR (gN 3) dJ))) (b:=B7) (m:=.fr) (ds:=bY (dI rs)) (e:=[.al\Row.d∘rs,.bo\.lst (aZ (aR rs 0)),none,none,none])
  (λi e=>∃(o2 o3 o4:Qzq),e=[.al\Row.d∘rs,.bo\.lst (aZ (aR rs i)),o2,o3,o4])
  ⟨none,none,none,rfl⟩
  (λi d e hd bx=>by
   let⟨o2,o3,o4,he⟩:=bx;subst he;let⟨hi,rfl⟩:=V8 hd;have h1:=ub rs i;have h2:=Cy rs i;let⟨hX,q⟩:=HN (A0:=.al\Row.d∘rs) (A3:=.fr\.lst ((cn rs i).map D.int)) (n:=(i:Int)) (cn rs i) (aR rs i) o4 ∅;refine⟨_,_,rfl,?_,.fr\↥i,.fr\.lst ((cn rs i).map D.int),hX,by rw[oD]⟩;unfold B7;rw[bT];show aT (bF (jV 3)) (gN 4) tF [.al\Row.d∘rs,.bo\.lst (aZ (aR rs i)),.fr\↥i,.fr\.lst ((cn rs i).map D.int),o4]=_;simp! [aT,bF,jV,gz,gy,id_eq,oq,b9,oy];exact q)
 subst he;have hE:(bY (dI rs)).length=rs.length:=by simp[bY,dI]
 rw[hE]at l1;unfold xQ fn J0;simp only[cA,bE,bH];rw[ax (e':=[.al\Row.d∘rs,.bo\.lst (aZ (aR rs 0)),none,none,none]) rfl];rw[ax (e':=[.al\Row.d∘rs,.bo\.lst (aZ (aR rs rs.length)),o2,o3,o4]) (by
  simp! [aT,gb,ag,jV,ai,aC,gz,gy,oq,id_eq,mq,mn,af,b9,oy];exact l1)]
 rfl
def V9{m:M}(ws:List Int):iC m (ws.map .int)=some (.un,.int∘ws):=by
 unfold iC;rw[if_pos (Ci ws),if_pos (Ci ws),ite_self,ite_self]
def X6(ws:List Int)(lo hi:Option Int):J.cut (ws.map D.int) lo hi=(J.cut ws lo hi).map D.int:=by
 unfold J.cut;rw[ln,List.map_take,List.map_drop]
def Lh{m:M}(ws:List Int)(lo hi:Option Int):iV (m,.int∘ws) lo hi=some (.un,.lst ((J.cut ws lo hi).map .int)):=by
 unfold iV uW Ew;simp only[X6,V9]
theorem Jp:∀xs:List Int,k6 (xs.map .int)=some xs
 |[]=>rfl
 |x::xs=>by rw[mq,k6,Jp xs];rfl
def Cm(ns:List Int)(k:Int)(h:0≤k):∃x,ql [.int∘ns,.int k]=some (.fr,.int x):=by
 let⟨b,hb⟩:=C2 ns;let⟨c,hc⟩:=oE ns k h;let⟨x,hx⟩:=oC (J.cut ns none (some 4)).sum k;unfold ql fn HG;simp only[cA,bE,bH];cases b with
 |true =>
  refine⟨c,?_⟩;rw[dW (e':=[.al\.int∘ns,.al\.int k]) (m:=.fr) (d:=.int c) (by
   rw[bK (by infer_instance)]
   ac_rfl)]
  rfl
 |false =>
  refine⟨x,?_⟩;rw[gj (by infer_instance)];symm;rw[Lh];symm;simp! [uZ,Jp,oq];symm;rw[hx];symm
def jI{rs:List Row}{n:Nat}{r:Row}(h:rs[n]?=some r):L2.bz (rs.map Row.d) (n:Int)=some r.d:=by
 have aX:n<rs.length:=(bp.mp h).1;rw[kE (by rw[ln];exact aX),vm];rw[du aX]at h;rw[dP h]
def aaL{r:Row}:Row.dX r=true↔r=.en:=by cases r<;>simp[Row.dX]
def Dz{r:Row}:Row.gp r=true↔∃t,r=.go t:=by cases r<;>simp[Row.gp]
abbrev pick(rs:List Row)(p:Row→Bool)(n:Nat):Bool:=match rs[n]? with
 |some r=>p r
 |none=>false
def yA(es:List Nat):jS (⇑es) (.lst [])=true∧PyData.eqv (toPy (⇑es)) (toPy (.lst []))=es.isEmpty:=by
 have p1:J.fF (ak es)=true:=tJ λd hd=>by
  let⟨q,_,rfl⟩:=bQ.mp hd;simp[J.plain]
 refine⟨?_,?_⟩
 ·simp only[jS,J.plain,p1,J.fF,oN,Bool.and_self,Bool.true_and];exact eC (by simp[toPy,cX,PyData.depth,PyData.depthAll])
 ·cases es<;>simp[ak,toPy,cX,PyData.eqv,PyData.eqvAll]
def Li{m n:M}(es:List Nat):gF (m,⇑es) (n,.lst [])=some (.fr,.bl es.isEmpty):=by
 simp only[gF,(yA es).1,if_true,(yA es).2]
def Lj{m n:M}(es:List Nat):ip (m,⇑es) (n,.lst [])=some (.fr,.bl (!es.isEmpty)):=by
 simp only[ip,(yA es).1,if_true,(yA es).2]
def N8{α:Type}{a:α}{l:List α}:L2.bz (a::l) 0=some a:=by
 have:=kE (l:=a::l) (k:=0) (by simp);simpa using this
def X7(rs:List Row)(n:Int)(hl:rs.length≤100)(h0:rs[0]?≠some .en):∃r:Row,xD [Row.d∘rs,.int n]=.fr\r.d∧(r=.en∨(0<rs.length∧∃t,r=.go t)):=by
 have cK:-4611686018427387904≤(rs.length:Int)∧(rs.length:Int)<4611686018427387904:=by omega
 have ht:(rs.length:Int).toNat=rs.length:=by omega
 have ex:=tf (fc:=jB (ae aP (ae au (ae au (jV 1) (jV 0)) (jC (.int 0))) (jC (.str "end")))) (fe:=jV 0) (m:=.fr) (fr:=[.al\Row.d∘rs]) (p:=pick rs Row.dX) (List.range rs.length) (λk hk=>by
  have hk:=iQ.mp hk;have hr:rs[k]?=some (rs[k]'hk):=by simp
  have e:=jI hr;refine⟨?_,rfl⟩;symm;rw[e];symm;simp! [fB,oq,fT,fV,bO,nH,pick,hr])
 generalize he:(List.range rs.length).filter (pick rs Row.dX)=es at ex;have Ge:es.length≤100:=by rw[←he];have:=vn (pick rs Row.dX) (List.range rs.length);simp at this;omega
 have hs1:aw 2 (cv (cf (ag (aK bG (ag (jV 0) ai)) ai)) [0] (jB (ae aP (ae au (ae au (jV 1) (jV 0)) (jC (.int 0))) (jC (.str "end")))) (jV 0)) [.al\Row.d∘rs,.al\.int n,none]=some (.nx [.al\Row.d∘rs,.al\.int n,.bo\⇑es]):=by
  simp! [aw,cv,cf,aK,ag,ai,jV,gz,gy,id_eq,oq,dF,ln,cK,and_self,if_true,ht];rw[show f9 [.al\Row.d∘rs,.al\D.int n,none] [0]=[.al\Row.d∘rs] from rfl,yg,ex,oq,iH (by rw[dE];omega),oq];rfl
 unfold xD fn Iz;simp only[cA,bE,bH];rw[ax hs1];have hq:=Li (m:=.bo) (n:=.un) es;generalize j5:es.isEmpty=b at hq;have hb:b=false→es≠[]:=λz e=>by subst e;rw[←j5]at z;cases z
 have hc:∀c,(cQ (jB (ae gF (jV 2) (bP ai))) (jB (ae iU (ae bf (jV 1) (jC (.int 3))) (jC (.int 0))))) [.al\Row.d∘rs,.al\.int n,.bo\⇑es]=some c→(c=false→b=false):=λc h hf=>by
  subst hf;revert h;nofun;rw[hq];symm;cases b with
  |true=>intro h;cases h
  |false=>intro _;rfl
 have iy:∃c,(cQ (jB (ae gF (jV 2) (bP ai))) (jB (ae iU (ae bf (jV 1) (jC (.int 3))) (jC (.int 0))))) [.al\Row.d∘rs,.al\.int n,.bo\⇑es]=some c:=by
  nofun;rw[hq];symm;cases b<;>exact⟨_,rfl⟩
 let⟨c,iy⟩:=iy;cases c with
 |true =>
  refine⟨.en,?_,.inl rfl⟩;rw[dW (e':=[.al\Row.d∘rs,.al\.int n,.bo\⇑es]) (m:=.fr) (d:=Row.d .en) (by rw[bK iy];rfl)];rfl
 |false =>
  have f7:=hb (hc false iy rfl);let⟨a,l,rfl⟩:=List.exists_cons_of_ne_nil f7;have hm:a∈(List.range rs.length).filter (pick rs Row.dX):=by rw[he];exact cg
  let⟨h1,h2⟩:=mr.mp hm;have h1:=iQ.mp h1;have ha:a≠0:=λz=>by
   subst z;unfold pick at h2;split at h2
   ·rename_i r hr;rw[aaL.mp h2]at hr;exact h0 hr
   ·cases h2
  refine⟨.go (n/3%(a:Int)),?_,.inr ⟨by omega,_,rfl⟩⟩;rw[ax (e':=[.al\Row.d∘rs,.al\.int n,.bo\.lst (ak (a::l))]) (by rw[bL iy];rfl)];nofun;rw[show ak (a::l)=↥a::ak l from rfl,N8];symm;rw[oG ∅];symm;rfl
abbrev wt:Row→Nat
 |.en=>0
 |.go _=>1
 |_=>2
abbrev Wt(rs:List Row):Nat:=(rs.map wt).sum
def acJ(r:Row):wt r≤2:=by cases r<;>simp[wt]
def lP(rs:List Row)(x:Row):Wt (rs++[x])=Wt rs+wt x:=by simp[Wt]
theorem uz:∀{rs:List Row}{j:Nat}{x r:Row},rs[j]?=some x→wt r≤wt x→Wt (rs.set j r)≤Wt rs
 |[],_,_,_,h,_=>by simp at h
 |y::l,0,x,r,h,hw=>by
  have:y=x:=by simpa using h
  subst this;simp[Wt];omega
 |y::l,j+1,x,r,h,hw=>by
  have:=uz (rs:=l) (j:=j) (by simpa using h) hw;simp[Wt]at this ⊢;omega
def yh{r:Row}(h:Row.flat r=true):wt r=2:=by cases r<;>first|rfl|cases h
structure RG (rs:List Row):Prop where
 r0:∀r,rs[0]?=some r→Row.dX r=false∧Row.gp r=false
 pt:∀(i:Nat) a t,rs[i]?=some (.pt a t)→(t=-1∧i+1<rs.length)∨0≤t
def RG.nil:RG []:=⟨λr h=>by simp at h,λi a t h=>by simp at h⟩
def gM{rs:List Row}{x r:Row}{i:Nat}(h:(rs++[x])[i]?=some r):rs[i]?=some r∨(i=rs.length∧r=x):=by
 rw[List.getElem?_append]at h;split at h
 ·exact .inl h
 ·rename_i hi;have:i-rs.length=0:=by
   rcases Nat.eq_zero_or_pos (i-rs.length)with z|z
   ·exact z
   ·rw[pO (by simp;omega)]at h;cases h
  rw[this]at h;simp at h;exact .inr ⟨by omega,h.symm⟩
def RG.one{rs:List Row}{r:Row}(h:RG rs)(e:Row.dX r=false)(g:Row.gp r=false)(p:∀a t,r=.pt a t→0≤t):RG (rs++[r]):=by
 refine⟨λx hx=>?_,λi a t hx=>?_⟩
 ·rcases gM hx with z|⟨_,rfl⟩
  ·exact h.r0 x z
  ·exact⟨e,g⟩
 ·rcases gM hx with z|⟨_,z⟩
  ·rcases h.pt i a t z with⟨w,y⟩|w
   ·exact .inl ⟨w,by simp;omega⟩
   ·exact .inr w
  ·exact .inr (p a t z.symm)
def RG.two{rs:List Row}{a:Ko}{y:Row}(h:RG rs)(hy:∀b t,y≠.pt b t):RG (rs++[.pt a (-1)]++[y]):=by
 refine⟨λx hx=>?_,λi b t hx=>?_⟩
 ·rcases gM hx with z|⟨z,_⟩
  ·rcases gM z with z|⟨_,rfl⟩
   ·exact h.r0 x z
   ·exact⟨rfl,rfl⟩
  ·simp at z
 ·rcases gM hx with z|⟨_,z⟩
  ·rcases gM z with z|⟨z,w⟩
   ·rcases h.pt i b t z with⟨w,y⟩|w
    ·exact .inl ⟨w,by simp;omega⟩
    ·exact .inr w
   ·cases w;exact .inl ⟨rfl,by simp;omega⟩
  ·exact absurd z.symm (hy b t)
def qK{e:Ev}{k:Nat}{rs:List Row}{r:Row}{f:Qqj}(he:e[k]?=some (.bo\Row.d∘rs))(hf:f e=.fr\r.d)(hl:rs.length≤1000):cJ k f e=some (.nx (e.set k (.bo\.lst ((rs++[r]).map Row.d)))):=by
 have s:rs.length<sizeLine:=eD hl (by decide);simp! [cJ,hf,oq,ig,if_true,ft,he,own,ln,s,List.map_append,mq,mn]
def X8(A0 A1:Qzq)(fs:List Str)(hf:0<fs.length)(ds:List De)(hd:0<ds.length)(rs:List Row)(h:RG rs)(hl:rs.length≤200)(k c:Int)(o7:Qzq) :
  ∃bJ bU,xc [A0,A1,.bo\.str∘fs,.bo\ao∘ds,.bo\Row.d∘rs,.al\.int k,.al\.int c,o7]=some (.nx [A0,A1,.bo\.str∘fs,.bo\ao∘ds,.bo\Row.d∘bJ,.al\.int k,.al\.int c,bU])∧RG bJ∧bJ.length≤rs.length+2∧Wt bJ≤Wt rs+3:=by
 let⟨x,hx⟩:=oC c k;let⟨r,hr,p1,p2,p3⟩:=MV c x fs hf ds hd;unfold xc;rw[ax (e':=[A0,A1,.bo\.str∘fs,.bo\ao∘ds,.bo\Row.d∘rs,.al\.int k,.al\.int c,.fr\.int x]) (by ac_rfl)];rw[ax (qK (rs:=rs) (r:=r) rfl (by symm;rw[hr]) ∅)];simp! [tz,tq];by_cases q1:c%11=9
 ·let⟨a,rfl⟩:=p3 ∅;rw[ax (e':=[A0,A1,.bo\.str∘fs,.bo\ao∘ds,.bo\.lst ((rs++[Row.pt a (-1)]++[Row.en]).map Row.d),.al\.int k,.al\.int c,.fr\.int x]) (by
   rw[bK (by infer_instance)];exact qK (r:=.en) rfl rfl (by simp;omega))]
  rw[bL (by nofun;simp only[q1];rfl)];exact⟨_,_,rfl,h.two (λ_ _ z=>nomatch z),by simp,by rw[lP,lP];show _+2+0≤_;omega⟩
 rw[ax (e':=[A0,A1,.bo\.str∘fs,.bo\ao∘ds,.bo\.lst ((rs++[r]).map Row.d),.al\.int k,.al\.int c,.fr\.int x]) (by
  rw[bL (by infer_instance)];rfl)]
 by_cases q2:c%11=10
 ·let⟨a,rfl⟩:=p3 ∅;rw[bK (by infer_instance)];exact⟨_,_,qK (r:=.go (x/720%60)) rfl (by nofun;rfl) (by simp;omega),h.two (λ_ _ z=>nomatch z),by simp,by rw[lP,lP];exact aU _⟩
 ·rw[bL (by infer_instance)];refine⟨_,_,rfl,?_,by simp,by rw[lP];have:=acJ r;omega⟩;by_cases q3:c%11<7
  ·have:=p1 q3;refine h.one ?_ ?_ ?_<;>cases r<;>simp_all [Row.flat,Row.dX,Row.gp]
  ·let⟨a,t,rfl,ht⟩:=p2 ∅ ∅;exact h.one rfl rfl λb s e=>by cases e;exact ht
def Wa{cs:List Int}{i:Nat}{d:D}(h:(bY (cs.map D.int))[i]?=some d):∃c:Int,d=.tup [.int i,.int c]:=by
 unfold bY at h;rw[rQ,cF]at h;cases e:cs[i]? with
 |none=>rw[e]at h;cases h
 |some r=>rw[e]at h;cases h;exact⟨r,rfl⟩
structure RF (rs:List Row):Prop where
 pos:0<rs.length
 r0:∀t,rs[0]?≠some (.go t)
 pt:∀(i:Nat) a t,rs[i]?=some (.pt a t)→i+1<rs.length∧((t=-1∧i+2<rs.length)∨0≤t)
 fl:∀(i:Nat) r,rs[i]?=some r→Row.flat r=true→i+1<rs.length
def RG.rf{rs:List Row}{x:Row}(h:RG rs)(hx:x=.en∨(0<rs.length∧∃t,x=.go t)):RF (rs++[x]):=by
 have lt:∀{i:Nat}{r:Row},rs[i]?=some r→i<rs.length:=λz=>(bp.mp z).1;refine⟨by simp,λt ht=>?_,λi a t ht=>?_,λi r hr hf=>?_⟩
 ·rcases gM ht with z|⟨z,w⟩
  ·have:=(h.r0 _ z).2;simp[Row.gp]at this
  ·rcases hx with rfl|⟨hp,_⟩
   ·cases w
   ·omega
 ·rcases gM ht with z|⟨z,w⟩
  ·have:=lt z;refine⟨by simp;omega,?_⟩;rcases h.pt i a t z with⟨w,y⟩|w
   ·exact .inl ⟨w,by simp;omega⟩
   ·exact .inr w
  ·rcases hx with rfl|⟨_,t,rfl⟩<;>cases w
 ·rcases gM hr with z|⟨z,rfl⟩
  ·have:=lt z;simp;omega
  ·rcases hx with rfl|⟨_,t,rfl⟩<;>cases hf
def Wb(ns cs:List Int)(hc:cs.length≤20):∃rs,xv [.int∘ns,.int∘cs]=.un\Row.d∘rs∧RF rs∧rs.length≤100∧Wt rs≤61:=by
 let⟨c0,h0⟩:=oE ns 0 ∅;let⟨fs,lL,GZ⟩:=Cu c0;let⟨ds,G0,mF⟩:=Cv ns fs ∅;let⟨nu,SF⟩:=Cm ns 58 ∅;let⟨e',l1,rs,o5,o6,o7,he,hg,hl,hw⟩:=dh (g:=gT 2 (bR (gN 5) (bR (gN 6) dJ))) (b:=xc) (m:=.al) (ds:=bY (cs.map D.int)) (e:=[.al\.int∘ns,.al\.int∘cs,.bo\.str∘fs,.bo\ao∘ds,.bo\.lst ([].map Row.d),none,none,none])
  (λi e=>∃(rs:List Row) (o5 o6 o7:Qzq),e=[.al\.int∘ns,.al\.int∘cs,.bo\.str∘fs,.bo\ao∘ds,.bo\Row.d∘rs,o5,o6,o7]∧RG rs∧(i≤cs.length→rs.length≤2*i)∧Wt rs≤3*i)
  ⟨[],none,none,none,rfl,RG.nil,λ_=>aU _,aU _⟩
  (λi d e hd bx=>by
   let⟨rs,o5,o6,o7,he,hg,hl,hw⟩:=bx;subst he;have hi:i<cs.length:=by
    have:=(bp.mp hd).1;simpa[bY]using this
   let⟨c,rfl⟩:=Wa hd;have hl:=hl ∅;let⟨bJ,bU,q1,q2,q3,q4⟩:=X8 (.al\.int∘ns) (.al\.int∘cs) fs ∅ ds ∅ rs hg ∅ (i:Int) c o7;exact⟨_,_,rfl,q1,bJ,_,_,bU,rfl,q2,λ_=>by omega,by omega⟩)
 subst he;have hl:rs.length≤80:=by
  have:=hl (by simp[bY]);simp[bY]at this;omega
 let⟨x,hx,SG⟩:=X7 rs nu ∅ (λz=>by have:=(hg.r0 _ z).1;simp[Row.dX]at this);have hw:Wt (rs++[x])≤61:=by
  have:wt x≤1:=by rcases SG with rfl|⟨_,t,rfl⟩<;>simp[wt]
  rw[lP];simp[bY]at hw;omega
 refine⟨rs++[x],?_,hg.rf SG,by simp;omega,hw⟩;unfold xv fn Ia;simp only[cA,bE,bH];rw[ax (e':=[.al\.int∘ns,.al\.int∘cs,.bo\.str∘fs,none,none,none,none,none]) (by symm;rw[h0];symm;rw[GZ];symm)];rw[ax (e':=[.al\.int∘ns,.al\.int∘cs,.bo\.str∘fs,.bo\ao∘ds,none,none,none,none]) (by symm;rw[mF];symm)];rw[ax (e':=[.al\.int∘ns,.al\.int∘cs,.bo\.str∘fs,.bo\ao∘ds,.bo\.lst ([].map Row.d),none,none,none]) rfl];rw[ax (e':=[.al\.int∘ns,.al\.int∘cs,.bo\.str∘fs,.bo\ao∘ds,.bo\Row.d∘rs,o5,o6,o7]) (by
  rw[bT,show aW 1 [.al\.int∘ns,.al\.int∘cs,.bo\.str∘fs,.bo\ao∘ds,.bo\.lst ([].map Row.d),none,none,none]=[.al\.int∘ns,.al\.int∘cs,.bo\.str∘fs,.bo\ao∘ds,.bo\.lst ([].map Row.d),none,none,none] from rfl];simp! [aT,gb,ag,jV,ai,gz,gy,oq,id_eq,b9,oy];exact l1)]
 symm;rw[SF];symm;rw[hx];symm;rw[Mm (by decide) (by decide) (by simp only[ln,List.length_cons,List.length_nil];exact dC (show rs.length+(0+1)≤200 by omega) (by decide))];rw[show mJ .bo .un=.fr from rfl,Mr];symm;rw[ly];rfl
abbrev intAt(k:Nat)(e:Ev):Nat:=match e[k]? with
 |some (some (_,.int g))=>g.toNat
 |_=>0
def X9{rs:List Row}(h:RF rs)(hl:rs.length≤200)(t:Int):∃g:Int,xE [Row.d∘rs,.int t]=.fr\.int g∧0≤g∧g<rs.length:=by
 have hp:=h.pos;let⟨e',l1,⟨g,he,hg⟩,_⟩:=Jd (c:=xm) (b:=B5) (e:=[.al\Row.d∘rs,.fr\.int (t%rs.length)])
  (λe=>∃g:Nat,e=[.al\Row.d∘rs,.fr\↥g]∧g<rs.length)
  (intAt 1)
  ⟨(t%rs.length).toNat,by rw[z8 (gG _ ∅)],by have:=gS t (show(0:Int)<rs.length by omega);have:=gG t (show(rs.length:Int)≠0 by omega);omega⟩
  (λe bx=>by
   let⟨g,he,hg⟩:=bx;subst he;have hr:rs[g]?=some (rs[g]'hg):=by simp
   generalize rs[g]'hg=r at hr;have e1:=jI hr;have hC:xm [.al\Row.d∘rs,.fr\↥g]=some (Row.gp r):=by
    unfold xm;symm;rw[e1];symm;simp! [fB,oq,fT,fV,bO,rH]
   cases oh:Row.gp r with
   |false=>exact .inl (by rw[hC,oh])
   |true =>
    let⟨t',rfl⟩:=Dz.mp oh;have h0:g≠0:=λz=>by subst z;exact h.r0 t' hr
    refine .inr ⟨by rw[hC,oh],[.al\Row.d∘rs,.fr\.int ((g-1:Nat):Int)],?_,⟨g-1,rfl,by omega⟩,?_⟩
    ·unfold B5;symm;rw[show(g:Int)-1=((g-1:Nat):Int) by omega]
    ·simp only[intAt,gz,gy];omega)
 subst he;refine⟨g,?_,by omega,by omega⟩;unfold xE fn IA;simp only[cA,bE,bH];rw[ax (e':=[.al\Row.d∘rs,.fr\.int (t%rs.length)]) (by ac_rfl)];rw[ax l1];rfl
def aaM{r:Row}:Row.pC r=true↔∃a t,r=.pt a t:=by cases r<;>simp[Row.pC]
def G3(m n:M)(a:Ko)(t:Int):au (m,Row.d (.pt a t)) (n,.int 2)=some (aY m,.int t):=rfl
def tp3(a:Ko)(t:Int):kZ [(M.fr,D.str "part"),(.fr,kD a),(.fr,.int t)]=some (.fr,Row.d (.pt a t)):=rfl
def tp2(t:Int):kZ [(M.fr,D.str "go"),(.fr,.int t)]=some (.fr,Row.d (.go t)):=rfl
def aaN{ro:List Row}(h:RF ro)(hl:ro.length≤200)(A0 A1 A2:Qzq)(rs:List Row)(hr:rs.length≤200){i:Nat}{r:Row}(hi:ro[i]?=some r) :
  ∃r' o6,wQ [A0,A1,A2,.fr\Row.d∘ro,.bo\Row.d∘rs,.fr\↥i,.fr\r.d]=some (.nx [A0,A1,A2,.fr\Row.d∘ro,.bo\.lst ((rs++[r']).map Row.d),.fr\↥i,o6])∧(∀m∈bA i r',0≤m∧m<ro.length)∧wt r'=wt r∧∀a t,r'=.pt a t→t≠(i:Int)+1:=by
 have hp:=h.pos;have aX:i<ro.length:=(bp.mp hi).1;have fin:∀r':Row,(wt r'=wt r∧∀a t,r'=.pt a t→t≠(i:Int)+1)→(∀m∈bA i r',0≤m∧m<ro.length)→∀f,f [A0,A1,A2,.fr\Row.d∘ro,.bo\Row.d∘rs,.fr\↥i,.fr\r.d]=some (.nx [A0,A1,A2,.fr\Row.d∘ro,.bo\Row.d∘rs,.fr\↥i,.fr\r'.d]) →
   ∃r' o6,aq f (cJ 4 (jV 6)) [A0,A1,A2,.fr\Row.d∘ro,.bo\Row.d∘rs,.fr\↥i,.fr\r.d]=some (.nx [A0,A1,A2,.fr\Row.d∘ro,.bo\.lst ((rs++[r']).map Row.d),.fr\↥i,o6])∧(∀m∈bA i r',0≤m∧m<ro.length)∧wt r'=wt r∧∀a t,r'=.pt a t→t≠(i:Int)+1:=λr' hw h1 f h2=>by
  refine⟨r',.fr\r'.d,?_,h1,hw⟩;rw[ax h2];exact qK (r:=r') rfl rfl ∅
 have w1:∀e:Ev,e[6]?=some (.fr\r.d)→(jB (ae aP (ae au (jV 6) (jC (.int 0))) (jC (.str "part")))) e=some (Row.pC r):=λe he=>by
  simp! [jB,ae,jV,jC,he,id_eq,oq,fB,yo,fV,bO,ER]
 have w2:∀e:Ev,e[6]?=some (.fr\r.d)→(jB (ae aP (ae au (jV 6) (jC (.int 0))) (jC (.str "go")))) e=some (Row.gp r):=λe he=>by
  simp! [jB,ae,jV,jC,he,id_eq,oq,fB,yo,fV,bO,rH]
 have zC:∀{a b:Qqx}{e:Ev},a e=some false→dm a b e=some false:=λ{a b e} h=>by simp[dm,h]
 have EV:∀{a b:Qqx}{e:Ev},a e=some true→dm a b e=b e:=λ{a b e} h=>by simp[dm,h]
 unfold wQ;by_cases jA:Row.pC r=true
 ·let⟨a,t,rfl⟩:=aaM.mp jA;let⟨n1,n2⟩:=h.pt i a t hi;by_cases q1:t=-1
  ·refine fin (.pt a ((i:Int)+2)) ⟨rfl,λ_ _ e=>by cases e;omega⟩ (λm hm=>?_) _ ?_
   ·have:m=(i:Int)+1∨m=(i:Int)+2:=by simpa[aL.bA]using hm
    rcases n2 with⟨_,z⟩|z<;>omega
   ·rw[bK (by rw[EV (by rw[w1 _ rfl,jA])];simp! [jB,ae,de,jV,jC,gz,gy,id_eq,oq,G3,qS,m8,bO,q1,decide_true])]
    ac_rfl
  ·have n3:0≤t:=by rcases n2 with⟨z,_⟩|z<;>omega
   have m0:=gG t (show(ro.length:Int)≠0 by omega);have m1:=gS t (show(0:Int)<ro.length by omega);by_cases q2:t%ro.length=(i:Int)+1
   ·refine fin (.pt a (i:Int)) ⟨rfl,λ_ _ e=>by cases e;omega⟩ (λm hm=>?_) _ ?_
    ·have:m=(i:Int)+1∨m=(i:Int):=by simpa[aL.bA]using hm
     omega
    ·rw[bL (by rw[EV (by rw[w1 _ rfl,jA])];simp! [jB,ae,de,jV,jC,gz,gy,id_eq,oq,G3,qS,m8,bO,q1,decide_false])];rw[bK (by infer_instance)]
     ac_rfl
   ·refine fin (.pt a (t%ro.length)) ⟨rfl,λ_ _ e=>by cases e;exact q2⟩ (λm hm=>?_) _ ?_
    ·have:m=(i:Int)+1∨m=t%ro.length:=by simpa[aL.bA]using hm
     omega
    ·rw[bL (by rw[EV (by rw[w1 _ rfl,jA])];simp! [jB,ae,de,jV,jC,gz,gy,id_eq,oq,G3,qS,m8,bO,q1,decide_false])];rw[bL (by infer_instance)];rw[bK (by infer_instance)]
     ac_rfl
 ·have jA:Row.pC r=false:=by simpa using jA
  by_cases oh:Row.gp r=true
  ·let⟨t,rfl⟩:=Dz.mp oh;let⟨g,eg,g0,g1⟩:=X9 h hl t;refine fin (.go g) ⟨rfl,λ_ _ e=>nomatch e⟩ (λm hm=>?_) _ ?_
   ·have:m=g:=by simpa[aL.bA]using hm
    omega
   ·rw[bL (zC (by rw[w1 _ rfl,jA])),bL (zC (by rw[w1 _ rfl,jA])),bL (by infer_instance),bK (by infer_instance)]
    ac_rfl
  ·have oh:Row.gp r=false:=by simpa using oh
   refine fin r ⟨rfl,λ_ _ e=>by subst e;cases jA⟩ (λm hm=>?_) _ ?_
   ·cases r with
    |en=>simp[aL.bA]at hm
    |go t=>cases oh
    |pt a t=>cases jA
    |rk x s a b =>
     have:=h.fl i _ hi rfl;have:m=(i:Int)+1:=by simpa[aL.bA]using hm
     omega
    |cp x a =>
     have:=h.fl i _ hi rfl;have:m=(i:Int)+1:=by simpa[aL.bA]using hm
     omega
    |sy a =>
     have:=h.fl i _ hi rfl;have:m=(i:Int)+1:=by simpa[aL.bA]using hm
     omega
   ·rw[bL (zC (by rw[w1 _ rfl,jA])),bL (zC (by rw[w1 _ rfl,jA])),bL (by infer_instance),bL (by infer_instance)];rfl
theorem Good.set{rs:List Row}{j:Nat}{r:Row}(h:Good rs)(hj:∀m∈aL.bA j r,0≤m∧m<rs.length)(hn:∀a t,r=.pt a t→t≠(j:Int)+1):Good (rs.set j r):=by
 refine⟨by rw[fZ];exact h.pos,λn x hx m hm=>?_,λn a t hx=>?_⟩
 ·rw[fZ];rw[mz]at hx;split at hx
  ·rename_i e;subst e;split at hx
   ·cases hx;exact hj m hm
   ·cases hx
  ·exact h.bA n x hx m hm
 ·rw[mz]at hx;split at hx
  ·rename_i e;subst e;split at hx
   ·cases hx;exact hn a t rfl
   ·cases hx
  ·exact h.np n a t hx
def lO{e:Ev}{k j:Nat}{mo m':M}{rs:List Row}{r:Row}{f g:Qqj}(ho:own mo=true)(he:e[k]?=some (some (mo,Row.d∘rs)))(hf:f e=.fr\r.d)(hg:g e=some (m',↥j))(hj:j<rs.length) :
  fS k g f e=some (.nx (e.set k (some (mo,.lst ((rs.set j r).map Row.d))))):=by
 have wm:dR (rs.map Row.d).length (j:Int)=some j:=by
  unfold dR;rw[ln,if_pos ∅,if_pos ∅];simp
 simp! [fS,hf,hg,oq,mX,ig,if_true,ft,he,ho,wm,List.map_set]
def aaO(r:Row):dS (.str r.word) [.str "reckon",.str "copy",.str "say"]=Row.flat r:=by
 cases r with
 |rk x s a b=>exact(by decide +kernel:dS (.str ("reckon" : Str)) [.str "reckon",.str "copy",.str "say"]=true)
 |cp x a=>exact(by decide +kernel:dS (.str ("copy" : Str)) [.str "reckon",.str "copy",.str "say"]=true)
 |sy a=>exact(by decide +kernel:dS (.str ("say" : Str)) [.str "reckon",.str "copy",.str "say"]=true)
 |go t=>exact(by decide +kernel:dS (.str ("go" : Str)) [.str "reckon",.str "copy",.str "say"]=false)
 |pt a t=>exact(by decide +kernel:dS (.str ("part" : Str)) [.str "reckon",.str "copy",.str "say"]=false)
 |en=>exact(by decide +kernel:dS (.str ("end" : Str)) [.str "reckon",.str "copy",.str "say"]=false)
def Lk(m n:M)(r:Row)(neg:Bool):eZ neg (m,.str r.word) (n,.tup [.str "reckon",.str "copy",.str "say"])=some (.fr,.bl (if neg then !Row.flat r else Row.flat r)):=by
 rw[←aaO r];rfl
def N9{r:Row}(h:Row.flat r=true):∃a:Ko,∀m n:M,au (m,r.d) (n,.int 1)=some (aY m,kD a):=by
 cases r with
 |rk x s a b=>exact⟨.inr x,λ_ _=>rfl⟩
 |cp x a=>exact⟨.inr x,λ_ _=>rfl⟩
 |sy a=>exact⟨a,λ_ _=>rfl⟩
 |go t=>cases h
 |pt a t=>cases h
 |en=>cases h
def C5{rs:List Row}(h:Good rs){i:Nat}{r:Row}(hi:rs[i]?=some r)(hf:Row.flat r=true):i+1<rs.length:=by
 have:=h.bA i r hi ((i:Int)+1) (by cases r<;>simp_all [Row.flat,aL.bA]);omega
set_option tactic.hygienic true in
def Ln{rs:List Row}{p:Row→Bool}{n:Nat}(h:pick rs p n=true):∃r,rs[n]?=some r∧p r=true:=by
 unfold pick at h;split at h
 ·rename_i r hr;exact⟨r,hr,h⟩
 ·cases h
def Jq{rs:List Row}{mo:M}(he:aY mo=.fr)(hn:∀d:D,¬(mo=.nb)){ks:List Nat}(hk:∀k∈ks,k<rs.length) :
  dM (jB (ae (eZ false) (ae au (ae au (jV 1) (jV 0)) (jC (.int 0))) (aV (ag (jC (.str "reckon")) (ag (jC (.str "copy")) (ag (jC (.str "say")) ai)))))) (jV 0) .fr [some (mo,Row.d∘rs)] (ak ks)=some ((ak (ks.filter (pick rs Row.flat))).map λx=>(M.fr,x)):=by
 refine tf ks λk qf=>?_;have aX:=hk k qf;have hr:rs[k]?=some (rs[k]'aX):=by simp
 have e:=jI hr;refine⟨?_,rfl⟩;simp! [jB,ae,jV,jC,aV,ag,ai,gz,gy,id_eq,oq,cR,e,oy,he,fB,yo];rw[show kZ [(M.fr,D.str "reckon"),(.fr,.str "copy"),(.fr,.str "say")]=some (.fr,.tup [.str "reckon",.str "copy",.str "say"])from rfl,oq,Lk,oq,if_neg bw];simp only[bO,pick,hr]
def Wc(N:Nat):cj 2 N=ak ((List.range N).map λk=>k+2):=by
 unfold cj ak;rw[gw];exact rR λk _=>by show D.int (2+(k:Int))=D.int ((k+2:Nat):Int);congr 1;omega
def Wf{rs:List Row}(h:Good rs)(hl:rs.length≤200)(c:Int):∃bJ:List Row,wI [Row.d∘rs,.int c]=some (Row.d∘bJ)∧Good bJ∧bJ.length=rs.length∧Wt bJ≤Wt rs:=by
 have hp:=h.pos;have cK:-4611686018427387904≤(2:Int)∧(2:Int)<4611686018427387904∧-4611686018427387904≤(rs.length:Int)∧(rs.length:Int)<4611686018427387904:=by omega
 have fin:∀{bJ:List Row}{e:Ev},ng (.rt e .bi (Row.d∘bJ))=some (Row.d∘bJ):=λ{bJ e}=>by
  simp only[ng,own,gd,oB,and_self,if_true]
 have ex:=Jq (rs:=rs) (mo:=.bi) rfl (λ_ z=>nomatch z) (ks:=(List.range ((rs.length:Int)-2).toNat).map λk=>k+2) (λk hk=>by
  let⟨j,hj,rfl⟩:=bQ.mp hk;have:=iQ.mp hj;omega)
 generalize lL:((List.range ((rs.length:Int)-2).toNat).map λk=>k+2).filter (pick rs Row.flat)=fl at ex;have EW:fl.length≤1000:=by
  rw[←lL];have:=vn (pick rs Row.flat) ((List.range ((rs.length:Int)-2).toNat).map λk=>k+2);simp at this;simp;omega
 have s1:aw 2 (cv (uV (ag (jC (.int 2)) (ag (aK bG (ag (jV 0) ai)) ai))) [0] (jB (ae (eZ false) (ae au (ae au (jV 1) (jV 0)) (jC (.int 0))) (aV (ag (jC (.str "reckon")) (ag (jC (.str "copy")) (ag (jC (.str "say")) ai)))))) (jV 0)) [.bi\Row.d∘rs,.al\.int c,none,none]=some (.nx [.bi\Row.d∘rs,.al\.int c,.bo\⇑fl,none]):=by
  simp! [aw,cv,uV,aK,ag,ai,jV,jC,gz,gy,id_eq,oq,dF,ln,cK,and_self,if_true];rw[show f9 [.bi\Row.d∘rs,.al\D.int c,none,none] [0]=[.bi\Row.d∘rs] from rfl,Wc,ex,oq,iH (by rw[dE];exact EW),oq];rfl
 unfold wI lh Hj;rw[show(i3 [0] [Row.d∘rs,.int c]++List.replicate (4 - [Row.d∘rs,.int c].length) none:Ev)=[.bi\Row.d∘rs,.al\.int c,none,none] from rfl];rw[ax s1];have G4:rs[0]?=some (rs[0]'hp):=by simp
 generalize hx0:rs[0]'hp=x0 at G4;have a0:=jI G4;have hb:(cQ (jB (ae gF (jV 2) (bP ai))) (jB (ae (eZ true) (ae au (ae au (jV 0) (jC (.int 0))) (jC (.int 0))) (aV (ag (jC (.str "reckon")) (ag (jC (.str "copy")) (ag (jC (.str "say")) ai))))))) [.bi\Row.d∘rs,.al\.int c,.bo\⇑fl,none]=some (fl.isEmpty||!Row.flat x0):=by
  have e2:(jB (ae (eZ true) (ae au (ae au (jV 0) (jC (.int 0))) (jC (.int 0))) (aV (ag (jC (.str "reckon")) (ag (jC (.str "copy")) (ag (jC (.str "say")) ai)))))) [.bi\Row.d∘rs,.al\.int c,.bo\⇑fl,none]=some (!Row.flat x0):=by
   simp! [jB,ae,jV,jC,aV,ag,ai,gz,gy,id_eq,oq,cR];rw[show(0:Int)=((0:Nat):Int)from rfl,a0];simp! [oy,oq,Int.natCast_zero,fB];rw[show kZ [(M.fr,D.str "reckon"),(.fr,.str "copy"),(.fr,.str "say")]=some (.fr,.tup [.str "reckon",.str "copy",.str "say"])from rfl,oq,Lk,oq,if_pos rfl];rfl
  have e1:(jB (ae gF (jV 2) (bP ai))) [.bi\Row.d∘rs,.al\.int c,.bo\⇑fl,none]=some fl.isEmpty:=by
   simp! [jB,ae,jV,bP,ai,gz,gy,id_eq,oq];rw[show i6 []=some (.un,.lst [])from rfl,oq,Li];rfl
  unfold cQ;rw[e1,oq];cases fl.isEmpty with
  |true=>rfl
  |false=>rw[e2];rfl
 cases mI:(fl.isEmpty||!Row.flat x0) with
 |true =>
  rw[dW (e':=[.bi\Row.d∘rs,.al\.int c,.bo\⇑fl,none]) (m:=.bi) (d:=Row.d∘rs) (by rw[bK (by rw[hb,mI])];rfl)];exact⟨rs,by rw[oq];exact fin,h,rfl,aU _⟩
 |false =>
  obtain⟨hfe,hx⟩:fl.isEmpty=false∧Row.flat x0=true:=by simpa using mI
  rw[gj (by rw[hb,mI])];have hfp:0<fl.length:=by
   cases fl with
   |nil=>cases hfe
   |cons a l=>simp
  let⟨la,p6,G5⟩:=qy (f:=λ(n:Nat)=>↥n) (l:=fl) (k:=c/4%fl.length) (gG _ ∅) (gS _ ∅);rw[←lL]at p6;let⟨wo,wq⟩:=mr.mp p6;let⟨r,hr,lM⟩:=Ln wq;have PK:2≤la:=by let⟨j,_,rfl⟩:=bQ.mp wo;omega
  have SJ:=C5 h hr lM;let⟨a,ha⟩:=N9 lM;have ar:=jI hr;rw[ax (e':=[.bi\Row.d∘rs,.al\.int c,.bo\⇑fl,.fr\↥la]) (by
   simp! [aw,ae,jV,jC,aK,ag,ai,gz,gy,id_eq,oq,dF,dE];rw[div_ii ∅,oq,oG ∅,oq,cR,show ak fl=fl.map (λ(n:Nat)=>↥n)from rfl,G5];rfl)]
  rw[ax (lO (j:=la) (r:=.pt a 1) (mo:=.bi) (m':=.fr) rfl rfl (by
   simp! [aV,ag,ai,ae,jV,jC,gz,gy,id_eq,oq,cR,ar,oy,ha];rfl) rfl ∅)]
  simp! [tz,tq];rw[ax (lO (rs:=rs.set la (.pt a 1)) (j:=0) (r:=.go (la:Int)) (mo:=.bi) (m':=.fr) rfl rfl rfl rfl (by rw[fZ];omega))];refine⟨(rs.set la (.pt a 1)).set 0 (.go (la:Int)),by rw[show(aF (jV 0)) _=some (.rt _ .bi (.lst (((rs.set la (.pt a 1)).set 0 (.go (la:Int))).map Row.d)))from rfl,oq];exact fin,?_,by simp,Nat.le_trans (uz (x:=x0) (by rw[List.getElem?_set_ne ∅];exact G4) (by rw[yh hx];exact Nat.le_succ 1)) (uz hr (by rw[yh lM];exact aU _))⟩;refine(h.set (λm hm=>?_) λb s e=>(by cases e;omega)).set (λm hm=>?_) λb s e=>nomatch e
  ·have:m=(la:Int)+1∨m=1:=by simpa[aL.bA]using hm
   omega
  ·have:m=(la:Int):=by simpa[aL.bA]using hm
   rw[fZ];omega
def Ya{R:Qzz}{c:Int}(h1:D.cI R=true):jz [0] [0] [(0,0),(1,1)] [(.bi,.lst R),(.al,.int c)]=true:=by
 simp[jz,List.range_succ,own,gd,hU,h1]
def Wg{m:M}{f:Int}:∀ks:List Nat,dM (jB (ae iU (jV 0) (jV 1))) (jV 0) .fr [some (m,.int f)] (ak ks)=some ((ak (ks.filter λk=>decide (f<(k:Int)))).map λx=>(M.fr,x)):=λks =>
 tf ks λk _=>⟨by
  simp! [jB,ae,jV,gz,gy,id_eq,oq,oM,bO],rfl⟩
def U2{fl:List Nat}(hs:fl.Pairwise (· < ·)){i:Nat}(hi:i+1<fl.length):∃f∈fl,fl[i]?=some f∧∃l∈fl,f<l:=by
 have h1:fl[i]?=some (fl[i]'∅):=by simp
 refine⟨fl[i]'∅,rN _,h1,fl[i+1]'hi,rN _,?_⟩;exact(List.pairwise_iff_getElem.mp hs) i (i+1) ∅ hi ∅
def Yb{rs:List Row}(h:Good rs)(hl:rs.length≤200)(c:Int):∃bJ:List Row,wO [Row.d∘rs,.int c]=some (Row.d∘bJ)∧Good bJ∧bJ.length=rs.length∧Wt bJ≤Wt rs:=by
 have hp:=h.pos;have cK:-4611686018427387904≤(rs.length:Int)∧(rs.length:Int)<4611686018427387904:=by omega
 have ht:(rs.length:Int).toNat=rs.length:=by omega
 have fin:∀{bJ:List Row}{e:Ev},ng (.rt e .bi (Row.d∘bJ))=some (Row.d∘bJ):=λ{bJ e}=>by
  simp only[ng,own,gd,oB,and_self,if_true]
 have ex:=Jq (rs:=rs) (mo:=.bi) rfl (λ_ z=>nomatch z) (ks:=List.range rs.length) (λk hk=>iQ.mp hk);generalize lL:(List.range rs.length).filter (pick rs Row.flat)=fl at ex;have EW:fl.length≤1000:=by
  rw[←lL];have:=vn (pick rs Row.flat) (List.range rs.length);simp at this;simp;omega
 have acK:fl.Pairwise (· < ·):=by rw[←lL];exact List.Pairwise.filter _ List.pairwise_lt_range
 have SK:∀n∈fl,∃r,rs[n]?=some r∧Row.flat r=true:=λn hn=>by
  rw[←lL]at hn;exact Ln (mr.mp hn).2
 have s1:aw 2 (cv (cf (ag (aK bG (ag (jV 0) ai)) ai)) [0] (jB (ae (eZ false) (ae au (ae au (jV 1) (jV 0)) (jC (.int 0))) (aV (ag (jC (.str "reckon")) (ag (jC (.str "copy")) (ag (jC (.str "say")) ai)))))) (jV 0)) [.bi\Row.d∘rs,.al\.int c,none,none,none,none,none]=some (.nx [.bi\Row.d∘rs,.al\.int c,.bo\⇑fl,none,none,none,none]):=by
  simp! [aw,cv,cf,aK,ag,ai,jV,jC,gz,gy,id_eq,oq,dF,ln,cK,and_self,if_true,ht];rw[show f9 [.bi\Row.d∘rs,.al\D.int c,none,none,none,none,none] [0]=[.bi\Row.d∘rs] from rfl,yg,ex,oq,iH (by rw[dE];exact EW),oq];rfl
 unfold wO lh Hn;rw[show(i3 [0] [Row.d∘rs,.int c]++List.replicate (7 - [Row.d∘rs,.int c].length) none:Ev)=[.bi\Row.d∘rs,.al\.int c,none,none,none,none,none] from rfl];rw[ax s1];by_cases q1:c%4=3
 ·let⟨bJ,e1,g1,l1,w1⟩:=Wf h hl c;rw[dW (e':=[none,none,none,none,none,none,none]) (m:=.bi) (d:=Row.d∘bJ) (by
   rw[bK (by nofun;simp only[q1,decide_true])];simp! [lS,ag,ai,jV,gz,gy,id_eq,oq,Ya (oB rs),if_true,mq,mn,e1])]
  exact⟨bJ,by rw[oq];exact fin,g1,l1,w1⟩
 rw[gj (by nofun;simp only[q1,decide_false])];have hb:(cQ (jB (ae gx (aK bG (ag (jV 2) ai)) (jC (.int 2)))) (jB (ae aP (ae bf (jV 1) (jC (.int 2))) (jC (.int 0))))) [.bi\Row.d∘rs,.al\.int c,.bo\⇑fl,none,none,none,none]=some (decide ((fl.length:Int)<2)||decide (c%2=0)):=by
  nofun;rw[dE];cases decide ((fl.length:Int)<2)<;>rfl
 cases mI:(decide ((fl.length:Int)<2)||decide (c%2=0)) with
 |true =>
  rw[dW (e':=[.bi\Row.d∘rs,.al\.int c,.bo\⇑fl,none,none,none,none]) (m:=.bi) (d:=Row.d∘rs) (by rw[bK (by rw[hb,mI])];rfl)];exact⟨rs,by rw[oq];exact fin,h,rfl,aU _⟩
 |false =>
  have h2:2≤fl.length:=by
   have:¬((fl.length:Int)<2):=by
    intro z;simp[z]at mI
   omega
  rw[gj (by rw[hb,mI])];have k0:=gG (c/4) (show((fl.length:Int)-1)≠0 by omega);have k1:=gS (c/4) (show(0:Int)<(fl.length:Int)-1 by omega);let⟨f,hf,hfi,l0,hl0,adN⟩:=U2 acK (i:=(c/4%((fl.length:Int)-1)).toNat) ∅;have ef:L2.bz (ak fl) (c/4%((fl.length:Int)-1))=some (↥f):=by
   rw[iZ k0 (by rw[dE];omega)];have:=(bp.mp hfi).2;simp only[ak,List.getElem_map,this]
  rw[ax (e':=[.bi\Row.d∘rs,.al\.int c,.bo\⇑fl,.fr\↥f,none,none,none]) (by
   simp! [aw,ae,jV,jC,aK,ag,ai,gz,gy,id_eq,oq,dF,dE,ym];rw[div_ii ∅,oq,oG ∅,oq,cR,ef];rfl)]
  generalize aX:fl.filter (λ(k:Nat)=>decide ((f:Int)<(k:Int)))=lt;have ad6:0<lt.length:=by
   rw[←aX];exact List.length_pos_of_mem (mr.mpr ⟨hl0,by simpa using adN⟩)
  have adO:lt.length≤1000:=by
   rw[←aX];have:=vn (λk=>decide ((f:Int)<((k:Nat):Int))) fl;omega
  rw[ax (e':=[.bi\Row.d∘rs,.al\.int c,.fr\⇑fl,.fr\↥f,.bo\⇑lt,none,none]) (by
   rw[bT,show aW 2 [.bi\Row.d∘rs,.al\.int c,.bo\⇑fl,.fr\↥f,none,none,none]=[.bi\Row.d∘rs,.al\.int c,.fr\⇑fl,.fr\↥f,none,none,none] from rfl];simp! [aw,cv,bF,jV,gz,gy,id_eq,oq,b9,oy];rw[show f9 [.bi\Row.d∘rs,.al\D.int c,.fr\⇑fl,.fr\↥f,none,none,none] [3]=[.fr\↥f] from rfl,Wg,aX,oq,iH (by rw[dE];exact adO),oq];rfl)]
  let⟨la,p6,G5⟩:=qy (f:=λ(n:Nat)=>↥n) (l:=lt) (k:=c/256%lt.length) (gG _ ∅) (gS _ ∅);rw[ax (e':=[.bi\Row.d∘rs,.al\.int c,.fr\⇑fl,.fr\↥f,.bo\⇑lt,.fr\↥la,none]) (by
   simp! [aw,ae,jV,jC,aK,ag,ai,gz,gy,id_eq,oq,dF,dE];rw[div_ii ∅,oq,oG ∅,oq,cR,show ak lt=lt.map (λ(n:Nat)=>↥n)from rfl,G5];rfl)]
  rw[←aX]at p6;let⟨adP,PK⟩:=mr.mp p6;have ad7:f<la:=by simpa using PK
  let⟨rf,lM,G6⟩:=SK f hf;let⟨rl,G7,SM⟩:=SK la adP;have nf:=C5 h lM G6;have nl:=C5 h G7 SM;let⟨a,ha⟩:=N9 G6;have arf:=jI lM;have t0:=gG (c/16384) (show(rs.length:Int)≠0 by omega);have t1:=gS (c/16384) (show(0:Int)<rs.length by omega);rw[ax (e':=[.bi\Row.d∘rs,.al\.int c,.fr\⇑fl,.fr\↥f,.bo\⇑lt,.fr\↥la,.fr\.int (c/16384%rs.length)]) (by nofun)];generalize c/16384%(rs.length:Int)=t at t0 t1 ⊢;have oQ:rs[rs.length-1]?=some (rs[rs.length-1]'∅):=by simp
  generalize rs[rs.length-1]'∅=rz at oQ;have az:L2.bz (rs.map Row.d) (-1)=some rz.d:=by
   unfold L2.bz L2.dR;rw[if_neg (by decide),ln,if_pos ∅,oq,show(-1+(rs.length:Int)).toNat=rs.length-1 by omega,cF,oQ];rfl
  have T1:∃t':Int,(0≤t'∧t'<rs.length)∧aM (jB (ae aP (ae au (ae au (jV 0) (de gQ (jC (.int 1)))) (jC (.int 0))) (jC (.str "go")))) (aw 6 (ae bf (jV 6) (ae bW (jV 3) (jC (.int 1))))) aS [.bi\Row.d∘rs,.al\.int c,.fr\⇑fl,.fr\↥f,.bo\⇑lt,.fr\↥la,.fr\.int t]=some (.nx [.bi\Row.d∘rs,.al\.int c,.fr\⇑fl,.fr\↥f,.bo\⇑lt,.fr\↥la,.fr\.int t']):=by
   have hc:(jB (ae aP (ae au (ae au (jV 0) (de gQ (jC (.int 1)))) (jC (.int 0))) (jC (.str "go")))) [.bi\Row.d∘rs,.al\.int c,.fr\⇑fl,.fr\↥f,.bo\⇑lt,.fr\↥la,.fr\.int t]=some (Row.gp rz):=by
    simp! [jB,ae,de,jV,jC,gz,gy,id_eq,oq,qS,cR,az,oy,fB,fV,bO,rH]
   cases hg:Row.gp rz with
   |true =>
    have m0:=gG t (show((f:Int)+1)≠0 by omega);have m1:=gS t (show(0:Int)<(f:Int)+1 by omega);exact⟨t%((f:Int)+1),by omega,by rw[bK (by rw[hc,hg])];nofun⟩
   |false=>exact⟨t,⟨t0,t1⟩,by rw[bL (by rw[hc,hg])];rfl⟩
  let⟨t',b1,e1⟩:=T1;rw[ax e1];have T2:∃t2:Int,(0≤t2∧t2<rs.length)∧aM (jB (mW gx pZ (jV 3) (jV 6) (jV 5))) (aw 6 (ae bW (jV 5) (jC (.int 1)))) aS [.bi\Row.d∘rs,.al\.int c,.fr\⇑fl,.fr\↥f,.bo\⇑lt,.fr\↥la,.fr\.int t']=some (.nx [.bi\Row.d∘rs,.al\.int c,.fr\⇑fl,.fr\↥f,.bo\⇑lt,.fr\↥la,.fr\.int t2]):=by
   have hc:∃b,(jB (mW gx pZ (jV 3) (jV 6) (jV 5))) [.bi\Row.d∘rs,.al\.int c,.fr\⇑fl,.fr\↥f,.bo\⇑lt,.fr\↥la,.fr\.int t']=some b:=by
    symm;cases decide ((f:Int)<t')<;>exact⟨_,rfl⟩
   let⟨b,hc⟩:=hc;cases b with
   |true=>exact⟨(la:Int)+1,by omega,by rw[bK hc];symm⟩
   |false=>exact⟨t',b1,by rw[bL hc];rfl⟩
  let⟨t2,b2,e2⟩:=T2;rw[ax e2];have T3:∃t3:Int,(0≤t3∧t3<rs.length)∧aM (jB (ae aP (ae au (ae au (jV 0) (jV 6)) (jC (.int 0))) (jC (.str "go")))) (aw 6 (jC (.int 0))) aS [.bi\Row.d∘rs,.al\.int c,.fr\⇑fl,.fr\↥f,.bo\⇑lt,.fr\↥la,.fr\.int t2]=some (.nx [.bi\Row.d∘rs,.al\.int c,.fr\⇑fl,.fr\↥f,.bo\⇑lt,.fr\↥la,.fr\.int t3]):=by
   have at2:=VP (rs:=rs) b2.1 b2.2;have hc:∃b,(jB (ae aP (ae au (ae au (jV 0) (jV 6)) (jC (.int 0))) (jC (.str "go")))) [.bi\Row.d∘rs,.al\.int c,.fr\⇑fl,.fr\↥f,.bo\⇑lt,.fr\↥la,.fr\.int t2]=some b:=by
    simp! [jB,ae,jV,jC,gz,gy,id_eq,oq,cR,at2,oy,fB,fV,bO];exact⟨_,rfl⟩
   let⟨b,hc⟩:=hc;cases b with
   |true=>exact⟨0,by omega,by rw[bK hc];rfl⟩
   |false=>exact⟨t2,b2,by rw[bL hc];rfl⟩
  let⟨t3,b3,e3⟩:=T3;rw[ax e3];rw[ax (lO (j:=f) (r:=.pt a ((la:Int)+1)) (mo:=.bi) (m':=.fr) rfl rfl (by
   simp! [aV,ag,ai,ae,jV,jC,gz,gy,id_eq,oq,cR,arf,oy,ha,Dm];rfl) rfl ∅)]
  simp! [tz,tq];rw[ax (lO (rs:=rs.set f (.pt a ((la:Int)+1))) (j:=la) (r:=.go t3) (mo:=.bi) (m':=.fr) rfl rfl rfl rfl (by rw[fZ];omega))];refine⟨(rs.set f (.pt a ((la:Int)+1))).set la (.go t3),by rw[show(aF (jV 0)) _=some (.rt _ .bi (.lst (((rs.set f (.pt a ((la:Int)+1))).set la (.go t3)).map Row.d)))from rfl,oq];exact fin,?_,by simp,Nat.le_trans (uz (x:=rl) (by rw[List.getElem?_set_ne ∅];exact G7) (by rw[yh SM];exact Nat.le_succ 1)) (uz lM (by rw[yh G6];exact aU _))⟩;refine(h.set (λm hm=>?_) λb s e=>(by cases e;omega)).set (λm hm=>?_) λb s e=>nomatch e
  ·have:m=(f:Int)+1∨m=(la:Int)+1:=by simpa[aL.bA]using hm
   omega
  ·have:m=t3:=by simpa[aL.bA]using hm
   rw[fZ];omega
def Wh(ns:List Int)(A1:Qzq)(fs:List Str)(hf:0<fs.length)(ds:List De)(hd:0<ds.length)(rs:List Row)(hl:rs.length≤200)(i:Nat)(o6:Qzq) :
  ∃(r:Row) (ck:Qzq),wX [.al\.int∘ns,A1,.bo\.str∘fs,.bo\ao∘ds,.bo\Row.d∘rs,.fr\↥i,o6]=some (.nx [.al\.int∘ns,A1,.bo\.str∘fs,.bo\ao∘ds,.bo\.lst ((rs++[r]++[Row.go (2*(i:Int)-1)]).map Row.d),.fr\↥i,ck])∧Row.flat r=true:=by
 let⟨c,hc⟩:=oE ns (2+(i:Int)) ∅;let⟨x,hx⟩:=oC c (i:Int);let⟨r,hr,p1,_,_⟩:=MV (c/11*11+c%7) x fs hf ds hd;refine⟨r,.fr\.int c,?_,p1 ∅⟩;unfold wX;rw[ax (e':=[.al\.int∘ns,A1,.bo\.str∘fs,.bo\ao∘ds,.bo\Row.d∘rs,.fr\↥i,.fr\.int c]) (by ac_rfl)];rw[ax (qK (rs:=rs) (r:=r) rfl (by nofun;rw[hx];nofun;rw[hr]) ∅)];simp! [tz,tq];exact qK (rs:=rs++[r]) (r:=.go (2*(i:Int)-1)) rfl (by nofun;rfl) (by simp;omega)
def U3(ns:List Int)(many:Int)(h1:1≤many)(h2:many≤28):∃rs:List Row,xn [.int∘ns,.int many]=.un\Row.d∘rs∧Good rs∧rs.length≤58∧∀(n:Nat) a t,rs[n]?≠some (.pt a t):=by
  let⟨c0,h0⟩:=oE ns 0 ∅;let⟨fs,lL,GZ⟩:=Cu c0;let⟨ds,G0,mF⟩:=Cv ns fs ∅;let⟨e',l1,rs,o5,o6,he,hl,hP⟩:=dh (g:=gN 5) (b:=wX) (m:=.fr) (ds:=cj 0 many.toNat) (e:=[.al\.int∘ns,.al\.int many,.bo\.str∘fs,.bo\ao∘ds,.bo\.lst ([Row.go (2*many-1)].map Row.d),none,none])
    (λi e=>∃(rs:List Row) (o5 o6:Qzq),e=[.al\.int∘ns,.al\.int many,.bo\.str∘fs,.bo\ao∘ds,.bo\Row.d∘rs,o5,o6]∧rs.length=2*i+1∧((i:Int)≤many→∀(n:Nat) r,rs[n]?=some r→Row.flat r=true∨∃t,r=.go t∧(0≤t∨n=2)∧t<2*many+2))
    ⟨[Row.go (2*many-1)],none,none,rfl,rfl,λ_ n r hr=>by
      cases n with
      |zero=>simp at hr;subst hr;exact .inr ⟨_,rfl,.inl ∅,by omega⟩
      |succ n=>simp at hr⟩
    (λi d e hd bx=>by
      let⟨rs,o5,o6,he,hl,hP⟩:=bx;subst he;let⟨hi,rfl⟩:=lR hd;rw[show(0:Int)+(i:Int)=(i:Int) by omega];let⟨r,ck,q,hr⟩:=Wh ns (.al\.int many) fs ∅ ds ∅ rs ∅ i o6;refine⟨_,_,rfl,q,_,_,ck,rfl,by simp;omega,λwd n x hx=>?_⟩;rcases gM hx with z|⟨z,rfl⟩
      · rcases gM z with z|⟨z,rfl⟩
        · exact hP ∅ n x z
        · exact .inl hr
      · refine .inr ⟨_,rfl,?_,by omega⟩
        simp at z;omega)
  subst he;rw[kK]at hl;have hP:=hP (by rw[kK];omega);unfold xn fn HJ;simp only[cA,bE,bH];rw[ax (e':=[.al\.int∘ns,.al\.int many,.bo\.str∘fs,none,none,none,none]) (by ac_rfl)];rw[ax (e':=[.al\.int∘ns,.al\.int many,.bo\.str∘fs,.bo\ao∘ds,none,none,none]) (by ac_rfl)];rw[ax (e':=[.al\.int∘ns,.al\.int many,.bo\.str∘fs,.bo\ao∘ds,.bo\.lst ([Row.go (2*many-1)].map Row.d),none,none]) (by ac_rfl)];rw[ax (e':=[.al\.int∘ns,.al\.int many,.bo\.str∘fs,.bo\ao∘ds,.bo\Row.d∘rs,o5,o6]) (by
    have cK:-4611686018427387904≤many∧many<4611686018427387904:=by omega
    simp! [aT,cf,ag,ai,jV,gz,gy,id_eq,oq,cK,and_self,if_true];exact l1)]
  rw[ax (lO (j:=2) (r:=.go (2*many+1)) (mo:=.bo) (m':=.fr) rfl rfl (by nofun;rfl) rfl ∅)];simp! [tz,tq];have np:∀(n:Nat) a t,(rs.set 2 (.go (2*many+1))++[Row.en])[n]?≠some (.pt a t):=λn a t hr=>by
    rcases gM hr with z|⟨_,z⟩
    · rw[mz]at z
      split at z
      · split at z<;>cases z
      · rcases hP n _ z with w|⟨_,w,_⟩<;>cases w
    · cases z
  refine⟨rs.set 2 (.go (2*many+1))++[.en],?_,⟨by simp,λn r hr m hm=>?_,λn a t hr=>absurd hr (np n a t)⟩,by simp;omega,np⟩
  · symm
    rw[Mm (by decide) (by decide) (by simp only[ln,List.length_set,List.length_cons,List.length_nil];exact dC (show rs.length+(0+1)≤200 by omega) (by decide))];rw[show mJ .bo .un=.fr from rfl,Mr];symm;rw[ly];rfl
  · have hlen:((rs.set 2 (.go (2*many+1))++[Row.en]).length:Int)=2*many+2:=by simp;omega
    rw[hlen];rcases gM hr with z|⟨_,rfl⟩
    · rw[mz]at z
      split at z
      · split at z
        · cases z
          have:m=2*many+1:=by simpa[aL.bA]using hm
          omega
        · cases z
      · rename_i n2
        have hn:n<rs.length:=(bp.mp z).1;rcases hP n r z with w|⟨t,rfl,w,y⟩
        · have:m=(n:Int)+1:=by cases r<;>simp_all [Row.flat,aL.bA]
          omega
        · have:m=t:=by simpa[aL.bA]using hm
          rcases w with w|w<;>omega
    · simp[aL.bA]at hm
def Tg(many n:Int)(r:Row):Prop:=(∀t,r=.go t→0≤t∧t<many)∧∀a t,r=.pt a t→0≤t∧t<many∧t≠n+1
def Uh(c n many:Int)(hnm:0≤n∧n<many)(hm:1≤many∧many≤100)(fs:List Str)(hf:0<fs.length∧fs.length≤100)(ds:List De)(hd:0<ds.length):∃r:Row,sU [.int c,.int n,.int many,.str∘fs,ao∘ds]=.fr\r.d∧Tg many n r:=by
 let⟨nm,_,hn⟩:=qy (f:=D.str) (l:=fs) (k:=c/14%fs.length) (gG _ ∅) (gS _ ∅);let⟨q,_,hq⟩:=qy (f:=ao) (l:=ds) (k:=c/14/fs.length%ds.length) (gG _ ∅) (gS _ ∅);let⟨SN,GA⟩:=qt (c/14/fs.length) fs hf.1;let⟨SQ,j9⟩:=qt (c/14) fs hf.1;let⟨SR,ho3⟩:=qt (c/14/(many-1)) fs hf.1;have np:∀{r:Row},Row.gp r=false→Row.pC r=false→Tg many n r:=λ{r} h1 h2=>⟨λt e=>(by subst e;cases h1),λa t e=>(by subst e;cases h2)⟩;unfold sU fn Hw;simp only[cA,bE,bH];rw[ax (e':=[.al\.int c,.al\.int n,.al\.int many,.al\.str∘fs,.al\ao∘ds,.fr\.int (c%14),none,none,none,none]) (by ac_rfl)];rw[ax (e':=[.al\.int c,.al\.int n,.al\.int many,.al\.str∘fs,.al\ao∘ds,.fr\.int (c%14),.fr\.int (c/14),none,none,none]) (by ac_rfl)];by_cases q1:c%14<6
 ·refine⟨.rk nm q.1 q.2.1 q.2.2,?_,np rfl rfl⟩;rw[dW (e':=[.al\.int c,.al\.int n,.al\.int many,.al\.str∘fs,.al\ao∘ds,.fr\.int (c%14),.fr\.int (c/14),.al\.str q.1,.al\kD q.2.1,.al\kD q.2.2]) (m:=.fr) (d:=Row.d (.rk nm q.1 q.2.1 q.2.2)) (by
   rw[bK (by infer_instance)];rw[ax (e':=[.al\.int c,.al\.int n,.al\.int many,.al\.str∘fs,.al\ao∘ds,.fr\.int (c%14),.fr\.int (c/14),.al\.str q.1,.al\kD q.2.1,.al\kD q.2.2]) (by ac_rfl)];nofun;rw[hn];symm;simp! [qG,Bool.and_self,if_true];rfl)]
  rfl
 rw[gj (by infer_instance)];by_cases q2:c%14<8
 ·refine⟨.cp nm SN,?_,np rfl rfl⟩;rw[dW (e':=[.al\.int c,.al\.int n,.al\.int many,.al\.str∘fs,.al\ao∘ds,.fr\.int (c%14),.fr\.int (c/14),none,none,none]) (m:=.fr) (d:=Row.d (.cp nm SN)) (by
   rw[bK (by infer_instance)]
   ac_rfl)]
  rfl
 rw[gj (by infer_instance)];by_cases q3:c%14<10
 ·refine⟨.sy SQ,?_,np rfl rfl⟩;rw[dW (e':=[.al\.int c,.al\.int n,.al\.int many,.al\.str∘fs,.al\ao∘ds,.fr\.int (c%14),.fr\.int (c/14),none,none,none]) (m:=.fr) (d:=Row.d (.sy SQ)) (by
   rw[bK (by infer_instance)]
   ac_rfl)]
  rfl
 rw[gj (by infer_instance)];have SV:(dm (jB (ae gx (jV 5) (jC (.int 12)))) (jB (ae iU (jV 2) (jC (.int 1))))) [.al\.int c,.al\.int n,.al\.int many,.al\.str∘fs,.al\ao∘ds,.fr\.int (c%14),.fr\.int (c/14),none,none,none]=some (decide (c%14<12)&&decide (1<many)):=by
  symm;cases decide (c%14<12)<;>rfl
 cases q4:(decide (c%14<12)&&decide (1<many)) with
 |true =>
  have h1m:1<many:=by simp at q4;exact q4.2
  have m0:=gG (n+2+c/14%(many-1)) (show many≠0 by omega);have m1:=gS (n+2+c/14%(many-1)) (show 0<many by omega);have m2:(n+2+c/14%(many-1))%many≠n+1:=by
   have x0:=gG (c/14) (show many-1≠0 by omega);have x1:=gS (c/14) (show 0<many-1 by omega);generalize c/14%(many-1)=x at x0 x1;by_cases hy:n+2+x<many
   ·rw[Int.emod_eq_of_lt ∅ hy];omega
   ·rw[show n+2+x=n+2+x-many+1*many by omega,Int.add_mul_emod_self_right,Int.emod_eq_of_lt ∅ ∅];omega
  refine⟨.pt SR ((n+2+c/14%(many-1))%many),?_,(λt e=>nomatch e),λa t e=>(by cases e;exact⟨m0,m1,m2⟩)⟩;rw[dW (e':=[.al\.int c,.al\.int n,.al\.int many,.al\.str∘fs,.al\ao∘ds,.fr\.int (c%14),.fr\.int (c/14),none,none,none]) (m:=.fr) (d:=Row.d (.pt SR ((n+2+c/14%(many-1))%many))) (by
   rw[bK (by rw[SV,q4])]
   ac_rfl)]
  rfl
 |false =>
  rw[gj (by rw[SV,q4])];by_cases q5:c%14=12
  ·have m0:=gG (c/14) (show many≠0 by omega);have m1:=gS (c/14) (show 0<many by omega);refine⟨.go (c/14%many),?_,(λt e=>by cases e;exact⟨m0,m1⟩),(λa t e=>nomatch e)⟩;rw[dW (e':=[.al\.int c,.al\.int n,.al\.int many,.al\.str∘fs,.al\ao∘ds,.fr\.int (c%14),.fr\.int (c/14),none,none,none]) (m:=.fr) (d:=Row.d (.go (c/14%many))) (by
    rw[bK (by infer_instance)]
    ac_rfl)]
   rfl
  ·refine⟨.en,?_,np rfl rfl⟩;rw[gj (by infer_instance)];rfl
abbrev EX(k:Nat)(e:Ev):Nat:=match e[k]? with
 |some (some (_,.bl true))=>1
 |_=>0
def Lp{ks:List Nat}{x N:Nat}(h1:ks.Nodup)(h2:∀y∈ks,y<N)(hx:x∉ks)(hN:x<N):(ks++[x]).Nodup∧∀y∈ks++[x],y<N:=by
 refine⟨?_,λy hy=>?_⟩
 ·rw[rP];refine⟨h1,by simp,λa ha b hb=>?_⟩;have:b=x:=by simpa using hb
  subst this;exactλz=>hx (z▸ha)
 ·rcases iq.mp hy with z|z
  ·exact h2 y z
  ·have:y=x:=by simpa using z
   omega
structure Gr (N:Nat)(ks:List Nat)(mo:Bool)(dz:List Nat)(dU:Bool):Prop where
 nd:dz.Nodup
 lt:∀x∈dz,x<N
 sub:∀x∈ks,x∈dz
 le:ks.length≤dz.length
 more:dU=true→mo=true∨ks.length<dz.length
def Gr.refl{N:Nat}{ks:List Nat}{mo:Bool}(h1:ks.Nodup)(h2:∀x∈ks,x<N):Gr N ks mo ks mo:=⟨h1,h2,λ_ h=>h,aU _,λh=>.inl h⟩
def Gr.trans{N:Nat}{ks BV sE:List Nat}{mo sF sH:Bool}(a:Gr N ks mo BV sF)(b:Gr N BV sF sE sH):Gr N ks mo sE sH:=by
 have h1:=a.le;have h2:=b.le;refine⟨b.nd,b.lt,λx h=>b.sub x (a.sub x h),by omega,λh=>?_⟩;rcases b.more h with z|z
 ·rcases a.more z with w|w
  ·exact .inl w
  ·exact .inr ∅
 ·exact .inr ∅
def acL{N:Nat}(hN:N≤800)(A0:Qzq)(b:Bool){ks:List Nat}{mo:Bool}(h1:ks.Nodup)(h2:∀x∈ks,x<N){n m:Nat}(hn:n<N)(hm:m<N)(o6 o7:Qzq) :
  ∃dz dU ck bU,wJ [A0,.al\.bl b,.bo\.dk (bj ks),.fr\↥n,.fr\.bl mo,.fr\↥m,o6,o7]=some (.nx [A0,.al\.bl b,.bo\.dk (bj dz),.fr\↥n,.fr\.bl dU,.fr\↥m,ck,bU])∧Gr N ks mo dz dU:=by
 have BW:=oA N ks h1 h2;have s1:ks.length<sizeLine:=eD (show ks.length≤800 by omega) (by decide);obtain⟨x,y,hx,hy,e⟩:∃x y:Nat,x<N∧y<N∧oY (gT 2 (bR (gN 6) (bR (gN 7) dJ))) (ae au (bP (ag (aV (ag (jV 5) (ag (jV 3) ai))) (ag (aV (ag (jV 3) (ag (jV 5) ai))) ai))) (aK nE (ag (jV 1) ai))) [A0,.al\.bl b,.bo\.dk (bj ks),.fr\↥n,.fr\.bl mo,.fr\↥m,o6,o7]=some (.nx [A0,.al\.bl b,.bo\.dk (bj ks),.fr\↥n,.fr\.bl mo,.fr\↥m,.fr\↥x,.fr\↥y]):=by
  cases b with
  |true=>exact⟨n,m,hn,hm,rfl⟩
  |false=>exact⟨m,n,hm,hn,rfl⟩
 unfold wJ;rw[ax e];have hc:(dm (jB (fX false (jV 6) (jV 2))) (jB (fX true (jV 7) (jV 2)))) [A0,.al\.bl b,.bo\.dk (bj ks),.fr\↥n,.fr\.bl mo,.fr\↥m,.fr\↥x,.fr\↥y]=some (decide (x∈ks)&&!decide (y∈ks)):=by
  simp! [dm,jB,fX,jV,jU,keyOf,gz,gy,id_eq,oq,DY,bO,if_true,Bool.false_eq_true,if_false];cases decide (x∈ks)<;>rfl
 cases hb:(decide (x∈ks)&&!decide (y∈ks)) with
 |false =>
  rw[bL (by rw[hc,hb])];exact⟨ks,mo,_,_,rfl,.refl h1 h2⟩
 |true =>
  have SX:y∉ks:=by
   intro z;simp[z]at hb
  rw[bK (by rw[hc,hb])];let⟨n1,n2⟩:=Lp h1 h2 SX hy;refine⟨ks++[y],true,.fr\↥x,.fr\↥y,?_,n1,n2,(λz hz=>jn _ hz),by simp,λ_=>.inr (by simp)⟩;simp! [aq,k5,aw,jV,jC,keyOf,gz,gy,id_eq,oq,ig,if_true,mj,own,yz,s1,MY SX,tz,tq,kH]
def acM{rs:List Row}(g:Good rs)(hN:rs.length≤800)(b:Bool){ks:List Nat}{mo:Bool}(h1:ks.Nodup)(h2:∀x∈ks,x<rs.length){n:Nat}(hn:n<rs.length)(o5 o6 o7:Qzq) :
  ∃dz dU dA ck bU,wK [.al\Row.d∘rs,.al\.bl b,.bo\.dk (bj ks),.fr\↥n,.fr\.bl mo,o5,o6,o7]=some (.nx [.al\Row.d∘rs,.al\.bl b,.bo\.dk (bj dz),.fr\↥n,.fr\.bl dU,dA,ck,bU])∧Gr rs.length ks mo dz dU:=by
 have hr:rs[n]?=some (rs[n]'hn):=by simp
 have ef:=C3 rs n _ hr;have er:bA n (rs[n]'hn)=cn rs n:=by unfold cn;rw[hr]
 rw[er,yy g]at ef;have hm:∀m∈dO rs n,m<rs.length:=λm h=>by let⟨_,_,_,z⟩:=tV g h;exact z
 generalize dO rs n=ms at ef hm;let⟨e',l1,dz,dU,dA,ck,bU,he,hg⟩:=dh (g:=gN 5) (b:=wJ) (m:=.fr) (ds:=ak ms) (e:=[.al\Row.d∘rs,.al\.bl b,.bo\.dk (bj ks),.fr\↥n,.fr\.bl mo,o5,o6,o7])
  (λ_ e=>∃(dz:List Nat) (dU:Bool) (o5 o6 o7:Qzq),e=[.al\Row.d∘rs,.al\.bl b,.bo\.dk (bj dz),.fr\↥n,.fr\.bl dU,o5,o6,o7]∧Gr rs.length ks mo dz dU)
  ⟨ks,mo,o5,o6,o7,rfl,.refl h1 h2⟩
  (λi d e hd bx=>by
   let⟨BV,sF,o5,o6,o7,he,hg⟩:=bx;subst he;obtain⟨m,lN,rfl⟩:∃m∈ms,d=↥m:=by
    let⟨x,hx,rfl⟩:=bQ.mp (dH hd);exact⟨x,hx,rfl⟩
   let⟨sE,sH,ck,bU,q,G8⟩:=acL hN (.al\Row.d∘rs) b (mo:=sF) hg.nd hg.lt hn (hm m lN) o6 o7;exact⟨_,_,rfl,q,sE,sH,_,ck,bU,rfl,hg.trans G8⟩)
 subst he;refine⟨dz,dU,dA,ck,bU,?_,hg⟩;unfold wK;simp! [aT,bF,aC,ag,ai,jV,gz,gy,id_eq,oq,mq,mn,ef,b9,oy];exact l1
def acN{rs:List Row}(g:Good rs)(hN:rs.length≤800)(b:Bool){ks:List Nat}(h1:ks.Nodup)(h2:∀x∈ks,x<rs.length)(o3 o4 o5 o6 o7:Qzq) :
  ∃dz dU fQ dA ck bU,wL [.al\Row.d∘rs,.al\.bl b,.bo\.dk (bj ks),o3,o4,o5,o6,o7]=some (.nx [.al\Row.d∘rs,.al\.bl b,.bo\.dk (bj dz),fQ,.fr\.bl dU,dA,ck,bU])∧Gr rs.length ks false dz dU:=by
 let⟨e',l1,dz,dU,fQ,dA,ck,bU,he,hg⟩:=dh (g:=gN 3) (b:=wK) (m:=.fr) (ds:=cj 0 rs.length) (e:=[.al\Row.d∘rs,.al\.bl b,.bo\.dk (bj ks),o3,.fr\.bl false,o5,o6,o7])
  (λ_ e=>∃(dz:List Nat) (dU:Bool) (o3 o5 o6 o7:Qzq),e=[.al\Row.d∘rs,.al\.bl b,.bo\.dk (bj dz),o3,.fr\.bl dU,o5,o6,o7]∧Gr rs.length ks false dz dU)
  ⟨ks,false,o3,o5,o6,o7,rfl,.refl h1 h2⟩
  (λi d e hd bx=>by
   let⟨BV,sF,o3,o5,o6,o7,he,hg⟩:=bx;subst he;let⟨hi,rfl⟩:=lR hd;rw[show(0:Int)+(i:Int)=(i:Int) by omega];let⟨sE,sH,dA,ck,bU,q,G8⟩:=acM g hN b (mo:=sF) hg.nd hg.lt hi o5 o6 o7;exact⟨_,_,rfl,q,sE,sH,_,dA,ck,bU,rfl,hg.trans G8⟩)
 subst he;refine⟨dz,dU,fQ,dA,ck,bU,?_,hg⟩;have cK:-4611686018427387904≤(rs.length:Int)∧(rs.length:Int)<4611686018427387904:=by omega
 have ht:(rs.length:Int).toNat=rs.length:=by omega
 unfold wL;rw[ax (e':=[.al\Row.d∘rs,.al\.bl b,.bo\.dk (bj ks),o3,.fr\.bl false,o5,o6,o7]) rfl];simp! [aT,cf,aK,ag,ai,jV,gz,gy,id_eq,oq,dF,ln,cK,and_self,if_true,ht];exact l1
def Oa{rs:List Row}(g:Good rs)(hN:rs.length≤800)(b:Bool):∃ks,sO [Row.d∘rs,.bl b]=.un\.dk (bj ks)∧ks.Nodup∧(∀x∈ks,x<rs.length)∧(b=true→0∈ks):=by
 have cK:-4611686018427387904≤(rs.length:Int)∧(rs.length:Int)<4611686018427387904:=by omega
 have ht:(rs.length:Int).toNat=rs.length:=by omega
 have hp:=g.pos;unfold sO fn Hs;simp only[cA,bE,bH];rw[ax (e':=[.al\Row.d∘rs,.al\.bl b,.bo\.dk (bj [0]),none,none,none,none,none]) rfl];have S:∃ks o3,(aM (eY (jB (jV 1))) (aq (aw 2 ur) (aT (cf (ag (aK bG (ag (jV 0) ai)) ai)) (gN 3) sN)) aS) [.al\Row.d∘rs,.al\.bl b,.bo\.dk (bj [0]),none,none,none,none,none]=some (.nx [.al\Row.d∘rs,.al\.bl b,.bo\.dk (bj ks),o3,none,none,none,none])∧ks.Nodup∧(∀x∈ks,x<rs.length)∧(b=true→0∈ks):=by
  cases b with
  |true =>
   exact⟨[0],none,rfl,by simp,λx h=>by simp at h;omega,λ_=>by simp⟩
  |false =>
   let⟨e',l1,ks,o3,he,h1,h2⟩:=dh (g:=gN 3) (b:=sN) (m:=.fr) (ds:=cj 0 rs.length) (e:=[.al\Row.d∘rs,.al\.bl false,.bo\.dk (bj []),none,none,none,none,none])
    (λi e=>∃(ks:List Nat) (o3:Qzq),e=[.al\Row.d∘rs,.al\.bl false,.bo\.dk (bj ks),o3,none,none,none,none]∧ks.Nodup∧∀x∈ks,x<i)
    ⟨[],none,rfl,rL,λx h=>nomatch h⟩
    (λi d e hd bx=>by
     let⟨ks,o3,he,h1,h2⟩:=bx;subst he;let⟨hi,rfl⟩:=lR hd;rw[show(0:Int)+(i:Int)=(i:Int) by omega];have BW:=oA i ks h1 h2;have s1:ks.length<sizeLine:=eD (show ks.length≤800 by omega) (by decide);have hr:rs[i]?=some (rs[i]'hi):=by simp
     generalize rs[i]'hi=r at hr;have ar:=jI hr;have hc:(jB (ae aP (ae au (ae au (jV 0) (jV 3)) (jC (.int 0))) (jC (.str "end")))) [.al\Row.d∘rs,.al\.bl false,.bo\.dk (bj ks),.fr\↥i,none,none,none,none]=some (Row.dX r):=by
      simp! [jB,ae,jV,jC,gz,gy,id_eq,oq,cR,ar,oy,fB,fV,bO,nH]
     have vV:i∉ks:=λz=>by have:=h2 i z;omega
     cases hb:Row.dX r with
     |false =>
      refine⟨_,[.al\Row.d∘rs,.al\.bl false,.bo\.dk (bj ks),.fr\↥i,none,none,none,none],rfl,?_,ks,_,rfl,h1,λx hx=>by have:=h2 x hx;omega⟩;unfold sN;exact(bL (hc.trans (by rw[hb]))).trans rfl
     |true =>
      let⟨n1,n2⟩:=Lp (N:=i+1) h1 (λx hx=>by have:=h2 x hx;omega) vV ∅;refine⟨_,[.al\Row.d∘rs,.al\.bl false,.bo\.dk (bj (ks++[i])),.fr\↥i,none,none,none,none],rfl,?_,ks++[i],_,rfl,n1,n2⟩;unfold sN;refine(bK (by exact hc.trans (by rw[hb]))).trans ?_;simp! [k5,jV,jC,keyOf,gz,gy,id_eq,oq,ig,if_true,mj,own,yz,s1,MY vV,tz,tq])
   subst he;rw[kK]at h2;refine⟨ks,o3,?_,h1,h2,λz=>nomatch z⟩;rw[bK rfl,ax (e':=[.al\Row.d∘rs,.al\.bl false,.bo\.dk (bj []),none,none,none,none,none]) rfl];simp! [aT,cf,aK,ag,ai,jV,gz,gy,id_eq,oq,dF,ln,cK,and_self,if_true,ht];exact l1
 let⟨G9,Hc,e0,a1,a2,a3⟩:=S;rw[ax e0];rw[ax (e':=[.al\Row.d∘rs,.al\.bl b,.bo\.dk (bj G9),Hc,.fr\.bl true,none,none,none]) rfl];let⟨e',l1,⟨ks,mo,o3,o5,o6,o7,he,h1,h2,h3⟩,_⟩:=Jd (c:=B2) (b:=wL) (e:=[.al\Row.d∘rs,.al\.bl b,.bo\.dk (bj G9),Hc,.fr\.bl true,none,none,none])
  (λe=>∃(ks:List Nat) (mo:Bool) (o3 o5 o6 o7:Qzq),e=[.al\Row.d∘rs,.al\.bl b,.bo\.dk (bj ks),o3,.fr\.bl mo,o5,o6,o7]∧ks.Nodup∧(∀x∈ks,x<rs.length)∧(b=true→0∈ks))
  (λe=>rs.length-GY 2 e+EX 4 e)
  ⟨G9,true,Hc,none,none,none,rfl,a1,a2,a3⟩
  (λe bx=>by
   let⟨ks,mo,o3,o5,o6,o7,he,h1,h2,h3⟩:=bx;subst he;have hC:B2 [.al\Row.d∘rs,.al\.bl b,.bo\.dk (bj ks),o3,.fr\.bl mo,o5,o6,o7]=some mo:=rfl;cases mo with
   |false=>exact .inl hC
   |true =>
    let⟨dz,dU,fQ,dA,ck,bU,q,hg⟩:=acN g hN b h1 h2 o3 (.fr\.bl true) o5 o6 o7;refine .inr ⟨hC,_,q,⟨dz,dU,fQ,dA,ck,bU,rfl,hg.nd,hg.lt,λz=>hg.sub 0 (h3 z)⟩,?_⟩;have b1:=oA _ _ h1 h2;have b2:=oA _ _ hg.nd hg.lt;have b3:=hg.le;cases dU with
    |false=>simp only[GY,EX,gz,gy,yz];omega
    |true =>
     have:=hg.more rfl;simp only[GY,EX,gz,gy,yz];rcases this with z|z
     ·cases z
     ·omega)
 subst he;rw[ax l1];exact⟨ks,rfl,h1,h2,h3⟩
theorem Lr{g:M×D→Ev→Option Ev}{b:Qqq}{m:M}(Iv:Ev→Prop)(Rt:M→D→Prop):∀{ds:Qzz}{e:Ev},Iv e →
  (∀d∈ds,∀e,Iv e→∃e1,g (m,d) e=some e1∧((∃e2,b e1=some (.nx e2)∧Iv e2)∨∃e2 m' d',b e1=some (.rt e2 m' d')∧Rt m' d')) →
  (∃e',forL g b m ds e=some (.nx e')∧Iv e')∨∃e' m' d',forL g b m ds e=some (.rt e' m' d')∧Rt m' d'
 |[],e,h0,_=>.inl ⟨e,rfl,h0⟩
 |d::ds,e,h0,hs=>by
  obtain⟨e1,h1,⟨e2,h2,h3⟩|⟨e2,m',d',h2,h3⟩⟩:=hs d cg e h0
  ·simp only[forL,h1,h2,oq];exact Lr Iv Rt h3 λx hx=>hs x (cT _ hx)
  ·exact .inr ⟨e2,m',d',by simp only[forL,h1,h2,oq],h3⟩
abbrev hZ(N:Nat)(ks:List Nat):List Nat:=(List.range N).filter λn=>!decide (n∈ks)
def J8{mo:M}{N:Nat}{ks:List Nat}:dM (jB (fX true (jV 0) (jV 1))) (jV 0) .fr [some (mo,.dk (bj ks))] (cj 0 N)=some ((ak (hZ N ks)).map λx=>(M.fr,x)):=by
 rw[yg];refine tf _ λk _=>⟨?_,rfl⟩;simp! [jB,fX,jV,jU,keyOf,gz,gy,id_eq,oq,DY,bO,if_true]
def Ls(N:Nat)(ks:List Nat):(hZ N ks).length≤N:=by
 have:=vn (λn=>!decide (n∈ks)) (List.range N);rw[vj]at this;exact this
def Lv{N:Nat}{ks:List Nat}{n:Nat}(h:n∈hZ N ks):n<N∧n∉ks:=by
 let⟨h1,h2⟩:=mr.mp h;exact⟨iQ.mp h1,by simpa using h2⟩
def aaP{l:List Nat}(h:l≠[]):∃x∈l,L2.bz (ak l) (-1)=some (↥x):=by
 have hp:0<l.length:=List.length_pos_iff.mpr h;refine⟨l[l.length-1]'∅,rN _,?_⟩;unfold L2.bz L2.dR;rw[if_neg (by decide),dE,if_pos ∅,oq,show(-1+(l.length:Int)).toNat=l.length-1 by omega,ak,cF,du ∅];rfl
def MZ(t:Int):kZ [(M.fr,D.str "say"),(.fr,.int t)]=some (.fr,Row.d (.sy (.inl t))):=rfl
def aaQ{rs:List Row}(g:Good rs)(hN:rs.length≤200)(t:Int)(o3 o4 o5 o6:Qzq) :
  (∃bJ fQ hX dA ck,sQ [.bi\Row.d∘rs,.fr\.int ((rs.length:Int)-1),.fr\.int t,o3,o4,o5,o6]=some (.nx [.bi\Row.d∘bJ,.fr\.int ((rs.length:Int)-1),.fr\.int t,fQ,hX,dA,ck])∧Good bJ∧bJ.length=rs.length) ∨
  ∃e',sQ [.bi\Row.d∘rs,.fr\.int ((rs.length:Int)-1),.fr\.int t,o3,o4,o5,o6]=some (.rt e' .bi (Row.d∘rs)):=by
 have cK:-4611686018427387904≤(rs.length:Int)∧(rs.length:Int)<4611686018427387904:=by omega
 have ht:(rs.length:Int).toNat=rs.length:=by omega
 have hp:=g.pos;let⟨k1,e1,n1,b1,z1⟩:=Oa g ∅ true;let⟨k2,e2,n2,b2,_⟩:=Oa g ∅ false;have ml1:=Ls rs.length k1;have ml2:=Ls rs.length k2;unfold sQ;rw[ax (e':=[.bi\Row.d∘rs,.fr\.int ((rs.length:Int)-1),.fr\.int t,.bo\.dk (bj k1),o4,o5,o6]) (by
  simp! [aw,aC,ag,ai,jV,jC,gz,gy,id_eq,oq,mq,mn,e1,kJ,tz,tq])]
 rw[ax (e':=[.bi\Row.d∘rs,.fr\.int ((rs.length:Int)-1),.fr\.int t,.bo\.dk (bj k1),.bo\.dk (bj k2),o5,o6]) (by
  simp! [aw,aC,ag,ai,jV,jC,gz,gy,id_eq,oq,mq,mn,e2,kJ,tz,tq])]
 rw[ax (e':=[.bi\Row.d∘rs,.fr\.int ((rs.length:Int)-1),.fr\.int t,.bo\.dk (bj k1),.bo\.dk (bj k2),.bo\.lst (ak (hZ rs.length k1)),o6]) (by
  simp! [aw,cv,cf,aK,ag,ai,jV,gz,gy,id_eq,oq,dF,ln,cK,and_self,if_true,ht];rw[show f9 [.bi\Row.d∘rs,.fr\.int ((rs.length:Int)-1),.fr\.int t,.bo\.dk (bj k1),.bo\.dk (bj k2),o5,o6] [3]=[.bo\.dk (bj k1)] from rfl,J8,oq,iH (by rw[dE];omega),oq];rfl)]
 rw[ax (e':=[.bi\Row.d∘rs,.fr\.int ((rs.length:Int)-1),.fr\.int t,.bo\.dk (bj k1),.bo\.dk (bj k2),.bo\.lst (ak (hZ rs.length k1)),.bo\.lst (ak (hZ rs.length k2))]) (by
  simp! [aw,cv,cf,aK,ag,ai,jV,gz,gy,id_eq,oq,dF,ln,cK,and_self,if_true,ht];rw[show f9 [.bi\Row.d∘rs,.fr\.int ((rs.length:Int)-1),.fr\.int t,.bo\.dk (bj k1),.bo\.dk (bj k2),.bo\.lst (ak (hZ rs.length k1)),o6] [4]=[.bo\.dk (bj k2)] from rfl,J8,oq,iH (by rw[dE];omega),oq];rfl)]
 have c5:(jB (ae ip (jV 5) (bP ai))) [.bi\Row.d∘rs,.fr\.int ((rs.length:Int)-1),.fr\.int t,.bo\.dk (bj k1),.bo\.dk (bj k2),.bo\.lst (ak (hZ rs.length k1)),.bo\.lst (ak (hZ rs.length k2))]=some (!(hZ rs.length k1).isEmpty):=by
  simp! [jB,ae,jV,bP,ai,gz,gy,id_eq,oq];rw[show i6 []=some (.un,.lst [])from rfl,oq,Lj];rfl
 have c6:(jB (ae ip (jV 6) (bP ai))) [.bi\Row.d∘rs,.fr\.int ((rs.length:Int)-1),.fr\.int t,.bo\.dk (bj k1),.bo\.dk (bj k2),.bo\.lst (ak (hZ rs.length k1)),.bo\.lst (ak (hZ rs.length k2))]=some (!(hZ rs.length k2).isEmpty):=by
  simp! [jB,ae,jV,bP,ai,gz,gy,id_eq,oq];rw[show i6 []=some (.un,.lst [])from rfl,oq,Lj];rfl
 cases wo:hZ rs.length k1 with
 |cons l0 lr =>
  rw[wo]at c5 c6;let⟨q1,q2⟩:=Lv (N:=rs.length) (ks:=k1) (n:=l0) (by rw[wo];exact cg);have h0:l0≠0:=λz=>q2 (z▸z1 rfl);rw[bK (by rw[c5];rfl)];refine .inl ⟨rs.set (l0-1) (.sy (.inl t)),_,_,_,_,lO (j:=l0-1) (r:=.sy (.inl t)) (mo:=.bi) (m':=.fr) rfl rfl ?_ ?_ ∅,g.set (λm hm=>?_) (λb s e=>nomatch e),by simp⟩
  ·simp! [aV,ag,ai,jV,jC,gz,gy,id_eq,oq,MZ]
  ·simp! [ae,jV,jC,gz,gy,id_eq,oq,cR];rw[show ak (l0::lr)=↥l0::ak lr from rfl,N8];simp! [oy,oq,ym];rw[show(l0:Int)-1=((l0-1:Nat):Int) by omega]
  ·have:m=((l0-1:Nat):Int)+1:=by simpa[aL.bA]using hm
   omega
 |nil =>
  rw[wo]at c5 c6;rw[bL (by rw[c5];rfl)];cases wq:hZ rs.length k2 with
  |nil =>
   rw[wq]at c6
   right
   rw[bL (by unfold dm;rw[c6];rfl),bL (by rw[c6];rfl)];exact⟨_,rfl⟩
  |cons d0 dr =>
   rw[wq]at c6
   left
   let⟨x,hx,ex⟩:=aaP (l:=d0::dr) (List.cons_ne_nil _ _);let⟨q1,_⟩:=Lv (N:=rs.length) (ks:=k2) (n:=x) (by rw[wq];exact hx);have ix:(ae au (jV 6) (de gQ (jC (.int 1)))) [.bi\Row.d∘rs,.fr\.int ((rs.length:Int)-1),.fr\.int t,.bo\.dk (bj k1),.bo\.dk (bj k2),.bo\.lst (ak []),.bo\.lst (ak (d0::dr))]=some (.fr,↥x):=by
    simp! [ae,de,jV,jC,gz,gy,id_eq,oq,qS,cR,ex,oy,oH]
   have c7:(dm (jB (ae ip (jV 6) (bP ai))) (jB (ae aP (ae au (jV 6) (de gQ (jC (.int 1)))) (jV 1)))) [.bi\Row.d∘rs,.fr\.int ((rs.length:Int)-1),.fr\.int t,.bo\.dk (bj k1),.bo\.dk (bj k2),.bo\.lst (ak []),.bo\.lst (ak (d0::dr))]=some (decide ((x:Int)=(rs.length:Int)-1)):=by
    unfold dm;rw[c6,show(some (!(d0::dr).isEmpty):Option Bool)=some true from rfl,oq,if_pos rfl];unfold jB ae;rw[show(((jV 6) [.bi\Row.d∘rs,.fr\.int ((rs.length:Int)-1),.fr\.int t,.bo\.dk (bj k1),.bo\.dk (bj k2),.bo\.lst (ak []),.bo\.lst (ak (d0::dr))]).bind λx_1=>((de gQ (jC (.int 1))) [.bi\Row.d∘rs,.fr\.int ((rs.length:Int)-1),.fr\.int t,.bo\.dk (bj k1),.bo\.dk (bj k2),.bo\.lst (ak []),.bo\.lst (ak (d0::dr))]).bind λy=>au x_1 y)=some (.fr,↥x)from ix];simp! [jV,gz,gy,id_eq,oq,m8,bO]
   by_cases q2:(x:Int)=(rs.length:Int)-1
   ·rw[bK (by rw[c7,eC q2])];refine⟨rs.set (rs.length-1) .en,_,_,_,_,lO (j:=rs.length-1) (r:=.en) (mo:=.bi) (m':=.fr) rfl rfl rfl ?_ ∅,g.set (λm hm=>by simp[aL.bA]at hm) (λb s e=>nomatch e),by simp⟩;simp! [jV,gz,gy,id_eq,oq];rw[show(rs.length:Int)-1=((rs.length-1:Nat):Int) by omega]
   ·rw[bL (by rw[c7,fI q2]),bK (by rw[c6];rfl)];refine⟨rs.set x (.sy (.inl t)),_,_,_,_,lO (j:=x) (r:=.sy (.inl t)) (mo:=.bi) (m':=.fr) rfl rfl ?_ ix ∅,g.set (λm hm=>?_) (λb s e=>nomatch e),by simp⟩
    ·simp! [aV,ag,ai,jV,jC,gz,gy,id_eq,oq,MZ]
    ·have:m=(x:Int)+1:=by simpa[aL.bA]using hm
     omega
def Yc{rs:List Row}(hp:0<rs.length)(hN:rs.length≤200)(hT:∀(n:Nat) r,rs[n]?=some r→Tg rs.length n r):∃bJ:List Row,sZ [Row.d∘rs]=some (Row.d∘bJ)∧Good bJ∧bJ.length=rs.length:=by
 have fin:∀{bJ:List Row}{e:Ev},ng (.rt e .bi (Row.d∘bJ))=some (Row.d∘bJ):=λ{bJ e}=>by
  simp only[ng,own,gd,oB,and_self,if_true]
 unfold sZ lh HK;rw[show(i3 [0] [Row.d∘rs]++List.replicate (7 - [Row.d∘rs].length) none:Ev)=[.bi\Row.d∘rs,none,none,none,none,none,none] from rfl];rw[ax (e':=[.bi\Row.d∘rs,.fr\.int ((rs.length:Int)-1),none,none,none,none,none]) (by ac_rfl)];have oQ:rs[rs.length-1]?=some (rs[rs.length-1]'∅):=by simp
 generalize rs[rs.length-1]'∅=rz at oQ;have az:=jI oQ;rw[show((rs.length-1:Nat):Int)=(rs.length:Int)-1 by omega]at az;have S:∃r1:List Row,Good r1∧r1.length=rs.length∧aM (jB (ae kg (ae au (ae au (jV 0) (jV 1)) (jC (.int 0))) (jC (.str "go")))) (fS 0 (jV 1) (aV (ag (jC (.str "end")) ai))) aS [.bi\Row.d∘rs,.fr\.int ((rs.length:Int)-1),none,none,none,none,none]=some (.nx [.bi\Row.d∘r1,.fr\.int ((rs.length:Int)-1),none,none,none,none,none]):=by
  have hc:(jB (ae kg (ae au (ae au (jV 0) (jV 1)) (jC (.int 0))) (jC (.str "go")))) [.bi\Row.d∘rs,.fr\.int ((rs.length:Int)-1),none,none,none,none,none]=some (!Row.gp rz):=by
   simp! [jB,ae,jV,jC,gz,gy,id_eq,oq,cR,az,oy,fB,NQ,bO,rH]
  have SY:∀(n:Nat) r,rs[n]?=some r→n+1<rs.length→∀m∈bA n r,0≤m∧m<rs.length:=λn r hr hn m hm=>by
   let⟨t1,t2⟩:=hT n r hr;cases r with
   |en=>simp[aL.bA]at hm
   |go t =>
    have:m=t:=by simpa[aL.bA]using hm
    have:=t1 t rfl;omega
   |pt a t =>
    have:m=(n:Int)+1∨m=t:=by simpa[aL.bA]using hm
    have:=t2 a t rfl;omega
   |rk x s a b =>
    have:m=(n:Int)+1:=by simpa[aL.bA]using hm
    omega
   |cp x a =>
    have:m=(n:Int)+1:=by simpa[aL.bA]using hm
    omega
   |sy a =>
    have:m=(n:Int)+1:=by simpa[aL.bA]using hm
    omega
  cases hg:Row.gp rz with
  |true =>
   refine⟨rs,⟨hp,λn r hr m hm=>?_,λn a t hr=>((hT n _ hr).2 a t rfl).2.2⟩,rfl,by rw[bL (by rw[hc,hg];rfl)];rfl⟩;by_cases hn:n+1<rs.length
   ·exact SY n r hr hn m hm
   ·have aX:n<rs.length:=(bp.mp hr).1;have:n=rs.length-1:=by omega
    subst this;rw[oQ]at hr;cases hr;let⟨t,rfl⟩:=Dz.mp hg;have:m=t:=by simpa[aL.bA]using hm
    have:=(hT _ _ oQ).1 t rfl;omega
  |false =>
   refine⟨rs.set (rs.length-1) .en,⟨by simpa using hp,λn r hr m hm=>?_,λn a t hr=>(by
    rw[mz]at hr;split at hr
    ·split at hr<;>cases hr
    ·exact((hT n _ hr).2 a t rfl).2.2)⟩,by simp,by
    rw[bK (by rw[hc,hg];rfl)];refine lO (j:=rs.length-1) (r:=.en) (mo:=.bi) (m':=.fr) rfl rfl rfl ?_ ∅;simp! [jV,gz,gy,id_eq,oq];rw[show(rs.length:Int)-1=((rs.length-1:Nat):Int) by omega]⟩
   rw[fZ];rw[mz]at hr;split at hr
   ·split at hr
    ·cases hr;simp[aL.bA]at hm
    ·cases hr
   ·rename_i f7;have aX:n<rs.length:=(bp.mp hr).1;exact SY n r hr ∅ m hm
 let⟨r1,g1,l1,e1⟩:=S;rw[ax e1];have cK:-4611686018427387904≤2*(rs.length:Int)∧2*(rs.length:Int)<4611686018427387904:=by omega
 have L:=Lr (g:=gN 2) (b:=sQ) (m:=.fr) (ds:=cj 0 (2*(rs.length:Int)).toNat) (e:=[.bi\Row.d∘r1,.fr\.int ((rs.length:Int)-1),none,none,none,none,none])
  (λe=>∃(r2:List Row) (o2 o3 o4 o5 o6:Qzq),e=[.bi\Row.d∘r2,.fr\.int ((rs.length:Int)-1),o2,o3,o4,o5,o6]∧Good r2∧r2.length=rs.length)
  (λm d=>m=.bi∧∃r2:List Row,d=Row.d∘r2∧Good r2∧r2.length=rs.length)
  ⟨r1,none,none,none,none,none,rfl,g1,l1⟩
  (λd hd e bx=>by
   let⟨r2,o2,o3,o4,o5,o6,he,g2,l2⟩:=bx;subst he;obtain⟨t,rfl⟩:∃t:Int,d=.int t:=by
    let⟨k,_,rfl⟩:=bQ.mp hd;exact⟨_,rfl⟩
   refine⟨_,rfl,?_⟩;rcases aaQ g2 ∅ t o3 o4 o5 o6 with⟨r3,fQ,hX,dA,ck,q,g3,l3⟩|⟨e',q⟩
   ·rw[l2]at q;exact .inl ⟨_,q,r3,_,fQ,hX,dA,ck,rfl,g3,by omega⟩
   ·rw[l2]at q;exact .inr ⟨e',.bi,_,q,rfl,r2,rfl,g2,l2⟩)
 have it:(cf (ag (ae fW (jC (.int 2)) (aK bG (ag (jV 0) ai))) ai)) [.bi\Row.d∘r1,.fr\.int ((rs.length:Int)-1),none,none,none,none,none]=some (.fr,cj 0 (2*(rs.length:Int)).toNat):=by
  simp! [cf,aK,ae,jC,ag,ai,jV,gz,gy,id_eq,oq,dF,ln,l1];rw[DQ ∅];simp! [oq,cK,and_self,if_true]
 rcases L with⟨e',q,r2,o2,o3,o4,o5,o6,rfl,g2,l2⟩|⟨e',m',d',q,rfl,r2,rfl,g2,l2⟩
 ·refine⟨r2,?_,g2,l2⟩;rw[ax (e':=[.bi\Row.d∘r2,.fr\.int ((rs.length:Int)-1),o2,o3,o4,o5,o6]) (by unfold aT;rw[it,oq];exact q)];rw[show(aF (jV 0)) [.bi\Row.d∘r2,.fr\.int ((rs.length:Int)-1),o2,o3,o4,o5,o6]=some (.rt _ .bi (Row.d∘r2))from rfl,oq];exact fin
 ·refine⟨r2,?_,g2,l2⟩;rw[dW (e':=e') (m:=.bi) (d:=Row.d∘r2) (by unfold aT;rw[it,oq];exact q),oq];exact fin
theorem Lw{P:Nat→Row→Prop}:∀{xs:Qzz}{i:Nat},(∀(k:Nat) x,xs[k]?=some x→∃r:Row,x=r.d∧P (i+k) r)→∃rs:List Row,xs=rs.map Row.d∧∀(k:Nat) r,rs[k]?=some r→P (i+k) r
 |[],_,_=>⟨[],rfl,λ_ _ h=>by simp at h⟩
 |x::xs,i,h=>by
  let⟨r,rfl,hr⟩:=h 0 _ rfl;let⟨rs,rfl,hs⟩:=Lw (i:=i+1) λk y hy=>by rw[show i+1+k=i+(k+1) by omega];exact h (k+1) y (by simpa using hy)
  refine⟨r::rs,rfl,λk y hy=>?_⟩;cases k with
  |zero=>simp at hy;subst hy;exact hr
  |succ k=>have:=hs k y (by simpa using hy);rw[show i+1+k=i+(k+1) by omega]at this;exact this
theorem Jr{fe:Qqj}{m m':M}{fr:Ev}{P:Nat→D→Prop}:∀{ds:Qzz}{i:Nat},(∀(k:Nat) d,ds[k]?=some d→∃x,fe (some (m,d)::fr)=some (m',x)∧P (i+k) x)→∃xs:Qzz,dM dN fe m fr ds=some (xs.map λy=>(m',y))∧xs.length=ds.length∧∀(k:Nat) x,xs[k]?=some x→P (i+k) x
 |[],_,_=>⟨[],rfl,rfl,λ_ _ h=>by simp at h⟩
 |d::ds,i,h=>by
  let⟨x,ex,hx⟩:=h 0 d rfl;let⟨xs,e,l,hs⟩:=Jr (ds:=ds) (i:=i+1) λk y hy=>by rw[show i+1+k=i+(k+1) by omega];exact h (k+1) y (by simpa using hy)
  refine⟨x::xs,by rw[dM,show dN (some (m,d)::fr)=some true from rfl,oq,if_pos rfl,ex,oq,e,oq];rfl,by simp[l],λk y hy=>?_⟩;cases k with
  |zero=>simp at hy;subst hy;exact hx
  |succ k=>have:=hs k y (by simpa using hy);rw[show i+1+k=i+(k+1) by omega]at this;exact this
def aaR{k:Nat}{R:Qzz}(h1:D.cI R=true):jz [0] [k] [(0,k)] [(.bo,.lst R)]=true:=by
 simp[jz,List.range_succ,own,gd,h1]
def aaS(ns cs:List Int)(hc:cs.length≤20):∃rs:List Row,wF [.int∘ns,.int∘cs]=.un\Row.d∘rs∧Good rs∧rs.length≤20:=by
 let⟨c0,h0⟩:=oE ns 0 ∅;let⟨fs,lL,GZ⟩:=Cu c0;let⟨ds,G0,mF⟩:=Cv ns fs ∅;generalize wj:(if (cs.length:Int)>1 then (cs.length:Int)else 1)=many;have hm:1≤many∧many≤20∧(0<cs.length→many=cs.length):=by rw[←wj];split<;>omega
 have fin:∀rs:List Row,0<rs.length→rs.length≤20→(∀(n:Nat) r,rs[n]?=some r→Tg rs.length n r)→∃bJ:List Row,(lS [5] [(0,5)] sZ (ag (jV 5) ai) [.al\.int∘ns,.al\.int∘cs,.bo\.str∘fs,.bo\ao∘ds,.fr\.int many,.bo\Row.d∘rs]).bind out=.un\Row.d∘bJ∧Good bJ∧bJ.length≤20:=λrs h1 h2 h3=>by
  let⟨bJ,e,g,l⟩:=Yc h1 ∅ h3;refine⟨bJ,?_,g,by omega⟩;simp! [lS,ag,ai,jV,gz,gy,id_eq,oq,aaR (oB rs),if_true,mq,mn,e,yn]
 unfold wF fn Hh;simp only[cA,bE,bH];rw[ax (e':=[.al\.int∘ns,.al\.int∘cs,.bo\.str∘fs,none,none,none]) (by ac_rfl)];rw[ax (e':=[.al\.int∘ns,.al\.int∘cs,.bo\.str∘fs,.bo\ao∘ds,none,none]) (by ac_rfl)];rw[ax (e':=[.al\.int∘ns,.al\.int∘cs,.bo\.str∘fs,.bo\ao∘ds,.fr\.int many,none]) (by
  symm;simp! [uT,oq,kH,wj])]
 rw[ax (e':=[.al\.int∘ns,.al\.int∘cs,.bo\.str∘fs,.bo\ao∘ds,.fr\.int many,.bo\.lst ([Row.en].map Row.d)]) rfl];by_cases q:0<cs.length
 ·have cK:-4611686018427387904≤many∧many<4611686018427387904:=by omega
  have hme:=hm.2.2 q;let⟨xs,ex,xl,xp⟩:=Jr (i:=0) (fe:=aC sU (ag (ae au (jV 4) (jV 0)) (ag (jV 0) (ag (jV 1) (ag (jV 2) (ag (jV 3) ai)))))) (m:=.fr) (m':=.fr) (fr:=[.fr\.int many,.bo\.str∘fs,.bo\ao∘ds,.al\.int∘cs]) (P:=λk x=>∃r:Row,x=r.d∧Tg many k r) (ds:=cj 0 many.toNat) (λk d hd=>by
   let⟨hk,rfl⟩:=lR hd;let⟨c,FD⟩:=JL (ns:=cs) (k:=0+(k:Int)) ∅ ∅;let⟨r,er,hr⟩:=Uh c (0+(k:Int)) many ∅ ∅ fs ∅ ds ∅;refine⟨r.d,?_,r,rfl,by rw[Int.zero_add]at hr;rw[Nat.zero_add];exact hr⟩
   ac_rfl)
  let⟨rs,rfl,hT⟩:=Lw (i:=0) (P:=λk r=>Tg many k r) λk x hx=>by have:=xp k x hx;exact this
  rw[kK,ln]at xl;rw[ax (e':=[.al\.int∘ns,.al\.int∘cs,.bo\.str∘fs,.bo\ao∘ds,.fr\.int many,.bo\Row.d∘rs]) (by
   rw[bK (by symm;rw[eC (show(0:Int)<cs.length by omega)])];simp! [aw,cv,cf,ag,ai,jV,gz,gy,id_eq,oq,cK,and_self,if_true];rw[show f9 [.al\.int∘ns,.al\.int∘cs,.bo\.str∘fs,.bo\ao∘ds,.fr\.int many,.bo\.lst ([Row.en].map Row.d)] [4,2,3,1]=[.fr\.int many,.bo\.str∘fs,.bo\ao∘ds,.al\.int∘cs] from rfl,ex,oq,iH (by rw[ln];omega),oq];rfl)]
  exact fin rs ∅ ∅ λn r hr=>by
   have:=hT n r hr;rw[Nat.zero_add]at this;rw[show(rs.length:Int)=many by omega];exact this
 ·rw[ax (e':=[.al\.int∘ns,.al\.int∘cs,.bo\.str∘fs,.bo\ao∘ds,.fr\.int many,.bo\.lst ([Row.en].map Row.d)]) (by
   rw[bL (by symm;rw[fI (show ¬(0:Int)<cs.length by omega)])];rfl)]
  exact fin [.en] (by simp) (by simp) λn r hr=>by
   have:r=.en:=by simpa using dH hr
   subst this;exact⟨(λt e=>nomatch e),λa t e=>nomatch e⟩
theorem M0(rs:List Row):∀k,k≤rs.length→(aR rs k).length≤1+Wt (rs.take k)
 |0,_=>aU 1
 |k+1,h=>by
  have ih:=M0 rs k ∅;have hk:rs[k]?=some (rs[k]'h):=by simp
  rw[oD,fw,ln,List.take_succ,hk,pP,lP,show cn rs k=bA k (rs[k]'h) by unfold cn;rw[hk]];have:(bA k (rs[k]'h)).length≤wt (rs[k]'h):=by cases rs[k]'h<;>simp[aL.bA,wt]
  omega
theorem M3(rs:List Row)(hn:∀(n:Nat) a t,rs[n]?≠some (.pt a t)):∀k,k≤rs.length→(aR rs k).length≤1+k
 |0,_=>aU 1
 |k+1,h=>by
  have ih:=M3 rs hn k ∅;have hk:rs[k]?=some (rs[k]'h):=by simp
  rw[oD,fw,ln,show cn rs k=bA k (rs[k]'h) by unfold cn;rw[hk]];have:(bA k (rs[k]'h)).length≤1:=by
   cases e:rs[k]'h with
   |pt a t=>rw[e]at hk;exact absurd hk (hn k a t)
   |_=>simp[aL.bA]
  omega
def Ui(ns cs:List Int)(hc:cs.length≤20):∃rs:List Row,xg [.int∘ns,.int∘cs]=.un\Row.d∘rs∧Good rs∧rs.length≤100∧(aR rs rs.length).length<64:=by
 let⟨b,hb⟩:=C2 ns;let⟨nu,SF⟩:=Cm ns 57 ∅;unfold xg fn Hx;simp only[cA,bE,bH];cases b with
 |true =>
  let⟨rs,e,g,l⟩:=aaS ns cs hc;refine⟨rs,?_,g,by omega,by have:=ub rs rs.length;omega⟩;rw[dW (e':=[.al\.int∘ns,.al\.int∘cs,none,none,none,none,none]) (m:=.un) (d:=Row.d∘rs) (by
   rw[bK (by infer_instance)]
   ac_rfl)]
  rfl
 |false =>
  rw[gj (by infer_instance)];rw[ax (e':=[.al\.int∘ns,.al\.int∘cs,.fr\.int nu,none,none,none,none]) (by ac_rfl)];by_cases q:nu%8=1
  ·let⟨rs,e,g,l,np⟩:=U3 ns (1+nu/8%28) ∅ ∅;refine⟨rs,?_,g,by omega,by have:=M3 rs np rs.length (aU _);omega⟩;rw[dW (e':=[.al\.int∘ns,.al\.int∘cs,.fr\.int nu,none,none,none,none]) (m:=.un) (d:=Row.d∘rs) (by
    rw[bK (by infer_instance)]
    ac_rfl)]
   rfl
  rw[gj (by infer_instance)];let⟨ro,er,lM,G7,hrw⟩:=Wb ns cs hc;let⟨n2,FY⟩:=Cm ns 59 ∅;rw[ax (e':=[.al\.int∘ns,.al\.int∘cs,.fr\.int nu,.bo\Row.d∘ro,none,none,none]) (by ac_rfl)];rw[ax (e':=[.al\.int∘ns,.al\.int∘cs,.fr\.int nu,.bo\Row.d∘ro,.bo\.lst ([].map Row.d),none,none]) rfl];let⟨e',l1,rs,o5,o6,he,hl,hP,hw,hQ⟩:=dh (g:=gT 2 (bR (gN 5) (bR (gN 6) dJ))) (b:=wQ) (m:=.fr) (ds:=bY (ro.map Row.d)) (e:=[.al\.int∘ns,.al\.int∘cs,.fr\.int nu,.fr\Row.d∘ro,.bo\.lst ([].map Row.d),none,none])
   (λi e=>∃(rs:List Row) (o5 o6:Qzq),e=[.al\.int∘ns,.al\.int∘cs,.fr\.int nu,.fr\Row.d∘ro,.bo\Row.d∘rs,o5,o6]∧rs.length=i∧(∀(n:Nat) r,rs[n]?=some r→∀m∈bA n r,0≤m∧m<ro.length)∧Wt rs=Wt (ro.take i)∧∀(n:Nat) a t,rs[n]?=some (.pt a t)→t≠(n:Int)+1)
   ⟨[],none,none,rfl,rfl,(λn r h=>by simp at h),rfl,λn a t h=>by simp at h⟩
   (λi d e hd bx=>by
    let⟨rs,o5,o6,he,hl,hP,hw,hQ⟩:=bx;subst he;let⟨r,hr,rfl⟩:=Lg hd;have hi:i<ro.length:=(bp.mp hr).1;let⟨r',ck,q,hm,hw',hnp⟩:=aaN lM ∅ (.al\.int∘ns) (.al\.int∘cs) (.fr\.int nu) rs ∅ hr;refine⟨_,_,rfl,q,rs++[r'],_,ck,rfl,by simp[hl],λn x hx m qg=>?_,by rw[lP,hw,List.take_succ,hr,pP,lP,hw'],λn a t hx=>(by
     rcases gM hx with z|⟨z,w⟩
     ·exact hQ n a t z
     ·rw[z,hl];exact hnp a t w.symm)⟩
    rcases gM hx with z|⟨z,rfl⟩
    ·exact hP n x z m qg
    ·rw[z,hl]at qg;exact hm m qg)
  subst he;have hE:(bY (ro.map Row.d)).length=ro.length:=by simp[bY]
  rw[hE]at hl hw;rw[nT]at hw;rw[ax (e':=[.al\.int∘ns,.al\.int∘cs,.fr\.int nu,.fr\Row.d∘ro,.bo\Row.d∘rs,o5,o6]) (by
   rw[bT,show aW 3 [.al\.int∘ns,.al\.int∘cs,.fr\.int nu,.bo\Row.d∘ro,.bo\.lst ([].map Row.d),none,none]=[.al\.int∘ns,.al\.int∘cs,.fr\.int nu,.fr\Row.d∘ro,.bo\.lst ([].map Row.d),none,none] from rfl];simp! [aT,gb,ag,jV,ai,gz,gy,oq,id_eq,b9,oy];exact l1)]
  have g:Good rs:=⟨by have:=lM.pos;omega,(λn r hr m hm=>by rw[hl];exact hP n r hr m hm),hQ⟩;let⟨bJ,e2,g2,l2,w2⟩:=Yb g ∅ n2;refine⟨bJ,?_,g2,by omega,by have:=M0 bJ bJ.length (aU _);rw[nT]at this;omega⟩;have io:jz [0] [4] [(0,4)] [(.bo,Row.d∘rs),(.fr,.int n2)]=true:=by
   simp[jz,List.range_succ,own,gd,hU,oB]
  simp! [lS,ag,ai,jV,jC,aC,gz,gy,id_eq,oq,mq,mn,FY,io,if_true,e2,yn]
abbrev bD(p:Nat→Bool):Nat→Nat
 |0=>0
 |k+1=>bD p k+(if p k=true then 2^k else 0)
theorem yB(p:Nat→Bool):∀k,bD p k<2^k
 |0=>by simp[bD]
 |k+1=>by
  have:=yB p k;rw[bD,Nat.pow_succ];split<;>omega
theorem kM(p:Nat→Bool):∀k j,(bD p k).testBit j=(decide (j<k)&&p j)
 |0,j=>by simp[bD]
 |k+1,j=>by
  have h:=yB p k;have ih:=kM p k j;rw[bD];by_cases hp:p k=true
  ·rw[if_pos hp,Nat.add_comm];rcases Nat.lt_trichotomy j k with hj|rfl|hj
   ·rw[PZ hj,ih];simp[hj,Nat.lt_succ_of_lt hj]
   ·rw[P4,vo h];simp[hp]
   ·rw[vo (fJ (show 2^k+bD p k<2^(k+1) by rw[Nat.pow_succ];omega) (Fw (by decide) hj))];have:¬j<k+1:=by omega
    simp[this]
  ·rw[if_neg hp,Nat.add_zero,ih];by_cases hj:j<k
   ·simp[hj,Nat.lt_succ_of_lt hj]
   ·by_cases e:j=k
    ·subst e;simp[hp]
    ·have h2:¬j<k+1:=by omega
     simp[hj,h2]
theorem uc{p q:Nat→Bool}:∀{k:Nat},(∀j,j<k→p j=q j)→bD p k=bD q k
 |0,_=>rfl
 |k+1,h=>by rw[bD,bD,uc λj hj=>h j ∅,h k ∅]
def Yd{p q:Nat→Bool}{k:Nat}(h:bD p k=bD q k):∀j,j<k→p j=q j:=λj hj=>by
 have:=kM p k j;rw[h,kM]at this;simpa[hj]using this.symm
def Lx(p q:Nat→Bool)(k:Nat):bD p k&&&bD q k=bD (λj=>p j&&q j) k:=by
 apply Fx;intro j;rw[Nat.testBit_and,kM,kM,kM];cases decide (j<k)<;>simp
def aaT(p q:Nat→Bool)(k:Nat):bD p k|||bD q k=bD (λj=>p j||q j) k:=by
 apply Fx;intro j;rw[Nat.testBit_or,kM,kM,kM];cases decide (j<k)<;>simp
theorem Js(p q:Nat→Bool):∀k,bD (λj=>p j&&q j) k+bD (λj=>p j&&!q j) k=bD p k
 |0=>rfl
 |k+1=>by
  have:=Js p q k;simp only[bD];by_cases hp:p k=true<;>by_cases hq:q k=true<;>simp[hp,hq]<;>omega
theorem Ly{p:Nat→Bool}:∀{k i:Nat},i<k→(∀j,j<k→(p j=true↔j=i))→bD p k=2^i
 |0,i,h,_=>absurd h (j0 i)
 |k+1,i,h,hp=>by
  rw[bD];by_cases e:i=k
  ·subst e;rw[if_pos ((hp i ∅).mpr rfl),show bD p i=bD (λ_=>false) i from uc λj hj=>by
    cases hh:p j with
    |false=>rfl
    |true=>have:=(hp j ∅).mp hh;omega]
   have z:∀n,bD (λ_=>false) n=0:=λn=>by
    induction n with
    |zero=>rfl
    |succ n ih=>rw[bD,ih];simp
   rw[z];simp
  ·rw[if_neg λz=>e ((hp k ∅).mp z).symm,Nat.add_zero];exact Ly ∅ λj hj=>hp j ∅
def Wi{p:Nat→Bool}{k:Nat}(h:∀j,j<k→p j=false):bD p k=0:=by
 induction k with
 |zero=>rfl
 |succ k ih=>rw[bD,ih λj hj=>h j ∅,h k ∅];simp
def bI(p:Nat→Bool)(k:Nat):D:=.int ((bD p k:Nat):Int)
def S0(x y:Nat):Builtin.bitOr (x:Int) (y:Int)=((x|||y:Nat):Int):=by
 unfold Builtin.bitOr;rw[PyProof.Rows.bitAnd_nn (by unfold Builtin.bitNot;omega) (by unfold Builtin.bitNot;omega)];have nn:∀z:Int,Builtin.bitNot (Builtin.bitNot z)=z:=λz=>by unfold Builtin.bitNot;omega
 rw[nn,nn,nn,rS,rS]
def EY(x y:Nat):Builtin.bitAnd (x:Int) (y:Int)=((x&&&y:Nat):Int):=by
 rw[PyProof.Rows.bitAnd_pp (zI x) (zI y),rS,rS]
section
variable {m n:M}{p q:Nat→Bool}{k:Nat}
def acO:rq (m,bI p k) (n,bI q k)=some (.fr,bI (λj=>p j||q j) k):=by
 unfold bI;rw[Mp,S0,aaT]
def M4:gD (m,bI p k) (n,bI q k)=some (.fr,bI (λj=>p j&&q j) k):=by
 unfold bI;rw[CP,EY,Lx]
def M5:((nF (n,bI q k)).bind λy=>gD (m,bI p k) y)=some (.fr,bI (λj=>p j&&!q j) k):=by
 have:=Js p q k;unfold bI;rw[abH,oq,CP,PyProof.Rows.bitAnd_not,EY,Lx];have h:((bD p k:Nat):Int)-((bD (λj=>p j&&q j) k:Nat):Int)=((bD (λj=>p j&&!q j) k:Nat):Int):=by omega
 rw[h]
def aaU:(bI p k).cq=true:=pf
def uA(h:∀j,j<k→p j=q j):bI p k=bI q k:=by unfold bI;rw[uc h]
end
def Wj{bs:List Bool}{i:Nat}{d:D}(h:(bY (bs.map D.bl))[i]?=some d):∃b,bs[i]?=some b∧d=.tup [.int i,.bl b]:=by
 unfold bY at h;rw[rQ,cF]at h;cases e:bs[i]? with
 |none=>rw[e]at h;cases h
 |some r=>rw[e]at h;cases h;exact⟨r,rfl,rfl⟩
def C6{m n:M}{i:Nat}(h:i≤1000):oV (m,.int 1) (n,↥i)=some (.fr,.int ((2^i:Nat):Int)):=by
 rw[Z1 ⟨by omega,by omega,by decide⟩,rS,Int.one_mul];congr 3
def Lz(bs:List Bool)(hl:bs.length≤500):tM [.bl∘bs]=some (.fr,bI (λj=>bs.getD j false) bs.length):=by
 let⟨e',l1,o2,o3,he⟩:=dh (g:=gT 2 (bR (gN 2) (bR (gN 3) dJ))) (b:=xu) (m:=.al) (ds:=bY (bs.map D.bl)) (e:=[.al\.bl∘bs,.fr\.int 0,none,none])
  (λi e=>∃o2 o3,e=[.al\.bl∘bs,.fr\bI (λj=>bs.getD j false) i,o2,o3]) ⟨none,none,rfl⟩
  (λi d e hd bx=>by
   let⟨o2,o3,he⟩:=bx;subst he;let⟨b,hb,rfl⟩:=Wj hd;have hi:i<bs.length:=(bp.mp hb).1;have hg:bs.getD i false=b:=by rw[mB,hb];rfl
   refine⟨_,[.al\.bl∘bs,.fr\bI (λj=>bs.getD j false) (i+1),.al\↥i,.al\.bl b],rfl,?_,_,_,rfl⟩;show xu [.al\.bl∘bs,.fr\bI (λj=>bs.getD j false) i,.al\↥i,.al\.bl b]=_;unfold xu;cases b with
   |false =>
    rw[bL rfl];unfold bI;rw[bD,hg,if_neg bw];rfl
   |true =>
    rw[bK rfl];simp! [aw,ae,jV,jC,gz,gy,id_eq,oq,C6 (show i≤1000 by omega)];unfold bI;rw[Mp,S0,bD,hg,if_pos rfl];have ho:bD (λj=>bs.getD j false) i|||2^i=bD (λj=>bs.getD j false) i+2^i:=by
     apply Fx;intro j;have h:=yB (λj=>bs.getD j false) i;rw[Nat.testBit_or,Nat.add_comm];rcases Nat.lt_trichotomy j i with hj|rfl|hj
     ·rw[PZ hj,P5 ∅,zM]
     ·rw[P4,vo h,Nat.testBit_two_pow_self];rfl
     ·rw[vo (fJ h (Fw (by decide) ∅)),P5 ∅,vo (fJ (show 2^i+bD (λj=>bs.getD j false) i<2^(i+1) by rw[Nat.pow_succ];omega) (Fw (by decide) hj))];rfl
    rw[ho];rfl)
 subst he;have hE:(bY (bs.map D.bl)).length=bs.length:=by simp[bY]
 rw[hE]at l1;unfold tM fn Jk;simp only[cA,bE,bH];rw[ax (e':=[.al\.bl∘bs,.fr\.int 0,none,none]) rfl];rw[ax (e':=[.al\.bl∘bs,.fr\bI (λj=>bs.getD j false) bs.length,o2,o3]) (by
  rw[bT,show aW 0 [.al\.bl∘bs,.fr\.int 0,none,none]=[.al\.bl∘bs,.fr\.int 0,none,none] from rfl];simp! [aT,gb,ag,jV,ai,gz,gy,oq,id_eq,b9,oy];exact l1)]
 rfl
section
variable {κ:Type}[DecidableEq κ]
def Ye{ks:List (κ×D)}{k:κ}{d:D}(h:∀kv∈ks,kv.1=k→kv.2=d)(hi:∃kv∈ks,kv.1=k):putD ks k d=ks:=by
 unfold putD;rw[if_pos (by rw[pQ];let⟨kv,h1,h2⟩:=hi;exact⟨kv,h1,eC h2⟩)]
 conv=>rhs;rw[←List.map_id ks]
 refine rR λkv fj=>?_;by_cases e:kv.1=k
 ·rw[if_pos e,←h kv fj e];rfl
 ·rw[if_neg e];rfl
def xV{ks:List (κ×D)}{k:κ}{d:D}(h:∀kv∈ks,kv.1≠k):putD ks k d=ks++[(k,d)]:=by
 unfold putD;rw[if_neg];intro z;let⟨kv,h1,h2⟩:=pQ.mp z;exact h kv h1 (bq h2)
def xI{ks:List (κ×D)}{k:κ}{d:D}(h:∀kv∈ks,kv.1=k→kv.2=d)(hi:∃kv∈ks,kv.1=k):cS ks k=some d:=by
 unfold cS;cases f:ks.find? λkv=>decide (kv.1=k) with
 |none =>
  let⟨kv,h1,h2⟩:=hi;have:=List.find?_eq_none.mp f kv h1;exact absurd (eC h2) this
 |some kv =>
  have h1:=List.mem_of_find?_eq_some f;have h2:kv.1=k:=bq (List.find?_some (p:=λ(kv:κ×D)=>decide (kv.1=k)) f);rw[oy,h kv h1 h2]
def Ic{ks:List (κ×D)}{k:κ}:(cS ks k).isSome=true↔∃kv∈ks,kv.1=k:=by
 unfold cS;rw[zQ,List.find?_isSome];constructor
 ·rintro⟨kv,h1,h2⟩;exact⟨kv,h1,bq h2⟩
 ·rintro⟨kv,h1,h2⟩;exact⟨kv,h1,eC h2⟩
def J9(ks:List (κ×D))(k:κ)(d:D):(putD ks k d).length≤ks.length+1:=by
 unfold putD;split
 ·rw[ln];omega
 ·simp
def Ka{ks:List (κ×D)}{k:κ}{d:D}{kv:κ×D}(h:kv∈putD ks k d):(kv∈ks∧kv.1≠k)∨kv=(k,d):=by
 unfold putD at h;split at h
 ·let⟨x,hx,e⟩:=bQ.mp h;by_cases z:x.1=k
  ·rw[if_pos z]at e;exact .inr (by rw[←e,z])
  ·rw[if_neg z]at e;exact .inl (by rw[←e];exact⟨hx,z⟩)
 ·rename_i hn;rcases iq.mp h with z|z
  ·by_cases e:kv.1=k
   ·exact absurd (pQ.mpr ⟨kv,z,eC e⟩) hn
   ·exact .inl ⟨z,e⟩
  ·exact .inr (by simpa using z)
def putD_has{ks:List (κ×D)}{k:κ}{d:D}:∃kv∈putD ks k d,kv.1=k:=by
 unfold putD;split
 ·rename_i h;let⟨x,hx,e⟩:=pQ.mp h;have e:=bq e;exact⟨_,bQ.mpr ⟨x,hx,rfl⟩,by rw[if_pos e];exact e⟩
 ·exact⟨(k,d),by simp,rfl⟩
end
abbrev dn:Row→Option De
 |.rk _ s a b=>some (s,a,b)
 |_=>none
abbrev sets:Row→Option Str
 |.rk x _ _ _=>some x
 |.cp x _=>some x
 |_=>none
def dd:Option De→D
 |some q=>ao q
 |none=>.non
abbrev fh:Option Str→D
 |some q=>.str q
 |none=>.non
def EZ(r:Row):decide (r.word=("reckon" : Str))=(dn r).isSome:=by
 cases r with
 |rk x s a b=>exact(by decide +kernel:decide (("reckon" : Str) = "reckon")=true)
 |cp x a=>exact(by decide +kernel:decide (("copy" : Str) = "reckon")=false)
 |sy a=>exact(by decide +kernel:decide (("say" : Str) = "reckon")=false)
 |go t=>exact(by decide +kernel:decide (("go" : Str) = "reckon")=false)
 |pt a t=>exact(by decide +kernel:decide (("part" : Str) = "reckon")=false)
 |en=>exact(by decide +kernel:decide (("end" : Str) = "reckon")=false)
def yf(r:Row):oj [r.d]=some (.fr,dd (dn r)):=by
 unfold oj fn Ho;symm;simp! [fB,oq,fT,fV,bO,EZ];cases r with
 |rk x s a b =>
  simp! [dn,Option.isSome_some,if_true];rw[show au (.al,Row.d (.rk x s a b)) (.fr,.int 2)=some (.al,.str s)from rfl,show au (.al,Row.d (.rk x s a b)) (.fr,.int 3)=some (.al,kD a)from rfl,show au (.al,Row.d (.rk x s a b)) (.fr,.int 4)=some (.al,kD b)from rfl];symm;simp! [qG,Bool.and_self,if_true];rfl
 |_=>rfl
def C1(r:Row):yx [r.d]=some (.fr,fh (sets r)):=by
 cases r<;>rfl
abbrev wu:Ko→Key
 |.inl i=>.inl i
 |.inr x=>.inr x
def iF(q:De):List Key:=[.inr q.1,wu q.2.1,wu q.2.2]
def LC{a b:Ko}(h:wu a=wu b):a=b:=by
 cases a<;>cases b<;>simp[wu]at h<;>rw[h]
def C7{p q:De}(h:iF p=iF q):p=q:=by
 let⟨s,a,b⟩:=p;let⟨s',a',b'⟩:=q;simp only[iF,List.cons.injEq,and_true,Key.inr.injEq]at h;rw[h.1,LC h.2.1,LC h.2.2]
def C8(q:De):lg (ao q)=some (iF q):=by
 let⟨s,a,b⟩:=q;cases a<;>cases b<;>rfl
def Yf(q:De):EF (iF q)=ao q:=by
 let⟨s,a,b⟩:=q;cases a<;>cases b<;>rfl
def ia(l:List De):List (List Key×D):=l.map λq=>(iF q,.bl true)
noncomputable instance ad0 (q:De) (l:List De):Decidable (q∈l):=@List.instDecidableMemOfLawfulBEq De instBEqOfDecidableEq inferInstance q l
def ko(acc:List De)(r:Row):List De:=match dn r with
 |some q=>if q∈acc then acc else acc++[q]
 |none=>acc
def kn(rs:List Row):List De:=rs.foldl ko []
def Yg(acc:List De)(r:Row):(ko acc r).length≤acc.length+1:=by
 unfold ko;split
 ·split<;>simp
 ·omega
def qz(rs:List Row)(i:Nat)(r:Row)(h:rs[i]?=some r):kn (rs.take (i+1))=ko (kn (rs.take i)) r:=by
 unfold kn;rw[j4,h,List.foldl_append];rfl
theorem yC(rs:List Row):∀i,(kn (rs.take i)).length≤i
 |0=>by simp[kn]
 |i+1=>by
  have:=yC rs i;cases h:rs[i]? with
  |none =>
   have e:rs.take (i+1)=rs.take i:=by rw[j4,h];simp
   rw[e];omega
  |some r =>
   rw[qz rs i r h];have:=Yg (kn (rs.take i)) r;omega
set_option tactic.hygienic true in
theorem Kc(rs:List Row):∀i,(kn (rs.take i)).Nodup
 |0=>by simp[kn]
 |i+1=>by
  have ih:=Kc rs i;cases h:rs[i]? with
  |none =>
   have e:rs.take (i+1)=rs.take i:=by rw[j4,h];simp
   rw[e];exact ih
  |some r =>
   rw[qz rs i r h];unfold ko;split
   ·rename_i q _;split
    ·exact ih
    ·rename_i hn;rw[rP];exact⟨ih,by simp,λa ha b hb=>λz=>hn ((show b=q by simpa using hb)▸z▸ha)⟩
   ·exact ih
theorem M6(rs:List Row){q:De}:∀(i:Nat),(∃(n:Nat) (r:Row),n<i∧rs[n]?=some r∧dn r=some q)→q∈kn (rs.take i)
 |0,⟨n,_,h,_⟩=>absurd h (j0 n)
 |i+1,⟨n,r,hn,hr,hd⟩=>by
  have up:∀x,x∈kn (rs.take i)→x∈kn (rs.take (i+1)):=λx hx=>by
   cases h:rs[i]? with
   |none =>
    have e:rs.take (i+1)=rs.take i:=by rw[j4,h];simp
    rw[e];exact hx
   |some r =>
    rw[qz rs i r h];unfold ko;split
    ·split
     ·exact hx
     ·exact jn _ hx
    ·exact hx
  by_cases e:n=i
  ·subst e;rw[qz rs n r hr];unfold ko;rw[hd];simp only;split
   ·assumption
   ·simp
  ·exact up q (M6 rs i ⟨n,r,by omega,hr,hd⟩)
def wx{rs:List Row}:kn (rs.take rs.length)=kn rs:=by rw[nT]
def acP{r:Row}{l:List De}(hl:l.length≤500)(A0 o3:Qzq):∃fQ,wU [A0,.bo\.dt (ia l),.al\r.d,o3]=some (.nx [A0,.bo\.dt (ia (ko l r)),.al\r.d,fQ]):=by
 have s1:(ia l).length<sizeLine:=by simp only[ia,ln];exact eD hl (by decide)
 unfold wU;rw[ax (e':=[A0,.bo\.dt (ia l),.al\r.d,.fr\dd (dn r)]) (by
  simp! [aw,aC,ag,ai,jV,gz,gy,id_eq,oq,mq,mn,yf,kH,tz,tq])]
 unfold ko;cases hd:dn r with
 |none =>
  rw[bL rfl];exact⟨_,rfl⟩
 |some q =>
  rw[bK rfl];refine⟨some (.fr,ao q),?_⟩;have hp:putD (ia l) (iF q) (.bl true)=ia (if q∈l then l else l++[q]):=by
   by_cases hq:q∈l
   ·rw[if_pos hq];exact Ye (λkv fj _=>by let⟨x,_,rfl⟩:=bQ.mp fj;rfl) ⟨(iF q,.bl true),bQ.mpr ⟨q,hq,rfl⟩,rfl⟩
   ·rw[if_neg hq,xV (λkv fj=>by let⟨x,hx,rfl⟩:=bQ.mp fj;exactλz=>hq (C7 z▸hx))];simp[ia]
  simp! [m9,jV,jC,gz,gy,id_eq,oq,dd,C8,ig,if_true,nG,own,s1,hp,tz,tq]
def C9{rs:List Row}{i:Nat}{d:D}(h:(rs.map Row.d)[i]?=some d):∃r,rs[i]?=some r∧d=r.d:=by
 rw[cF]at h;cases e:rs[i]? with
 |none=>rw[e]at h;cases h
 |some r=>rw[e]at h;cases h;exact⟨r,rfl,rfl⟩
def yi{rs:List Row}(hl:rs.length≤400):ou [Row.d∘rs]=some (.un,.lst ((kn rs).map ao)):=by
 let⟨e',l1,o2,o3,he⟩:=dh (g:=gN 2) (b:=wU) (m:=.al) (ds:=rs.map Row.d) (e:=[.al\Row.d∘rs,.bo\.dt (ia []),none,none])
  (λi e=>∃o2 o3,e=[.al\Row.d∘rs,.bo\.dt (ia (kn (rs.take i))),o2,o3]) ⟨none,none,rfl⟩
  (λi d e hd bx=>by
   let⟨o2,o3,he⟩:=bx;subst he;let⟨r,hr,rfl⟩:=C9 hd;have hi:i<rs.length:=(bp.mp hr).1;have BW:=yC rs i;let⟨fQ,q⟩:=acP (r:=r) (l:=kn (rs.take i)) ∅ (.al\Row.d∘rs) o3;rw[←qz rs i r hr]at q;exact⟨_,_,rfl,q,_,fQ,rfl⟩)
 subst he;rw[ln,wx]at l1;unfold ou fn HD;simp only[cA,bE,bH];rw[ax (e':=[.al\Row.d∘rs,.bo\.dt (ia []),none,none]) rfl];rw[ax (e':=[.al\Row.d∘rs,.bo\.dt (ia (kn rs)),o2,o3]) (by
  rw[bT,show aW 0 [.al\Row.d∘rs,.bo\.dt (ia []),none,none]=[.al\Row.d∘rs,.bo\.dt (ia []),none,none] from rfl];simp! [aT,bF,jV,gz,gy,id_eq,oq,b9,oy];exact l1)]
 simp! [aF,aK,ag,ai,jV,gz,gy,id_eq,oq,uw,own,true_or,if_true,ui];congr 3;unfold ia;rw[gw];exact rR λq _=>Yf q
def qW(rs:List Row):(kn rs).length≤rs.length:=by have:=yC rs rs.length;rw[wx]at this;exact this
def acQ(rs:List Row):(kn rs).Nodup:=by have:=Kc rs rs.length;rw[wx]at this;exact this
def acR{rs:List Row}{n:Nat}{r:Row}{q:De}(hr:rs[n]?=some r)(hd:dn r=some q):q∈kn rs:=by
 have:=M6 rs (q:=q) rs.length ⟨n,r,(bp.mp hr).1,hr,hd⟩;rw[wx]at this;exact this
theorem Jt{fe:Qqj}{m:M}{fr:Ev}{x:D}(h:∀d,fe (some (m,d)::fr)=.fr\x):∀ds:Qzz,dM dN fe m fr ds=some ((List.replicate ds.length x).map λy=>(M.fr,y))
 |[]=>rfl
 |d::ds=>by rw[dM,show dN (some (m,d)::fr)=some true from rfl,oq,if_pos rfl,h,oq,Jt h ds,oq];rfl
def Kd{rs:List Row}(hl:rs.length≤400):tD [Row.d∘rs]=some (.fr,bI (λ_=>true) (kn rs).length):=by
 have hk:=qW rs;have hr:=yi hl;have hb:=Lz (List.replicate (kn rs).length true) (by simp;omega);rw[List.map_replicate,zJ]at hb;unfold tD fn HX;simp only[cA,bE,bH];simp! [aF,aC,ag,ai,cv,bF,jV,gz,gy,id_eq,oq,mq,mn,hr,b9,oy];rw[Jt (x:=.bl true) (λd=>rfl),oq,ln,iH (by rw[zJ];omega),oq];simp! [mq,mn,oq,hb,uh];rw[uA (p:=λj=>(List.replicate (kn rs).length true).getD j false) (q:=λ_=>true) λj hj=>by rw[mB,vd,if_pos hj];rfl]
def nJ(l:List De)(r:Row)(j:Nat):Bool:=match dn r,l[j]? with
 |some q,some q'=>decide (q=q')
 |_,_=>false
def eJ(l:List De):List (List Key×D):=l.mapIdx λk q=>(iF q,.int ((2^k:Nat):Int))
def Dc(l:List De):(eJ l).length=l.length:=by simp[eJ]
def LD{l:List De}{kv:List Key×D}(h:kv∈eJ l):∃(k:Nat) (q:De),l[k]?=some q∧kv=(iF q,.int ((2^k:Nat):Int)):=by
 let⟨i,hi,e⟩:=List.mem_iff_getElem.mp h;simp only[eJ,List.getElem_mapIdx]at e;have wd:i<l.length:=by rw[Dc]at hi;exact hi
 exact⟨i,l[i]'wd,by simp,e.symm⟩
def Wk(l:List De)(q:De):eJ (l++[q])=eJ l++[(iF q,.int ((2^l.length:Nat):Int))]:=by
 simp[eJ,List.mapIdx_append]
def DZ{l:List De}(h:l.Nodup){i j:Nat}{q:De}(hi:l[i]?=some q)(hj:l[j]?=some q):i=j:=by
 have wd:=(bp.mp hi).1;exact(List.getElem?_inj wd h).mp (by rw[hi,hj])
def Yh{l:List De}(h:l.Nodup){k:Nat}{q:De}(hk:l[k]?=some q):cS (eJ l) (iF q)=some (.int ((2^k:Nat):Int)):=by
 refine xI (λkv fj e=>?_) ?_
 ·let⟨i,q',hi,rfl⟩:=LD fj;have:q'=q:=C7 e;subst this;rw[DZ h hi hk]
 ·have qf:=(bp.mp hk).1;refine⟨_,rN (l:=eJ l) (n:=k) (by rw[Dc];exact qf),?_⟩;simp only[eJ,List.getElem_mapIdx];rw[(bp.mp hk).2]
def Ke{l:List De}{i:Nat}{d:D}(h:(bY (l.map ao))[i]?=some d):∃q,l[i]?=some q∧d=.tup [.int i,ao q]:=by
 unfold bY at h;rw[rQ,cF]at h;cases e:l[i]? with
 |none=>rw[e]at h;cases h
 |some r=>rw[e]at h;cases h;exact⟨r,rfl,rfl⟩
def Yi{l:List De}(h:l.Nodup){r:Row}{q:De}{k:Nat}(hd:dn r=some q)(hk:l[k]?=some q):bD (nJ l r) l.length=2^k:=by
 refine Ly (bp.mp hk).1 λj hj=>?_;unfold nJ;rw[hd,du hj];simp only[decide_eq_true_eq];constructor
 ·intro e;exact DZ h (by rw[du hj,←e]) hk
 ·intro e;subst e;exact((bp.mp hk).2).symm
theorem xG{fe:Qqj}{m m':M}{fr:Ev}{f:Row→D}:∀rs:List Row,(∀r∈rs,fe (some (m,r.d)::fr)=some (m',f r))→dM dN fe m fr (rs.map Row.d)=some ((rs.map f).map λy=>(m',y))
 |[],_=>rfl
 |r::rs,h=>by
  have ih:=xG (fe:=fe) (m:=m) (m':=m') (fr:=fr) (f:=f) rs λx hx=>h x (cT _ hx);rw[mq,dM,show dN (some (m,r.d)::fr)=some true from rfl,oq,if_pos rfl,h r cg,oq,ih,oq];rfl
def Wm{rs:List Row}(hl:rs.length≤400):wM [Row.d∘rs]=some (.un,.lst (rs.map λr=>bI (nJ (kn rs) r) (kn rs).length)):=by
 have hk:=qW rs;have iz:=acQ rs;have hr:=yi hl;let⟨e',l1,o2,o3,he⟩:=dh (g:=gT 2 (bR (gN 2) (bR (gN 3) dJ))) (b:=wC) (m:=.fr) (ds:=bY ((kn rs).map ao)) (e:=[.al\Row.d∘rs,.bo\.dt (eJ []),none,none])
  (λi e=>∃o2 o3,e=[.al\Row.d∘rs,.bo\.dt (eJ ((kn rs).take i)),o2,o3]) ⟨none,none,rfl⟩
  (λi d e hd bx=>by
   let⟨o2,o3,he⟩:=bx;subst he;let⟨q,hq,rfl⟩:=Ke hd;have hi:i<(kn rs).length:=(bp.mp hq).1;have s1:(eJ ((kn rs).take i)).length<sizeLine:=by rw[Dc];exact eD (show((kn rs).take i).length≤400 by rw[mw];omega) (by decide)
   have e1:eJ ((kn rs).take (i+1))=putD (eJ ((kn rs).take i)) (iF q) (.int ((2^i:Nat):Int)):=by
    rw[j4,hq,pP,Wk,xV (λkv fj z=>?_)]
    ·rw[mw,Nat.min_eq_left ∅]
    ·let⟨k,q',qf,rfl⟩:=LD fj;have:q'=q:=C7 z;subst this;have aX:k<i:=by
      have:=(bp.mp qf).1;rw[mw]at this;omega
     rw[List.getElem?_take_of_lt aX]at qf;have:=DZ iz qf hq;omega
   refine⟨_,[.al\Row.d∘rs,.bo\.dt (eJ ((kn rs).take (i+1))),.fr\↥i,.fr\ao q],rfl,?_,_,_,rfl⟩;show wC [.al\Row.d∘rs,.bo\.dt (eJ ((kn rs).take i)),.fr\↥i,.fr\ao q]=_;unfold wC;simp! [m9,ae,jV,jC,gz,gy,id_eq,oq,C6 (show i≤1000 by omega),C8,ig,if_true,nG,own,s1,←e1,tz,tq])
 subst he;have hE:(bY ((kn rs).map ao)).length=(kn rs).length:=by simp[bY]
 rw[hE,nT]at l1;have ex:=xG (fe:=uv (jV 1) (aC oj (ag (jV 0) ai)) (jC (.int 0))) (m:=.al) (m':=.fr) (fr:=[.bo\.dt (eJ (kn rs))]) (f:=λr=>bI (nJ (kn rs) r) (kn rs).length) rs (λr hr=>by
  simp! [uv,aC,ag,ai,jV,jC,gz,gy,id_eq,oq,mq,mn,yf,ml];cases hd:dn r with
  |none =>
   simp! [dd,pf,if_true];unfold bI;rw[Wi λj _=>by unfold nJ;rw[hd]];rfl
  |some q =>
   let⟨n,hn⟩:=List.mem_iff_getElem?.mp hr;let⟨k,hk⟩:=List.mem_iff_getElem?.mp (acR hn hd);have hv:=Yh iz hk;rw[show dd (some q)=D.tup [.str q.1,kD q.2.1,kD q.2.2] from rfl];simp only;rw[show lg (D.tup [.str q.1,kD q.2.1,kD q.2.2])=some (iF q)from C8 q,oq,hv];simp only[aY];unfold bI;rw[Yi iz hd hk])
 unfold wM fn Hl;simp only[cA,bE,bH];rw[ax (e':=[.al\Row.d∘rs,.bo\.dt (eJ []),none,none]) rfl];rw[ax (e':=[.al\Row.d∘rs,.bo\.dt (eJ (kn rs)),o2,o3]) (by
  simp! [aT,gb,aC,ag,jV,ai,gz,gy,oq,id_eq,mq,mn,hr,b9,oy];exact l1)]
 simp! [aF,cv,bF,jV,gz,gy,id_eq,oq,b9,oy];rw[show f9 [.al\Row.d∘rs,.bo\.dt (eJ (kn rs)),o2,o3] [1]=[.bo\.dt (eJ (kn rs))] from rfl,ex,oq,iH (by rw[ln];omega),oq];rfl
abbrev isNm(a:Ko)(x:Str):Bool:=match a with
 |.inr y=>decide (x=y)
 |.inl _=>false
def gk(o:Option Str)(q:De):Bool:=match o with
 |some x=>isNm q.2.1 x||isNm q.2.2 x
 |none=>false
def adQ{m n:M}{x:Str}(a:Ko):aP (m,.str x) (n,kD a)=some (.fr,.bl (isNm a x)):=by
 cases a with
 |inl i=>exact abF
 |inr y=>exact fV
def Ca(r:Row)(q:De):qu [r.d,ao q]=some (.fr,.bl (gk (sets r) q)):=by
 unfold qu fn Jj;simp only[cA,bE,bH];rw[ax (e':=[.al\r.d,.al\ao q,.fr\fh (sets r)]) (by
  simp! [aw,aC,ag,ai,jV,gz,gy,id_eq,oq,mq,mn,C1,kH,tz,tq])]
 cases sets r with
 |none=>rfl
 |some x =>
  have e1:au (.al,ao q) (.fr,.int 1)=some (.al,kD q.2.1):=rfl;have e2:au (.al,ao q) (.fr,.int 2)=some (.al,kD q.2.2):=rfl;simp! [aF,nD,mO,ae,jV,jC,gz,gy,id_eq,oq,fh,e1,e2,adQ];rw[show kY (.fr,.str x) (.fr,.non)=some (.fr,.bl true)from rfl];simp! [oq,bO,if_true,gk];cases isNm q.2.1 x<;>rfl
def cM(l:List De)(o:Option Str)(j:Nat):Bool:=match l[j]? with
 |some q=>gk o q
 |none=>false
abbrev nK:Option Str→Key
 |some x=>.inr x
 |none=>.non
abbrev pE:Key→Option Str
 |.inr x=>some x
 |_=>none
def LJ(o:Option Str):pE (nK o)=o:=by cases o<;>rfl
def Cz(o:Option Str):keyOf (fh o)=some (nK o):=by cases o<;>rfl
theorem IG{fe:Qqj}{m m':M}{fr:Ev}{f:De→D}:∀rs:List De,(∀r∈rs,fe (some (m,ao r)::fr)=some (m',f r))→dM dN fe m fr (rs.map ao)=some ((rs.map f).map λy=>(m',y))
 |[],_=>rfl
 |r::rs,h=>by
  have ih:=IG (fe:=fe) (m:=m) (m':=m') (fr:=fr) (f:=f) rs λx hx=>h x (cT _ hx);rw[mq,dM,show dN (some (m,ao r)::fr)=some true from rfl,oq,if_pos rfl,h r cg,oq,ih,oq];rfl
def acS{l:List De}(hl:l.length≤400){m1:M}(h1:m1=.bo∨m1=.fr)(A0:Qzq){nm:List (Key×D)}(hn:∀kv∈nm,kv.2=bI (cM l (pE kv.1)) l.length)(wy:nm.length≤400){bs:Qzz}(hbl:bs.length≤400)(r:Row)(o5:Qzq) :
  ∃wz jD dA,wG [A0,some (m1,ao∘l),.bo\.dk nm,.bo\.lst bs,.al\r.d,o5]=some (.nx [A0,some (wz,ao∘l),.bo\.dk jD,.bo\.lst (bs++[bI (cM l (sets r)) l.length]),.al\r.d,dA])∧(wz=.bo∨wz=.fr)∧(∀kv∈jD,kv.2=bI (cM l (pE kv.1)) l.length)∧jD.length≤nm.length+1:=by
 have s1:nm.length<sizeLine:=eD wy (by decide);have s2:bs.length<sizeLine:=eD hbl (by decide);have hc:(jB (fX true (jV 5) (jV 2))) [A0,some (m1,ao∘l),.bo\.dk nm,.bo\.lst bs,.al\r.d,.fr\fh (sets r)]=some (!(cS nm (nK (sets r))).isSome):=by
  simp! [jB,fX,jV,gz,gy,id_eq,oq,jU,Cz,if_true,bO]
 have fin:∀(m2:M) (jD:List (Key×D)),(∀kv∈jD,kv.2=bI (cM l (pE kv.1)) l.length)→(∃kv∈jD,kv.1=nK (sets r))→cJ 3 (oO (jV 2) (jV 5)) [A0,some (m2,ao∘l),.bo\.dk jD,.bo\.lst bs,.al\r.d,.fr\fh (sets r)]=some (.nx [A0,some (m2,ao∘l),.bo\.dk jD,.bo\.lst (bs++[bI (cM l (sets r)) l.length]),.al\r.d,.fr\fh (sets r)]):=λm2 jD rX hi=>by
  have hv:cS jD (nK (sets r))=some (bI (cM l (sets r)) l.length):=xI (λkv fj e=>by rw[rX kv fj,e,LJ]) hi;simp! [cJ,oO,jV,gz,gy,id_eq,oq,jU,Cz,hv,oH,ig,if_true,ft,own,s2,tz,tq]
 unfold wG;rw[ax (e':=[A0,some (m1,ao∘l),.bo\.dk nm,.bo\.lst bs,.al\r.d,.fr\fh (sets r)]) (by
  simp! [aw,aC,ag,ai,jV,gz,gy,id_eq,oq,mq,mn,C1,kH,tz,tq])]
 cases hb:(cS nm (nK (sets r))).isSome with
 |true =>
  rw[gj (by rw[hc,hb];rfl)];exact⟨m1,nm,_,fin m1 nm hn (Ic.mp hb),h1,hn,by omega⟩
 |false =>
  have ex:=IG (fe:=aC qu (ag (jV 1) (ag (jV 0) ai))) (m:=.fr) (m':=.fr) (fr:=[.al\r.d]) (f:=λq=>D.bl (gk (sets r) q)) l (λq _=>by
   simp! [aC,ag,ai,jV,gz,gy,id_eq,oq,mq,mn,Ca])
  have Hd:=Lz (l.map (gk (sets r))) (by rw[ln];omega);rw[gw,ln]at Hd;have j5:bI (λj=>(l.map (gk (sets r))).getD j false) l.length=bI (cM l (sets r)) l.length:=uA λj hj=>by
   rw[mB,cF,du hj];unfold cM;rw[du hj];rfl
  rw[j5]at Hd;rw[ax (e':=[A0,.fr\ao∘l,.bo\.dk (putD nm (nK (sets r)) (bI (cM l (sets r)) l.length)),.bo\.lst bs,.al\r.d,.fr\fh (sets r)]) (by
   rw[bK (by rw[hc,hb];rfl)];rw[bT,show aW 1 [A0,some (m1,ao∘l),.bo\.dk nm,.bo\.lst bs,.al\r.d,.fr\fh (sets r)]=[A0,.fr\ao∘l,.bo\.dk nm,.bo\.lst bs,.al\r.d,.fr\fh (sets r)] from by rcases h1 with rfl|rfl<;>rfl];simp! [k5,aC,cv,bF,ag,ai,jV,gz,gy,id_eq,oq,b9,oy];rw[show f9 [A0,.fr\ao∘l,.bo\.dk nm,.bo\.lst bs,.al\r.d,.fr\fh (sets r)] [4]=[.al\r.d] from rfl,ex,oq,iH (by rw[ln];omega),oq];simp! [mq,mn,oq];rw[show(l.map λq=>D.bl (gk (sets r) q))=l.map (Function.comp D.bl (gk (sets r)))from rfl,Hd];simp! [oq,Cz,ig,if_true,mj,own,gz,gy,s1,tz,tq])]
  have rX:∀kv∈putD nm (nK (sets r)) (bI (cM l (sets r)) l.length),kv.2=bI (cM l (pE kv.1)) l.length:=λkv fj=>by
   rcases Ka fj with⟨z,_⟩|rfl
   ·exact hn kv z
   ·show _=bI (cM l (pE (nK (sets r)))) l.length;rw[LJ]
  exact⟨.fr,_,_,fin .fr _ rX putD_has,.inr rfl,rX,J9 _ _ _⟩
def Wn{rs:List Row}(hl:rs.length≤300):wV [Row.d∘rs]=some (.un,.lst (rs.map λr=>bI (cM (kn rs) (sets r)) (kn rs).length)):=by
 have hk:=qW rs;have hr:=yi (rs:=rs) ∅;let⟨e',l1,m1,nm,o4,o5,he,_,_,_⟩:=dh (g:=gN 4) (b:=wG) (m:=.al) (ds:=rs.map Row.d) (e:=[.al\Row.d∘rs,.bo\.lst ((kn rs).map ao),.bo\.dk [],.bo\.lst [],none,none])
  (λi e=>∃(m1:M) (nm:List (Key×D)) (o4 o5:Qzq),e=[.al\Row.d∘rs,some (m1,.lst ((kn rs).map ao)),.bo\.dk nm,.bo\.lst ((rs.take i).map λr=>bI (cM (kn rs) (sets r)) (kn rs).length),o4,o5]∧(m1=.bo∨m1=.fr)∧(∀kv∈nm,kv.2=bI (cM (kn rs) (pE kv.1)) (kn rs).length)∧nm.length≤i)
  ⟨.bo,[],none,none,rfl,.inl rfl,(λkv h=>nomatch h),aU _⟩
  (λi d e hd bx=>by
   let⟨m1,nm,o4,o5,he,h1,h2,h3⟩:=bx;subst he;let⟨r,hr,rfl⟩:=C9 hd;have hi:i<rs.length:=(bp.mp hr).1;let⟨wz,jD,dA,q,g1,g2,g3⟩:=acS (l:=kn rs) ∅ h1 (.al\Row.d∘rs) h2 ∅ (bs:=(rs.take i).map λr=>bI (cM (kn rs) (sets r)) (kn rs).length) (by rw[ln,mw];omega) r o5;refine⟨_,_,rfl,q,wz,jD,.al\r.d,dA,?_,g1,g2,by omega⟩;rw[j4,hr,pP,ly];rfl)
 subst he;rw[ln,nT]at l1;unfold wV fn Hq;simp only[cA,bE,bH];rw[ax (e':=[.al\Row.d∘rs,.bo\.lst ((kn rs).map ao),none,none,none,none]) (by
  simp! [aw,aC,ag,ai,jV,gz,gy,id_eq,oq,mq,mn,hr,kJ,tz,tq])]
 rw[ax (e':=[.al\Row.d∘rs,.bo\.lst ((kn rs).map ao),.bo\.dk [],none,none,none]) rfl];rw[ax (e':=[.al\Row.d∘rs,.bo\.lst ((kn rs).map ao),.bo\.dk [],.bo\.lst [],none,none]) rfl];rw[ax (e':=[.al\Row.d∘rs,some (m1,.lst ((kn rs).map ao)),.bo\.dk nm,.bo\.lst (rs.map λr=>bI (cM (kn rs) (sets r)) (kn rs).length),o4,o5]) (by
  rw[bT,show aW 0 [.al\Row.d∘rs,.bo\.lst ((kn rs).map ao),.bo\.dk [],.bo\.lst [],none,none]=[.al\Row.d∘rs,.bo\.lst ((kn rs).map ao),.bo\.dk [],.bo\.lst [],none,none] from rfl];simp! [aT,bF,jV,gz,gy,id_eq,oq,b9,oy];exact l1)]
 rfl
def CB{c:Qqx}{b:Qqq}(Iv:Nat→Ev→Prop)(Rt:M→D→Prop)
    (hs:∀n e,Iv n e→c e=some false∨(c e=some true∧((∃e2 n2,(b e=some (.nx e2)∨b e=some (.ct e2))∧Iv n2 e2∧n2<n)∨∃e2 m d,b e=some (.rt e2 m d)∧Rt m d))) {n:Nat}{e:Ev} (h0:Iv n e) :
    (∃e' n',ic c b e=some (.nx e')∧Iv n' e'∧c e'=some false)∨∃e' m d,ic c b e=some (.rt e' m d)∧Rt m d:=by
  have:∀(k n:Nat) e,n≤k→Iv n e→(∃e' n',dB c b (k+1) e=some (.nx e')∧Iv n' e'∧c e'=some false)∨∃e' m d,dB c b (k+1) e=some (.rt e' m d)∧Rt m d:=by
    intro k
    induction k with
    |zero =>
      intro n e hn hi;rcases hs n e hi with h|⟨h,⟨e2,n2,_,_,z⟩|⟨e2,m,d,h1,h2⟩⟩
      · exact .inl ⟨e,n,by simp[dB,h],hi,h⟩
      · omega
      · exact .inr ⟨e2,m,d,by rw[dB,h,oq,if_pos rfl,h1,oq],h2⟩
    |succ k ih =>
      intro n e hn hi;rcases hs n e hi with h|⟨h,⟨e2,n2,h1,h2,h3⟩|⟨e2,m,d,h1,h2⟩⟩
      · exact .inl ⟨e,n,by simp[dB,h],hi,h⟩
      · have w:dB c b (k+1+1) e=dB c b (k+1) e2:=by
          rw[dB,h,oq,if_pos rfl];rcases h1 with h1|h1<;>rw[h1,oq]
        rw[w];exact ih n2 e2 ∅ h2
      · exact .inr ⟨e2,m,d,by rw[dB,h,oq,if_pos rfl,h1,oq],h2⟩
  rcases this n n e (aU _) h0 with⟨e',n',h1,h2,h3⟩|⟨e',m,d,h1,h2⟩
  · exact .inl ⟨e',n',Cg h1,h2,h3⟩
  · exact .inr ⟨e',m,d,Cg h1,h2⟩
abbrev a9(P:Nat→Nat→Bool)(N K:Nat):Qzz:=(List.range N).map λn=>bI (P n) K
def Dg(P:Nat→Nat→Bool)(N K:Nat):(a9 P N K).length=N:=by simp[a9]
def yD{P:Nat→Nat→Bool}{N K m:Nat}(h:m<N):L2.bz (a9 P N K) (m:Int)=some (bI (P m) K):=by
 rw[kE (by rw[Dg];exact h)];simp[a9]
theorem Kf:∀{ds:Qzz},(∀d∈ds,d.cq=true)→D.cI ds=true
 |[],_=>by simp only[D.cI]
 |d::ds,h=>by simp only[D.cI,h d List.mem_cons_self,Kf λx hx=>h x (List.mem_cons_of_mem _ hx),Bool.and_self]
def Yj(P:Nat→Nat→Bool)(N K:Nat):D.cI (a9 P N K)=true:=Kf λd hd=>by
 let⟨n,_,rfl⟩:=bQ.mp hd;exact aaU
abbrev lj(P:Nat→Nat→Bool)(m:Nat)(q:Nat→Bool):Nat→Nat→Bool:=λn=>if n=m then q else P n
def Yk(P:Nat→Nat→Bool)(N K m:Nat)(q:Nat→Bool):(a9 P N K).set m (bI q K)=a9 (lj P m q) N K:=by
 refine z7 (by simp[a9]) λi h1 h2=>?_;rw[List.getElem_set];simp only[a9,List.getElem_map,List.getElem_range,lj];by_cases e:m=i
 ·rw[if_pos e,if_pos e.symm]
 ·rw[if_neg e,if_neg λz=>e z.symm]
abbrev cz(p:Nat→Bool):Nat→Nat
 |0=>0
 |k+1=>cz p k+(if p k=true then 0 else 1)
theorem Ob(p:Nat→Bool):∀k,cz p k≤k
 |0=>aU _
 |k+1=>by have:=Ob p k;rw[cz];split<;>omega
theorem LK{p q:Nat→Bool}:∀{k:Nat},(∀j,j<k→p j=true→q j=true)→cz q k≤cz p k∧(cz q k=cz p k→∀j,j<k→p j=q j)
 |0,_=>⟨aU _,λ_ j h=>absurd h (j0 j)⟩
 |k+1,h=>by
  let⟨h1,h2⟩:=LK (k:=k) λj hj=>h j ∅;have hk:=h k ∅;rw[cz,cz];cases hp:p k with
  |true =>
   rw[hk hp];simp only[if_true,Nat.add_zero];refine⟨h1,λe j hj=>?_⟩;by_cases z:j=k
   ·subst z;rw[hp,hk hp]
   ·exact h2 e j ∅
  |false =>
   cases hq:q k with
   |true=>simp;exact⟨by omega,λe=>by omega⟩
   |false =>
    simp;refine⟨h1,λe j hj=>?_⟩;by_cases z:j=k
    ·subst z;rw[hp,hq]
    ·exact h2 e j ∅
abbrev cL(P:Nat→Nat→Bool)(K:Nat):Nat→Nat
 |0=>0
 |n+1=>cL P K n+cz (P n) K
theorem M7(P:Nat→Nat→Bool)(K:Nat):∀N,cL P K N≤N*K
 |0=>by simp[cL]
 |n+1=>by have:=M7 P K n;have:=Ob (P n) K;rw[cL,Nat.succ_mul];omega
theorem LN{P:Nat→Nat→Bool}{K m:Nat}{q:Nat→Bool}:∀{N:Nat},N≤m→cL (lj P m q) K N=cL P K N
 |0,_=>rfl
 |n+1,h=>by
  rw[cL,cL,LN ∅];have:lj P m q n=P n:=if_neg ∅;rw[this]
theorem M8{P:Nat→Nat→Bool}{K m:Nat}{q:Nat→Bool}(h:cz q K<cz (P m) K):∀{N:Nat},m<N→cL (lj P m q) K N<cL P K N
 |0,hm=>absurd hm (j0 m)
 |n+1,hm=>by
  rw[cL,cL];by_cases e:m=n
  ·subst e;rw[LN (aU m)];have:lj P m q m=q:=if_pos rfl;rw[this];omega
  ·have ih:=M8 h (N:=n) ∅;have:lj P m q n=P n:=if_neg λz=>e z.symm;rw[this];omega
def Cl(Bk:List (List Nat))(pass P:Nat→Nat→Bool)(K n:Nat):Prop:=∀m∈Bk.getD n [],∀j,j<K→P n j=true→pass m j=true→P m j=true
structure SI (Bk:List (List Nat))(pass P0:Nat→Nat→Bool)(N K:Nat)(P:Nat→Nat→Bool):Prop where
 up:∀n j,n<N→j<K→P0 n j=true→P n j=true
 sd:∀Q:Nat→Nat→Prop,(∀n j,n<N→j<K→P0 n j=true→Q n j)→(∀n m j,n<N→m∈Bk.getD n []→j<K→Q n j→pass m j=true→Q m j)→∀n j,n<N→j<K→P n j=true→Q n j
def Wo{Bk:List (List Nat)}{pass P0:Nat→Nat→Bool}{N K:Nat}(A1:Qzq)(hN:N≤400){n:Nat}(hn:n<N){P:Nat→Nat→Bool}(si:SI Bk pass P0 N K P){m:Nat}(hm:m<N)(wj:m∈Bk.getD n []){ws:List Nat}(hw:ws.length≤1000000)(o7:Qzq) :
  ∃P' cN bU,tH [.al\.lst (bu Bk),A1,.al\.lst (a9 pass N K),.bo\.lst (a9 P N K),.bo\⇑ws,.fr\↥n,.al\↥m,o7]=some (.nx [.al\.lst (bu Bk),A1,.al\.lst (a9 pass N K),.bo\.lst (a9 P' N K),.bo\⇑cN,.fr\↥n,.al\↥m,bU]) ∧
   SI Bk pass P0 N K P'∧(∀j,j<K→P' n j=P n j)∧(∀x j,j<K→P x j=true→P' x j=true)∧(∀j,j<K→P n j=true→pass m j=true→P' m j=true)∧(∀x∈ws,x∈cN)∧(∀x,x∉cN→∀j,P' x j=P x j)∧2*cL P' K N+cN.length≤2*cL P K N+ws.length∧(∀x∈cN,x∈ws∨x=m):=by
 have s1:ws.length<sizeLine:=eD hw (by decide)
 let q:Nat→Bool:=λj=>P m j||(P n j&&pass m j)
 have hq:q=λj=>P m j||(P n j&&pass m j):=rfl;unfold tH;rw[ax (e':=[.al\.lst (bu Bk),A1,.al\.lst (a9 pass N K),.bo\.lst (a9 P N K),.bo\⇑ws,.fr\↥n,.al\↥m,.fr\bI q K]) (by
  simp! [aw,ae,jV,gz,gy,id_eq,oq,cR,yD hm,yD hn,oy,oH,fT,M4,acO,kH,tz,tq,hq])]
 have hc:(jB (ae kg (jV 7) (ae au (jV 3) (jV 6)))) [.al\.lst (bu Bk),A1,.al\.lst (a9 pass N K),.bo\.lst (a9 P N K),.bo\⇑ws,.fr\↥n,.al\↥m,.fr\bI q K]=some (!decide (((bD q K:Nat):Int)=((bD (P m) K:Nat):Int))):=by
  simp! [jB,ae,jV,gz,gy,id_eq,oq,cR,yD hm,oy,oH];unfold bI;rw[DP];rfl
 by_cases he:bD q K=bD (P m) K
 ·rw[bL (by rw[hc,he];simp)];refine⟨P,ws,_,rfl,si,λ_ _=>rfl,λ_ _ _ h=>h,λj hj h1 h2=>?_,λ_ h=>h,λ_ _ _=>rfl,aU _,λ_ h=>.inl h⟩;have:=Yd he j hj;rw[←this,hq];simp[h1,h2]
 ·have aX:cz q K<cz (P m) K:=by
   let⟨h1,h2⟩:=LK (p:=P m) (q:=q) (k:=K) λj _ h=>by rw[hq];simp[h]
   rcases Nat.lt_or_eq_of_le h1 with z|z
   ·exact z
   ·exact absurd (uc λj hj=>(h2 z j hj).symm) he
  have f7:n≠m:=λe=>he (uc λj _=>by
   show(P m j||(P n j&&pass m j))=P m j;rw[e];by_cases h:P m j=true<;>simp[h])
  rw[bK (by rw[hc,fI (λz=>he ∅)];rfl)];have wm:dR (a9 P N K).length (m:Int)=some m:=by
   unfold dR;rw[Dg,if_pos ∅,if_pos ∅];simp
  have um:lj P m q m=q:=if_pos rfl;have ux:∀x,x≠m→lj P m q x=P x:=λx h=>if_neg h;refine⟨lj P m q,ws++[m],.fr\bI q K,?_,⟨λx j hx hj h=>?_,λQ h1 h2 x j hx hj h=>?_⟩,λj _=>by rw[ux n f7],λx j _ h=>?_,λj _ h1 h2=>by rw[um,hq];simp[h1,h2],λx h=>jn _ h,λx hx j=>by rw[ux x λe=>hx (by rw[e];simp)],?_,λx hx=>by simpa using hx⟩
  ·simp! [aq,fS,cJ,jV,gz,gy,id_eq,oq,mX,ig,if_true,ft,own,wm,Yk,tz,tq,uj,pf,dE,s1,xT]
  ·by_cases e:x=m
   ·subst e;rw[um,hq];simp[si.up x j hx hj h]
   ·rw[ux x e];exact si.up x j hx hj h
  ·by_cases e:x=m
   ·subst e;rw[um,hq]at h;simp only[Bool.or_eq_true,Bool.and_eq_true]at h;rcases h with h|⟨h,h'⟩
    ·exact si.sd Q h1 h2 x j hx hj h
    ·exact h2 n x j hn wj hj (si.sd Q h1 h2 n j hn hj h) h'
   ·rw[ux x e]at h;exact si.sd Q h1 h2 x j hx hj h
  ·by_cases e:x=m
   ·subst e;rw[um,hq];simp[h]
   ·rw[ux x e];exact h
  ·have:=M8 aX hm;rw[fw];simp only[List.length_cons,List.length_nil];omega
def U4{Bk:List (List Nat)}{pass P0:Nat→Nat→Bool}{N K:Nat}(A1:Qzq)(hN:N≤400){n:Nat}(hn:n<N){P:Nat→Nat→Bool}(si:SI Bk pass P0 N K P)(hm:∀m∈Bk.getD n [],m<N){ws:List Nat}(hw:2*cL P K N+ws.length≤900000)(o6 o7:Qzq) :
  ∃P' cN ck bU,forL (gN 6) tH .al (ak (Bk.getD n [])) [.al\.lst (bu Bk),A1,.al\.lst (a9 pass N K),.bo\.lst (a9 P N K),.bo\⇑ws,.fr\↥n,o6,o7]=some (.nx [.al\.lst (bu Bk),A1,.al\.lst (a9 pass N K),.bo\.lst (a9 P' N K),.bo\⇑cN,.fr\↥n,ck,bU]) ∧
   SI Bk pass P0 N K P'∧(∀j,j<K→P' n j=P n j)∧(∀x j,j<K→P x j=true→P' x j=true)∧(∀m∈Bk.getD n [],∀j,j<K→P n j=true→pass m j=true→P' m j=true)∧(∀x∈ws,x∈cN)∧(∀x,x∉cN→∀j,P' x j=P x j)∧2*cL P' K N+cN.length≤2*cL P K N+ws.length∧∀x∈cN,x∈ws∨x<N:=by
 generalize hms:Bk.getD n []=ms at hm;let⟨e',l1,P',cN,ck,bU,he,a1,a2,a3,a4,a5,a6,a7,a8⟩:=dh (g:=gN 6) (b:=tH) (m:=.al) (ds:=ak ms) (e:=[.al\.lst (bu Bk),A1,.al\.lst (a9 pass N K),.bo\.lst (a9 P N K),.bo\⇑ws,.fr\↥n,o6,o7])
  (λi e=>∃(P':Nat→Nat→Bool) (cN:List Nat) (o6 o7:Qzq),e=[.al\.lst (bu Bk),A1,.al\.lst (a9 pass N K),.bo\.lst (a9 P' N K),.bo\⇑cN,.fr\↥n,o6,o7] ∧
   SI Bk pass P0 N K P'∧(∀j,j<K→P' n j=P n j)∧(∀x j,j<K→P x j=true→P' x j=true)∧(∀m∈ms.take i,∀j,j<K→P n j=true→pass m j=true→P' m j=true)∧(∀x∈ws,x∈cN)∧(∀x,x∉cN→∀j,P' x j=P x j)∧2*cL P' K N+cN.length≤2*cL P K N+ws.length∧∀x∈cN,x∈ws∨x<N)
  ⟨P,ws,o6,o7,rfl,si,(λ_ _=>rfl),(λ_ _ _ h=>h),(λm h=>by simp at h),(λ_ h=>h),(λ_ _ _=>rfl),aU _,λ_ h=>.inl h⟩
  (λi d e hd bx=>by
   let⟨P1,ws1,o6,o7,he,a1,a2,a3,a4,a5,a6,a7,a8⟩:=bx;subst he;obtain⟨m,S1,rfl⟩:∃m,ms[i]?=some m∧d=↥m:=by
    unfold ak at hd;rw[cF]at hd;cases e:ms[i]? with
    |none=>rw[e]at hd;cases hd
    |some r=>rw[e]at hd;cases hd;exact⟨r,rfl,rfl⟩
   have E1:=dH S1;let⟨P2,BX,bU,q,b1,b2,b3,b4,b5,b6,b7,b8⟩:=Wo A1 hN hn a1 (hm m E1) (by rw[hms];exact E1) (ws:=ws1) ∅ o7;refine⟨_,_,rfl,q,P2,BX,_,bU,rfl,b1,λj hj=>by rw[b2 j hj,a2 j hj],λx j hj h=>b3 x j hj (a3 x j hj h),λx hx j hj h1 h2=>?_,λx h=>b5 x (a5 x h),λx hx j=>?_,by omega,λx hx=>?_⟩
   ·rw[j4,S1]at hx;rcases iq.mp hx with z|z
    ·exact b3 x j hj (a4 x z j hj h1 h2)
    ·have:x=m:=by simpa using z
     subst this;exact b4 j hj (by rw[a2 j hj];exact h1) h2
   ·rw[b6 x hx j,a6 x (λz=>hx (b5 x z)) j]
   ·rcases b8 x hx with z|z
    ·exact a8 x z
    ·exact .inr (z▸hm m E1))
 subst he;rw[dE,nT]at a4;exact⟨P',cN,ck,bU,l1,a1,a2,a3,a4,a5,a6,a7,a8⟩
def U5{Bk:List (List Nat)}{pass P0:Nat→Nat→Bool}{N K:Nat}(hB:Bk.length=N)(hN:N≤400)(hK:K≤400)(hm:∀n,∀m∈Bk.getD n [],m<N) :
  ∃P,xS [.lst (bu Bk),.lst (a9 P0 N K),.lst (a9 pass N K)]=.un\.lst (a9 P N K)∧SI Bk pass P0 N K P∧∀n,n<N→Cl Bk pass P K n:=by
 have hNK:N*K≤160000:=Nat.mul_le_mul hN hK;obtain⟨e',n',l1,⟨P,ws,o5,o6,o7,he,si,hw,hmu,sC⟩,hc⟩|⟨_,_,_,_,hf⟩:=CB (c:=tI) (b:=B9)
  (λmu e=>∃(P:Nat→Nat→Bool) (ws:List Nat) (o5 o6 o7:Qzq),e=[.al\.lst (bu Bk),.al\.lst (a9 P0 N K),.al\.lst (a9 pass N K),.bo\.lst (a9 P N K),.bo\⇑ws,o5,o6,o7]∧SI Bk pass P0 N K P∧(∀x∈ws,x<N)∧(2*cL P K N+ws.length=mu∧mu≤900000)∧∀n,n<N→n∉ws→Cl Bk pass P K n)
  (λ_ _=>False)
  (λmu e bx=>by
   let⟨P,ws,o5,o6,o7,he,si,hw,hmu,sC⟩:=bx;subst he;have hC:tI [.al\.lst (bu Bk),.al\.lst (a9 P0 N K),.al\.lst (a9 pass N K),.bo\.lst (a9 P N K),.bo\⇑ws,o5,o6,o7]=some (decide ((0:Int)<(ws.length:Int))):=by
    unfold tI;simp! [jB,ae,aK,ag,ai,jV,jC,gz,gy,id_eq,oq,dF,dE,oM,bO]
   rw[hC];rcases List.eq_nil_or_concat ws with rfl|⟨cN,n,rfl⟩
   ·exact .inl rfl
   rw[List.concat_eq_append]at *
   have hnN:n<N:=hw n (by simp);refine .inr ⟨by rw[eC (by rw[fw];simp only[List.length_cons,List.length_nil];omega)],.inl ?_⟩;have hl:(cN++[n]).length=cN.length+1:=by simp
   let⟨P',BX,ck,bU,q,a1,a2,a3,a4,a5,a6,a7,a8⟩:=U4 (pass:=pass) (P0:=P0) (.al\.lst (a9 P0 N K)) hN hnN si (hm n) (ws:=cN) ∅ o6 o7;refine⟨_,2*cL P' K N+BX.length,.inl ?_,⟨P',BX,.fr\↥n,ck,bU,rfl,a1,λx hx=>?_,⟨rfl,by omega⟩,λx hx S2=>?_⟩,by omega⟩
   ·unfold B9;have adR:uU 5 4 [.al\.lst (bu Bk),.al\.lst (a9 P0 N K),.al\.lst (a9 pass N K),.bo\.lst (a9 P N K),.bo\.lst (ak (cN++[n])),o5,o6,o7]=some (.nx [.al\.lst (bu Bk),.al\.lst (a9 P0 N K),.al\.lst (a9 pass N K),.bo\.lst (a9 P N K),.bo\⇑cN,.fr\↥n,o6,o7]):=by
     have e1:(ak (cN++[n]))[(ak (cN++[n])).length-1]?=some (↥n):=by simp[ak]
     have e2:(ak (cN++[n])).dropLast=ak cN:=by simp[ak]
     simp! [uU,ft,own,if_true,gz,gy,oq,e1,e2,tz,tq]
    rw[ax adR];have S3:n<Bk.length:=by omega
    have BU:L2.bz (bu Bk) (n:Int)=some (.lst (ak (Bk.getD n []))):=by
     rw[J.kE (by simpa[bu]using S3)];simp only[bu,List.getElem_map];rw[mB,du S3];rfl
    simp! [aT,bF,ae,jV,gz,gy,id_eq,oq,cR,BU,oy,fT,b9];exact q
   ·rcases a8 x hx with z|z
    ·exact hw x (jn _ z)
    ·exact z
   ·by_cases S4:x=n
    ·subst S4;exactλm qg j hj h1 h2=>a4 m qg j hj (by rw[←a2 j hj];exact h1) h2
    ·have adS:x∉cN++[n]:=λz=>by
      rcases iq.mp z with y|y
      ·exact S2 (a5 x y)
      ·exact S4 (by simpa using y)
     exactλm qg j hj h1 h2=>a3 m j hj (sC x hx adS m qg j hj (by rw[←a6 x S2 j];exact h1) h2))
  (n:=2*cL P0 K N+N) (e:=[.al\.lst (bu Bk),.al\.lst (a9 P0 N K),.al\.lst (a9 pass N K),.bo\.lst (a9 P0 N K),.bo\.lst (ak (List.range N)),none,none,none])
  ⟨P0,List.range N,none,none,none,rfl,⟨λ_ _ _ _ h=>h,λQ h1 _=>h1⟩,(λx h=>iQ.mp h),⟨by rw[vj],by have:=M7 P0 K N;omega⟩,λn h1 h2=>absurd (iQ.mpr h1) h2⟩
 ·subst he;have hz:ws=[]:=by
   unfold tI at hc;simp! [jB,ae,aK,ag,ai,jV,jC,gz,gy,id_eq,oq,dF,dE,oM,bO]at hc;have:=dP hc;rw[decide_eq_false_iff_not]at this;exact List.length_eq_zero_iff.mp ∅
  subst hz;refine⟨P,?_,si,λn hn=>sC n hn (λz=>nomatch z)⟩;have cK:-4611686018427387904≤(N:Int)∧(N:Int)≤16777216:=by omega
  have ht:(N:Int).toNat=N:=by omega
  unfold xS fn J2;simp only[cA,bE,bH];rw[ax (e':=[.al\.lst (bu Bk),.al\.lst (a9 P0 N K),.al\.lst (a9 pass N K),.bo\.lst (a9 P0 N K),none,none,none,none]) (by
   simp! [aw,aK,ag,ai,jV,uH,Z4 (Yj P0 N K),gz,gy,id_eq,oq,kJ,tz,tq])]
  rw[ax (e':=[.al\.lst (bu Bk),.al\.lst (a9 P0 N K),.al\.lst (a9 pass N K),.bo\.lst (a9 P0 N K),.bo\.lst (ak (List.range N)),none,none,none]) (by
   simp! [aw,Av,aK,ag,ai,jV,gz,gy,id_eq,oq,dF,Dg,cK,and_self,if_true,ht,kJ,yg,tz,tq])]
  rw[ax l1];rfl
 ·exact hf.elim
abbrev lift(rs:List Row)(g:Row→Nat→Bool)(n j:Nat):Bool:=match rs[n]? with
 |some r=>g r j
 |none=>false
def ud{rs:List Row}{g:Row→Nat→Bool}{n:Nat}{r:Row}(h:rs[n]?=some r)(j:Nat):lift rs g n j=g r j:=by unfold lift;rw[h]
def Wq(rs:List Row)(g:Row→Nat→Bool)(K:Nat):(rs.map λr=>bI (g r) K)=a9 (lift rs g) rs.length K:=by
 refine z7 (by simp[a9]) λi h1 h2=>?_;simp only[a9,List.getElem_map,List.getElem_range];have hi:i<rs.length:=by simpa using h1
 exact uA λj _=>(ud (by simp) j).symm
def fD(l:List De)(r:Row)(j:Nat):Bool:=true&&!nJ l r j
def gK(l:List De)(r:Row)(j:Nat):Bool:=fD l r j&&(Row.dX r||cM l (sets r) j)
inductive gR (rs:List Row)(j:Nat):Nat→Prop
 |stop {n:Nat}{r:Row}:rs[n]?=some r→gK (kn rs) r j=true→gR rs j n
 |step {n m:Nat}{r:Row}:rs[n]?=some r→fD (kn rs) r j=true→aO rs n m→gR rs j m→gR rs j n
theorem II{α:Type}{fe:Qqj}{m m':M}{fr:Ev}{g f:α→D}:∀rs:List α,(∀r∈rs,fe (some (m,g r)::fr)=some (m',f r))→dM dN fe m fr (rs.map g)=some ((rs.map f).map λy=>(m',y))
 |[],_=>rfl
 |r::rs,h=>by
  have ih:=II (fe:=fe) (m:=m) (m':=m') (fr:=fr) (g:=g) (f:=f) rs λx hx=>h x (cT _ hx);rw[mq,dM,show dN (some (m,g r)::fr)=some true from rfl,oq,if_pos rfl,h r cg,oq,ih,oq];rfl
def TJ{rs:List Row}(g:Good rs)(hl:rs.length≤300):∃P,wN [Row.d∘rs]=.un\.lst (a9 P rs.length (kn rs).length)∧∀n j,n<rs.length→j<(kn rs).length→(P n j=true↔gR rs j n):=by
 have hk:=qW rs;have e1:=Kd (rs:=rs) ∅;have e2:=Wm (rs:=rs) ∅;have e3:=Wn (rs:=rs) ∅;have e4:=Cb (rs:=rs) ∅;let⟨Bk,e5,b1,b2,b3⟩:=Ug g ∅;generalize hK:(kn rs).length=K at e1 e2 e3 hk;let⟨P,e6,si,cl⟩:=U5 (Bk:=Bk) (pass:=lift rs (fD (kn rs))) (P0:=lift rs (gK (kn rs))) (N:=rs.length) (K:=K) b1 ∅ ∅ (λn m hm=>by let⟨r,hr,_⟩:=b3 m n hm;exact(bp.mp hr).1);refine⟨P,?_,λn j hn hj=>⟨λh=>?_,λh=>?_⟩⟩
 ·have ex:=II (fe:=ae gD (jV 1) (de nF (jV 0))) (m:=.fr) (m':=.fr) (fr:=[.fr\bI (λ_=>true) K]) (g:=λr=>bI (nJ (kn rs) r) K) (f:=λr=>bI (fD (kn rs) r) K) rs (λr _=>by
   simp! [ae,de,jV,gz,gy,id_eq,oq];exact M5)
  let⟨e',l1,o5,o6,he⟩:=dh (g:=gT 2 (bR (gN 5) (bR (gN 6) dJ))) (b:=wD) (m:=.al) (ds:=bY (rs.map Row.d)) (e:=[.al\Row.d∘rs,.fr\bI (λ_=>true) K,.bo\.lst (rs.map λr=>bI (fD (kn rs) r) K),.bo\.lst (rs.map λr=>bI (cM (kn rs) (sets r)) K),.bo\.lst [],none,none])
   (λi e=>∃o5 o6,e=[.al\Row.d∘rs,.fr\bI (λ_=>true) K,.bo\.lst (rs.map λr=>bI (fD (kn rs) r) K),.bo\.lst (rs.map λr=>bI (cM (kn rs) (sets r)) K),.bo\.lst ((rs.take i).map λr=>bI (gK (kn rs) r) K),o5,o6]) ⟨none,none,rfl⟩
   (λi d e hd bx=>by
    let⟨o5,o6,he⟩:=bx;subst he;let⟨r,hr,rfl⟩:=Lg hd;have hi:i<rs.length:=(bp.mp hr).1;have s1:((rs.take i).map λr=>bI (gK (kn rs) r) K).length<sizeLine:=by rw[ln,mw];exact eD (show min i rs.length≤300 by omega) (by decide)
    have at1:∀f:Row→D,L2.bz (rs.map f) (i:Int)=some (f r):=λf=>by
     rw[kE (by rw[ln];exact hi),vm,(bp.mp hr).2]
    have hx:(rj (jB (ae aP (ae au (jV 6) (jC (.int 0))) (jC (.str "end")))) (ae au (jV 2) (jV 5)) (ae gD (ae au (jV 2) (jV 5)) (ae au (jV 3) (jV 5)))) [.al\Row.d∘rs,.fr\bI (λ_=>true) K,.bo\.lst (rs.map λr=>bI (fD (kn rs) r) K),.bo\.lst (rs.map λr=>bI (cM (kn rs) (sets r)) K),.bo\.lst ((rs.take i).map λr=>bI (gK (kn rs) r) K),.al\↥i,.al\r.d]=some (.fr,bI (gK (kn rs) r) K):=by
     simp! [rj,jB,ae,jV,jC,gz,gy,id_eq,oq,fB,fT,fV,bO,nH,cR,at1,oy,oH,M4];cases he:Row.dX r with
     |true=>rw[if_pos rfl,uA (p:=fD (kn rs) r) (q:=gK (kn rs) r) λj _=>by unfold gK;rw[he];simp]
     |false=>rw[if_neg bw,uA (p:=λj=>fD (kn rs) r j&&cM (kn rs) (sets r) j) (q:=gK (kn rs) r) λj _=>by unfold gK;rw[he];simp]
    refine⟨_,[.al\Row.d∘rs,.fr\bI (λ_=>true) K,.bo\.lst (rs.map λr=>bI (fD (kn rs) r) K),.bo\.lst (rs.map λr=>bI (cM (kn rs) (sets r)) K),.bo\.lst ((rs.take (i+1)).map λr=>bI (gK (kn rs) r) K),.al\↥i,.al\r.d],rfl,?_,_,_,rfl⟩;show wD [.al\Row.d∘rs,.fr\bI (λ_=>true) K,.bo\.lst (rs.map λr=>bI (fD (kn rs) r) K),.bo\.lst (rs.map λr=>bI (cM (kn rs) (sets r)) K),.bo\.lst ((rs.take i).map λr=>bI (gK (kn rs) r) K),.al\↥i,.al\r.d]=_;unfold wD;simp! [cJ,hx,oq,ig,if_true,ft,own,gz,gy,s1,tz,tq];rw[j4,hr,pP,ly];rfl)
  subst he;have hE:(bY (rs.map Row.d)).length=rs.length:=by simp[bY]
  rw[hE,nT]at l1;unfold wN fn Hm;simp only[cA,bE,bH];rw[ax (e':=[.al\Row.d∘rs,.fr\bI (λ_=>true) K,none,none,none,none,none]) (by
   simp! [aw,aC,ag,ai,jV,gz,gy,id_eq,oq,mq,mn,e1,kH,tz,tq])]
  rw[ax (e':=[.al\Row.d∘rs,.fr\bI (λ_=>true) K,.bo\.lst (rs.map λr=>bI (fD (kn rs) r) K),none,none,none,none]) (by
   simp! [aw,cv,bF,aC,ag,ai,jV,gz,gy,id_eq,oq,mq,mn,e2,b9,oy];rw[show f9 [.al\Row.d∘rs,.fr\bI (λ_=>true) K,none,none,none,none,none] [1]=[.fr\bI (λ_=>true) K] from rfl,ex,oq,iH (by rw[ln];omega),oq];rfl)]
  rw[ax (e':=[.al\Row.d∘rs,.fr\bI (λ_=>true) K,.bo\.lst (rs.map λr=>bI (fD (kn rs) r) K),.bo\.lst (rs.map λr=>bI (cM (kn rs) (sets r)) K),none,none,none]) (by
   simp! [aw,aC,ag,ai,jV,gz,gy,id_eq,oq,mq,mn,e3,kJ,tz,tq])]
  rw[ax (e':=[.al\Row.d∘rs,.fr\bI (λ_=>true) K,.bo\.lst (rs.map λr=>bI (fD (kn rs) r) K),.bo\.lst (rs.map λr=>bI (cM (kn rs) (sets r)) K),.bo\.lst [],none,none]) rfl];rw[ax (e':=[.al\Row.d∘rs,.fr\bI (λ_=>true) K,.bo\.lst (rs.map λr=>bI (fD (kn rs) r) K),.bo\.lst (rs.map λr=>bI (cM (kn rs) (sets r)) K),.bo\.lst (rs.map λr=>bI (gK (kn rs) r) K),o5,o6]) (by
   rw[bT,show aW 0 [.al\Row.d∘rs,.fr\bI (λ_=>true) K,.bo\.lst (rs.map λr=>bI (fD (kn rs) r) K),.bo\.lst (rs.map λr=>bI (cM (kn rs) (sets r)) K),.bo\.lst [],none,none]=[.al\Row.d∘rs,.fr\bI (λ_=>true) K,.bo\.lst (rs.map λr=>bI (fD (kn rs) r) K),.bo\.lst (rs.map λr=>bI (cM (kn rs) (sets r)) K),.bo\.lst [],none,none] from rfl];simp! [aT,gb,ag,jV,ai,gz,gy,oq,id_eq,b9,oy];exact l1)]
  simp! [aF,aC,ag,ai,jV,gz,gy,id_eq,oq,mq,mn,e4,e5,Wq,e6,ui]
 ·refine si.sd (λn j=>gR rs j n) (λn j hn hj h=>?_) (λn m j hn hm hj h hp=>?_) n j hn hj h
  ·have hr:rs[n]?=some (rs[n]'hn):=by simp
   rw[ud hr]at h;exact .stop hr h
  ·have hs:=b3 m n hm;let⟨r,hr,_⟩:=id hs;rw[ud hr]at hp;exact .step hr hp hs h
 ·induction h with
  |@stop n r hr hd=>exact si.up n j hn hj (by rw[ud hr];exact hd)
  |@step n m r hr hp hs _ ih =>
   let⟨_,_,_,hm⟩:=id hs;exact cl m hm n (b2 n m hs) j hj (ih hm) (by rw[ud hr];exact hp)
abbrev pK(q:Int×Int):List Key:=[.inl q.1,.inl q.2]
def DB(q:Int×Int):lg (cV q)=some (pK q):=rfl
def eO(l:List (Int×Int))(f:Int→D):List (List Key×D):=l.foldl (λd q=>putD d (pK q) (f q.2)) []
def Kg(l:List (Int×Int))(q:Int×Int)(f:Int→D):eO (l++[q]) f=putD (eO l f) (pK q) (f q.2):=by
 unfold eO;rw[List.foldl_append];rfl
theorem LQ(f:Int→D)(l:List (Int×Int)):∀i,(eO (l.take i) f).length≤i
 |0=>by simp[eO]
 |i+1=>by
  have ih:=LQ f l i;cases h:l[i]? with
  |none=>rw[j4,h];simp;omega
  |some q =>
   rw[j4,h,pP,Kg];have:=J9 (eO (l.take i) f) (pK q) (f q.2);omega
abbrev He:List Key→Int
 |[_,.inl m]=>m
 |_=>0
def Yl{f:Int→D}(l:List (Int×Int)):∀kv∈eO l f,kv.2=f (He kv.1):=by
 have go:∀(l:List (Int×Int)) (acc:List (List Key×D)),(∀kv∈acc,kv.2=f (He kv.1))→∀kv∈l.foldl (λd q=>putD d (pK q) (f q.2)) acc,kv.2=f (He kv.1):=by
  intro l
  induction l with
  |nil=>intro acc h;exact h
  |cons q l ih =>
   intro acc h;rw[List.foldl_cons];refine ih _ λkv fj=>?_;rcases Ka fj with⟨z,_⟩|rfl
   ·exact h kv z
   ·rfl
 exact go l [] (λkv h=>nomatch h)
def M9{rs:List Row}(g:Good rs){k:Nat}{q:Int×Int}(h:q∈aR rs k):0≤q.2∧q.2<rs.length:=by
 have:=g.pos;unfold aR at h;rcases dQ.mp h with rfl|h
 ·simp;omega
 ·let⟨n,_,hm⟩:=List.mem_flatMap.mp h;let⟨m,lN,rfl⟩:=bQ.mp hm;exact Cw g lN
def oI{l:List (Int×Int)}{i:Nat}{d:D}(h:(aZ l)[i]?=some d):∃q,l[i]?=some q∧d=cV q:=by
 unfold aZ at h;rw[cF]at h;cases e:l[i]? with
 |none=>rw[e]at h;cases h
 |some r=>rw[e]at h;cases h;exact⟨r,rfl,rfl⟩
def p1(m n:M)(q:Int×Int):au (m,cV q) (n,.int 1)=some (aY m,.int q.2):=rfl
def Ym{P:Nat→Nat→Bool}{N K:Nat}{m:Int}(h0:0≤m)(h1:m<N):L2.bz (a9 P N K) m=some (bI (P m.toNat) K):=by
 have:=yD (P:=P) (N:=N) (K:=K) (m:=m.toNat) ∅;rw[z8 h0]at this;exact this
def U6{rs:List Row}(g:Good rs)(hl:rs.length≤300):∃P:Nat→Nat→Bool,tU [Row.d∘rs]=.un\.dt (eO (aR rs rs.length) λm=>bI (λj=>true&&!P m.toNat j) (kn rs).length)∧∀n j,n<rs.length→j<(kn rs).length→(P n j=true↔gR rs j n):=by
 have hk:=qW rs;have e1:=Kd (rs:=rs) ∅;let⟨P,e2,hP⟩:=TJ g hl;have e3:=U1 (rs:=rs) ∅;refine⟨P,?_,hP⟩;have pU:=ub rs rs.length;let⟨e',l1,o4,he⟩:=dh (g:=gN 4) (b:=xC) (m:=.fr) (ds:=aZ (aR rs rs.length)) (e:=[.al\Row.d∘rs,.fr\bI (λ_=>true) (kn rs).length,.bo\.lst (a9 P rs.length (kn rs).length),.bo\.dt [],none])
  (λi e=>∃o4,e=[.al\Row.d∘rs,.fr\bI (λ_=>true) (kn rs).length,.bo\.lst (a9 P rs.length (kn rs).length),.bo\.dt (eO ((aR rs rs.length).take i) λm=>bI (λj=>true&&!P m.toNat j) (kn rs).length),o4]) ⟨none,rfl⟩
  (λi d e hd bx=>by
   let⟨o4,he⟩:=bx;subst he;let⟨q,hq,rfl⟩:=oI hd;have hi:i<(aR rs rs.length).length:=(bp.mp hq).1;let⟨q0,q1⟩:=M9 g (dH hq);have G0:=LQ (λm=>bI (λj=>true&&!P m.toNat j) (kn rs).length) (aR rs rs.length) i;have s1:(eO ((aR rs rs.length).take i) λm=>bI (λj=>true&&!P m.toNat j) (kn rs).length).length<sizeLine:=eD (show _≤700 by omega) (by decide);refine⟨_,[.al\Row.d∘rs,.fr\bI (λ_=>true) (kn rs).length,.bo\.lst (a9 P rs.length (kn rs).length),.bo\.dt (eO ((aR rs rs.length).take (i+1)) λm=>bI (λj=>true&&!P m.toNat j) (kn rs).length),.fr\cV q],rfl,?_,_,rfl⟩;show xC [.al\Row.d∘rs,.fr\bI (λ_=>true) (kn rs).length,.bo\.lst (a9 P rs.length (kn rs).length),.bo\.dt (eO ((aR rs rs.length).take i) λm=>bI (λj=>true&&!P m.toNat j) (kn rs).length),.fr\cV q]=_;have hx:(ae gD (jV 1) (de nF (ae au (jV 2) (ae au (jV 4) (jC (.int 1)))))) [.al\Row.d∘rs,.fr\bI (λ_=>true) (kn rs).length,.bo\.lst (a9 P rs.length (kn rs).length),.bo\.dt (eO ((aR rs rs.length).take i) λm=>bI (λj=>true&&!P m.toNat j) (kn rs).length),.fr\cV q]=some (.fr,bI (λj=>true&&!P q.2.toNat j) (kn rs).length):=by
    simp! [ae,de,jV,jC,gz,gy,id_eq,oq,p1,cR,Ym q0 q1,oy,oH];exact M5
   unfold xC;simp! [m9,hx,jV,gz,gy,id_eq,oq,DB,ig,if_true,nG,own,s1,tz,tq];rw[j4,hq,pP,Kg])
 subst he;rw[C4,nT]at l1;unfold tU fn J3;simp only[cA,bE,bH];rw[ax (e':=[.al\Row.d∘rs,.fr\bI (λ_=>true) (kn rs).length,none,none,none]) (by
  simp! [aw,aC,ag,ai,jV,gz,gy,id_eq,oq,mq,mn,e1,kH,tz,tq])]
 rw[ax (e':=[.al\Row.d∘rs,.fr\bI (λ_=>true) (kn rs).length,.bo\.lst (a9 P rs.length (kn rs).length),none,none]) (by
  simp! [aw,aC,ag,ai,jV,gz,gy,id_eq,oq,mq,mn,e2,kJ,tz,tq])]
 rw[ax (e':=[.al\Row.d∘rs,.fr\bI (λ_=>true) (kn rs).length,.bo\.lst (a9 P rs.length (kn rs).length),.bo\.dt [],none]) rfl];rw[ax (e':=[.al\Row.d∘rs,.fr\bI (λ_=>true) (kn rs).length,.bo\.lst (a9 P rs.length (kn rs).length),.bo\.dt (eO (aR rs rs.length) λm=>bI (λj=>true&&!P m.toNat j) (kn rs).length),o4]) (by
  simp! [aT,bF,aC,ag,ai,jV,gz,gy,id_eq,oq,mq,mn,e3,b9,oy];exact l1)]
 rfl
def aaV(a b:Ko):PyData.eqv (toPy (kD a)) (toPy (kD b))=decide (a=b):=by
 cases a<;>cases b<;>simp[kD,toPy,PyData.eqv]<;>(rw[mv];simp)
def yE(p q:De):PyData.eqv (toPy (ao p)) (toPy (ao q))=decide (p=q):=by
 let⟨s,a,b⟩:=p;let⟨s',a',b'⟩:=q;simp only[ao,toPy,cX,PyData.eqv,PyData.eqvAll,aaV];by_cases h1:s=s'<;>by_cases h2:a=a'<;>by_cases h3:b=b'<;>simp[h1,h2,h3]
def tW(q:De):J.plain (ao q)=true:=by
 have k:∀a:Ko,J.plain (kD a)=true:=λa=>by cases a<;>simp[kD,J.plain]
 simp[ao,J.plain,J.fF,k]
def xW(q:De):(toPy (ao q)).depth≤10:=by
 have k:∀a:Ko,(toPy (kD a)).depth=0:=λa=>by cases a<;>simp[kD,toPy,PyData.depth]
 simp[ao,toPy,cX,PyData.depth,PyData.depthAll,k]
theorem xH:∀ds:Qzz,cX ds=ds.map toPy
 |[]=>rfl
 |d::ds=>by rw[cX,xH ds];rfl
def D0(m:M)(x s:Str)(a b:Ko):iV (m,Row.d (.rk x s a b)) (some 2) none=some (aY m,ao (s,a,b)):=rfl
def Dx(r:Row)(q:De):qv [r.d,ao q]=some (.fr,.bl (decide (dn r=some q))):=by
 unfold qv fn Jm;symm;simp! [fB,oq,fT,fV,bO,EZ];cases r with
 |rk x s a b =>
  have ok:jS (ao (s,a,b)) (ao q)=true:=by
   have h1:=xW q;have h2:=xW (s,a,b);have hl:oN (ao (s,a,b)) (ao q)=true:=rfl;simp only[jS,tW,hl,Bool.and_self,Bool.true_and];exact eC ∅
  simp! [dn,Option.isSome_some,if_true,D0,fT,oq,gF,ok,yE,uh,Option.some.injEq]
 |_=>simp[dn,out]
def Nb{m n:M}{i:Int}:kY (m,.int i) (n,.non)=some (.fr,.bl true):=rfl
def Nc{m n:M}:kY (m,.non) (n,.non)=some (.fr,.bl false):=rfl
abbrev pD:Option Nat→D
 |none=>.non
 |some p=>↥p
abbrev bt(ks:List (Nat×Option Nat)):List (Key×D):=ks.map λq=>(.inl (q.1:Int),pD q.2)
abbrev bB(ks:List (Nat×Option Nat)):List Nat:=ks.map (·.1)
def kx{ks:List (Nat×Option Nat)}(h:(bB ks).Nodup){i j n:Nat}{p q:Option Nat}(hi:ks[i]?=some (n,p))(hj:ks[j]?=some (n,q)):i=j:=by
 have e1:(bB ks)[i]?=some n:=by simp[bB,hi]
 have e2:(bB ks)[j]?=some n:=by simp[bB,hj]
 exact(List.getElem?_inj (bp.mp e1).1 h).mp (e1.trans e2.symm)
def DC{ks:List (Nat×Option Nat)}{n:Nat}:(∃kv∈bt ks,kv.1=.inl (n:Int))↔n∈bB ks:=by
 constructor
 ·rintro⟨kv,hk,e⟩;let⟨q,hq,rfl⟩:=bQ.mp hk;exact bQ.mpr ⟨q,hq,Int.ofNat_inj.mp (Key.inl.inj e)⟩
 ·intro h;let⟨q,hq,rfl⟩:=bQ.mp h;exact⟨_,bQ.mpr ⟨q,hq,rfl⟩,rfl⟩
def Oc{ks:List (Nat×Option Nat)}{n:Nat}:(cS (bt ks) (.inl (n:Int))).isSome=decide (n∈bB ks):=by
 rw[mv,Ic,DC,decide_eq_true_iff]
def Yn{ks:List (Nat×Option Nat)}{i n:Nat}{p:Option Nat}(hn:(bB ks).Nodup)(h:ks[i]?=some (n,p)):cS (bt ks) (.inl (n:Int))=some (pD p):=by
 refine xI (λkv hk e=>?_) (DC.mpr (bQ.mpr ⟨_,dH h,rfl⟩));let⟨⟨q1,q2⟩,hq,rfl⟩:=bQ.mp hk;let⟨j,hj⟩:=List.mem_iff_getElem?.mp hq;obtain rfl:q1=n:=Int.ofNat_inj.mp (Key.inl.inj e);obtain rfl:=kx hn hj h;rw[hj]at h;cases h;rfl
def aaW{ks:List (Nat×Option Nat)}{n:Nat}{p:Nat}(h:n∉bB ks):putD (bt ks) (.inl (n:Int)) (↥p)=bt (ks++[(n,some p)]):=by
 rw[xV λkv hk e=>h (DC.mp ⟨kv,hk,e⟩)];simp only[bt,List.map_append,mq,mn,pD]
structure TI (N:Nat)(R:Nat→Nat→Prop)(st:Nat)(ks:List (Nat×Option Nat)):Prop where
 hd:ks[0]?=some (st,none)
 nd:(bB ks).Nodup
 lt:∀x∈bB ks,x<N
 par:∀(i:Nat) n p,ks[i]?=some (n,p)→(p=none∧n=st)∨∃q j p',p=some q∧j<i∧ks[j]?=some (q,p')∧R q n
section
variable {N:Nat}{R:Nat→Nat→Prop}{st:Nat}
def TI.one(h:st<N):TI N R st [(st,none)]:=by
 refine⟨rfl,by simp[bB],λx hx=>?_,λi n p hi=>?_⟩
 ·have:x=st:=by simpa[bB]using hx
  omega
 ·cases i with
  |zero=>simp at hi;exact .inl ⟨hi.2.symm,hi.1.symm⟩
  |succ i=>simp at hi
def kO(a b:List (Nat×Option Nat)):bB (a++b)=bB a++bB b:=by simp[bB]
def TI.add{n m:Nat}{ks:List (Nat×Option Nat)}(h:TI N R st ks)(hn:n∈bB ks)(hs:R n m)(hN:m<N)(hm:m∉bB ks):TI N R st (ks++[(m,some n)]):=by
 have mh:0<ks.length:=(bp.mp h.hd).1;refine⟨?_,?_,λx hx=>?_,λi n' p hi=>?_⟩
 ·rw[pL mh];exact h.hd
 ·rw[kO,rP];refine⟨h.nd,by simp[bB],λa ha b hb=>?_⟩;have:b=m:=by simpa[bB]using hb
  subst this;exactλe=>hm (e▸ha)
 ·rw[kO]at hx;rcases iq.mp hx with z|z
  ·exact h.lt x z
  ·have:x=m:=by simpa[bB]using z
   omega
 ·rw[List.getElem?_append]at hi;split at hi
  ·rcases h.par i n' p hi with z|⟨q,j,p',h1,h2,h3,h4⟩
   ·exact .inl z
   ·exact .inr ⟨q,j,p',h1,h2,by rw[pL (bp.mp h3).1];exact h3,h4⟩
  ·have Gx:i-ks.length=0:=by
    rcases Nat.eq_zero_or_pos (i-ks.length)with z|z
    ·exact z
    ·rw[pO (by simp;omega)]at hi;cases hi
   rw[Gx]at hi;simp at hi;let⟨rfl,rfl⟩:=hi;let⟨⟨q1,q2⟩,hq,wA⟩:=bQ.mp hn;let⟨j,hj⟩:=List.mem_iff_getElem?.mp hq;simp at wA;subst wA;have hjl:=(bp.mp hj).1;exact .inr ⟨q1,j,q2,rfl,by omega,by rw[pL hjl];exact hj,hs⟩
def TI.len{ks:List (Nat×Option Nat)}(h:TI N R st ks):ks.length≤N:=by
 have:=oA N (bB ks) h.nd h.lt;simpa[bB]using this
def Yo(l:List Nat):(ak l).reverse=ak l.reverse:=by simp[ak,List.map_reverse]
abbrev qh(R:Nat→Nat→Prop):List Nat→Prop
 |[]=>True
 |[_]=>True
 |a::b::t=>R a b∧qh R (b::t)
def Bh(ks:List (Nat×Option Nat))(j:Nat)(l:List Nat):Prop:=l.Nodup∧∀y∈l,∃i p,j<i∧ks[i]?=some (y,p)
def Bh.cons{ks:List (Nat×Option Nat)}(hn:(bB ks).Nodup){j x:Nat}{p:Option Nat}{l:List Nat}(h:Bh ks j l)(hj:ks[j]?=some (x,p)):(x::l).Nodup∧∀j',j'<j→Bh ks j' (x::l):=by
 have nd:(x::l).Nodup:=jZ.mpr ⟨λhx=>by
  let⟨i,q,hi,e⟩:=h.2 x hx;exact absurd (kx hn hj e) ∅,h.1⟩
 refine⟨nd,λj' sk=>⟨nd,λy hy=>?_⟩⟩;rcases dQ.mp hy with rfl|hy
 ·exact⟨j,p,sk,hj⟩
 ·let⟨i,q,hi,e⟩:=h.2 y hy;exact⟨i,q,by omega,e⟩
def TK{ks:List (Nat×Option Nat)}(h:TI N R st ks)(hl:N≤900){i n:Nat}{p:Option Nat}(hi:ks[i]?=some (n,p)) :
  ∃l:List Nat,xB [.dk (bt ks),↥n]=.un\⇑l∧qh R l∧l.head?=some st∧l.getLast?=some n∧l.Nodup:=by
 have hks:=h.len;have QB:i<ks.length:=(bp.mp hi).1;have wh:=CB (c:=sY) (b:=B4) (e:=[.al\.dk (bt ks),.al\↥n,.bo\.lst []]) (n:=i+2)
  (λk e=>∃(l:List Nat) (o:D),e=[.al\.dk (bt ks),.al\o,.bo\.lst (ak l.reverse)]∧k+l.length=i+2∧qh R l∧(l=[]∨l.getLast?=some n)∧l.Nodup ∧
   ((∃j x p',o=.int ((x:Nat):Int)∧ks[j]?=some (x,p')∧l.length+j≤i∧Bh ks j l∧((l=[]∧x=n)∨∃y t,l=y::t∧R x y))∨(o=.non∧l.head?=some st)))
  (λ_ _=>False)
  (λk e ⟨l,o,he,hk,hp,D1,iz,iw⟩=>by
   subst he;rcases iw with⟨j,x,p',rfl,hj,hlen,hb,hx⟩|⟨rfl,h1⟩
   ·refine .inr ⟨?_,.inl ?_⟩
    ·unfold sY;symm;rw[Nb];symm
    ·have hv:=Yn h.nd hj;have hlx:l.length<sizeLine:=eD (show l.length≤900 by omega) (by decide);let⟨b1,b2⟩:=hb.cons h.nd hj;refine⟨[.al\.dk (bt ks),.al\pD p',.bo\.lst (ak (x::l).reverse)],k-1,.inl ?_,⟨x::l,pD p',rfl,by simp only[List.length_cons];omega,?_,.inr ?_,b1,?_⟩,by omega⟩
     ·unfold B4;symm;rw[if_pos (by rw[dE,List.length_reverse];exact hlx)];symm;simp! [oO,jV,jU,keyOf,gz,gy,id_eq,oq,hv,fT,KR,xT,List.reverse_cons,tz,tq]
     ·rcases hx with⟨rfl,_⟩|⟨y,t,rfl,hs⟩
      ·trivial
      ·exact⟨hs,hp⟩
     ·rcases hx with⟨rfl,rfl⟩|⟨y,t,rfl,hs⟩
      ·rfl
      ·rcases D1 with z|z
       ·cases z
       ·rw[List.getLast?_cons_cons];exact z
     ·rcases h.par j x p' hj with⟨rfl,rfl⟩|⟨q,j',p2,rfl,sk,hq,hs⟩
      ·exact .inr ⟨rfl,rfl⟩
      ·exact .inl ⟨j',q,p2,rfl,hq,by simp only[List.length_cons];omega,b2 j' sk,.inr ⟨x,l,rfl,hs⟩⟩
   ·refine .inl ?_;unfold sY;symm;rw[Nc];symm)
  ⟨[],_,rfl,by simp,trivial,.inl rfl,rL,.inl ⟨i,n,p,rfl,hi,by simp,⟨rL,λy hy=>nomatch hy⟩,.inl ⟨rfl,rfl⟩⟩⟩
 rcases wh with⟨e',n',l1,⟨l,o,he,_,hp,D1,iz,iw⟩,hc⟩|⟨_,_,_,_,z⟩
 ·subst he;rcases iw with⟨j,x,p',rfl,hj,hlen,_,hx⟩|⟨rfl,h1⟩
  ·unfold sY at hc;simp! [jB,ae,jV,jC,gz,gy,id_eq,oq,Nb,bO]at hc;cases hc
  ·refine⟨l,?_,hp,h1,?_,iz⟩
   ·unfold xB fn Iu;simp only[cA,bE,bH];rw[ax (e':=[.al\.dk (bt ks),.al\↥n,.bo\.lst []]) (by symm),ax l1];simp! [aq,zo,aF,jV,ft,own,gz,gy,tz,tq,if_true,oq,id_eq,Yo,List.reverse_reverse,yn]
   ·rcases D1 with rfl|z
    ·cases h1
    ·exact z
 ·exact z.elim
end
def RS(S:List (List Nat))(bs:List Bool)(n m:Nat):Prop:=m∈S.getD n []∧bs.getD m false=false
def aaX{S:List (List Nat)}{n:Nat}(h:n<S.length):L2.bz (bu S) (n:Int)=some (.lst (ak (S.getD n []))):=by
 rw[J.kE (by simpa[bu]using h)];simp[bu,h]
def Dh{gs:List Bool}{n:Nat}(h:n<gs.length):L2.bz (gs.map D.bl) (n:Int)=some (.bl (gs.getD n false)):=by
 rw[J.kE (by simpa using h),vm,mB,du h];rfl
theorem DF:∀ks:List (Nat×Option Nat),D.cI ((bt ks).map (·.2))=true
  |[]=>by simp only[bt,mn,D.cI]
  | (a,p)::ks=>by
    show D.cI (pD p::(bt ks).map (·.2))=true;rw[VH,DF ks];cases p<;>simp[pD,D.cq]
def Found(R:Nat→Nat→Prop)(st:Nat)(gs:List Bool)(l:List Nat):Prop:=qh R l∧l.head?=some st∧(∃x,l.getLast?=some x∧gs.getD x false=true)∧l.Nodup
section
variable {N:Nat}{S:List (List Nat)}{bs:List Bool}{st:Nat}
theorem CD(hN:N≤800)(hb:bs.length=N){n:Nat}{S' L:D}:∀(ms:List Nat) {ks:List (Nat×Option Nat)}{fs:List Nat}{o:Qzq},(∀m∈ms,m∈S.getD n []∧m<N)→TI N (RS S bs) st ks→n∈bB ks→fs.length≤ks.length →
  ∃new o',forL (gN 6) qj .al (ak ms) [.al\S',.al\L,.al\.bl∘bs,.bi\.dk (bt ks),.bo\⇑fs,.al\↥n,o]=some (.nx [.al\S',.al\L,.al\.bl∘bs,.bi\.dk (bt (ks++new)),.bo\.lst (ak (fs++bB new)),.al\↥n,o'])∧TI N (RS S bs) st (ks++new)∧∀m∈ms,bs.getD m false=false→m∈bB (ks++new)
 |[],ks,fs,o,_,h,_,_=>⟨[],o,by simp[ak,forL,bB],by simpa using h,λm hm=>nomatch hm⟩
 |m::ms,ks,fs,o,hs,h,hn,hf=>by
  have BW:=h.len;let⟨vJ,kj⟩:=hs m cg;have hg:=Dh (gs:=bs) (n:=m) ∅;have mN:∀x∈ms,x∈S.getD n []∧x<N:=λx hx=>hs x (cT _ hx);by_cases hm:m∉bB ks∧bs.getD m false=false
  ·let⟨new,o',q1,q2,q3⟩:=CD hN hb (n:=n) (S':=S') (L:=L) ms (ks:=ks++[(m,some n)]) (fs:=fs++[m]) (o:=.al\↥m) mN (h.add hn ⟨vJ,hm.2⟩ kj hm.1) (by rw[kO];exact jn _ hn) (by simp;omega);have s1:ks.length<sizeLine:=eD (show ks.length≤800 by omega) (by decide);have s2:fs.length<sizeLine:=eD (show fs.length≤800 by omega) (by decide);have sC:(bt ks).length=ks.length:=by simp[bt]
   refine⟨(m,some n)::new,o',?_,by rw[List.append_assoc]at q2;exact q2,λx hx BZ=>?_⟩
   ·rw[show ak (m::ms)=↥m::ak ms from rfl,forL];have hb:qj [.al\S',.al\L,.al\.bl∘bs,.bi\.dk (bt ks),.bo\⇑fs,.al\↥n,.al\↥m]=some (.nx [.al\S',.al\L,.al\.bl∘bs,.bi\.dk (bt (ks++[(m,some n)])),.bo\.lst (ak (fs++[m])),.al\↥n,.al\↥m]):=by
     unfold qj;simp! [aM,dm,eY,jB,ae,fX,jV,jU,keyOf,gz,gy,id_eq,oq,Oc,hm.1,hm.2,decide_false,Bool.not_false,if_true,bO,cR,hg,oy,fT,aq,k5,uj,pf,mj,own,sC,s1,aaW hm.1,tz,tq,cJ,ft,dE,s2,xT]
    rw[show gN 6 (M.al,↥m) [.al\S',.al\L,.al\.bl∘bs,.bi\.dk (bt ks),.bo\⇑fs,.al\↥n,o]=some [.al\S',.al\L,.al\.bl∘bs,.bi\.dk (bt ks),.bo\⇑fs,.al\↥n,.al\↥m] from rfl,oq,hb,oq];simp only[List.append_assoc,List.singleton_append]at q1;exact q1
   ·rcases dQ.mp hx with rfl|hx
    ·simp[bB]
    ·have:=q3 x hx BZ;simpa[bB,List.append_assoc]using this
  ·let⟨new,o',q1,q2,q3⟩:=CD hN hb (n:=n) (S':=S') (L:=L) ms (ks:=ks) (fs:=fs) (o:=.al\↥m) mN h hn hf;refine⟨new,o',?_,q2,λx hx BZ=>?_⟩
   ·rw[show ak (m::ms)=↥m::ak ms from rfl,forL];have hb:qj [.al\S',.al\L,.al\.bl∘bs,.bi\.dk (bt ks),.bo\⇑fs,.al\↥n,.al\↥m]=some (.nx [.al\S',.al\L,.al\.bl∘bs,.bi\.dk (bt ks),.bo\⇑fs,.al\↥n,.al\↥m]):=by
     unfold qj;refine bL ?_;simp! [dm,eY,jB,ae,fX,jV,jU,keyOf,gz,gy,id_eq,oq,Oc,if_true,bO,cR,hg,oy];by_cases hk:m∈bB ks
     ·rw[eC hk];rfl
     ·have:bs.getD m false=true:=by simpa[hk]using hm
      rw[fI hk,this];rfl
    rw[show gN 6 (M.al,↥m) [.al\S',.al\L,.al\.bl∘bs,.bi\.dk (bt ks),.bo\⇑fs,.al\↥n,o]=some [.al\S',.al\L,.al\.bl∘bs,.bi\.dk (bt ks),.bo\⇑fs,.al\↥n,.al\↥m] from rfl,oq,hb,oq];exact q1
   ·rcases dQ.mp hx with rfl|hx
    ·rw[kO];refine jn _ (Decidable.byContradiction λz=>hm ⟨z,BZ⟩)
    ·exact q3 x hx BZ
theorem Kh(hN:N≤800)(hS:S.length=N)(hm:∀n,∀m∈S.getD n [],m<N)(hb:bs.length=N){L:D}:∀(ls:List Nat) {ks:List (Nat×Option Nat)}{fs:List Nat}{o5 o6:Qzq},TI N (RS S bs) st ks→(∀n∈ls,n∈bB ks)→fs.length≤ks.length →
  ∃new dA ck,forL (gN 5) wW .al (ak ls) [.al\.lst (bu S),.al\L,.al\.bl∘bs,.bi\.dk (bt ks),.bo\⇑fs,o5,o6]=some (.nx [.al\.lst (bu S),.al\L,.al\.bl∘bs,.bi\.dk (bt (ks++new)),.bo\.lst (ak (fs++bB new)),dA,ck])∧TI N (RS S bs) st (ks++new)∧∀n∈ls,∀m,RS S bs n m→m∈bB (ks++new)
 |[],ks,fs,o5,o6,h,_,_=>⟨[],o5,o6,by simp[ak,forL,bB],by simpa using h,λm hm=>nomatch hm⟩
 |n::ls,ks,fs,o5,o6,h,hn,hf=>by
  have wB:=hn n cg;have wy:=h.lt n wB;let⟨new,o',q1,q2,q3⟩:=CD hN hb (n:=n) (S':=.lst (bu S)) (L:=L) (S.getD n []) (ks:=ks) (fs:=fs) (o:=o6) (λm lN=>⟨lN,hm n m lN⟩) h wB hf;let⟨adT,dA,ck,p1,p2,p3⟩:=Kh hN hS hm hb (L:=L) ls (ks:=ks++new) (fs:=fs++bB new) (o5:=.al\↥n) (o6:=o') q2 (λx hx=>by
   rw[kO];exact jn _ (hn x (cT _ hx))) (by simp[bB];omega)
  refine⟨new++adT,dA,ck,?_,by rw[←List.append_assoc];exact p2,λx hx m lN=>?_⟩
  ·rw[show ak (n::ls)=↥n::ak ls from rfl,forL];have hB:wW [.al\.lst (bu S),.al\L,.al\.bl∘bs,.bi\.dk (bt ks),.bo\⇑fs,.al\↥n,o6]=some (.nx [.al\.lst (bu S),.al\L,.al\.bl∘bs,.bi\.dk (bt (ks++new)),.bo\.lst (ak (fs++bB new)),.al\↥n,o']):=by
    unfold wW;simp! [aT,bF,ae,jV,gz,gy,id_eq,oq,cR,aaX (S:=S) (n:=n) ∅,oy,fT,b9];exact q1
   rw[show gN 5 (M.al,↥n) [.al\.lst (bu S),.al\L,.al\.bl∘bs,.bi\.dk (bt ks),.bo\⇑fs,o5,o6]=some [.al\.lst (bu S),.al\L,.al\.bl∘bs,.bi\.dk (bt ks),.bo\⇑fs,.al\↥n,o6] from rfl,oq,hB,oq];rw[kO,←List.append_assoc,←List.append_assoc];exact p1
  ·rw[←List.append_assoc];rcases dQ.mp hx with rfl|hx
   ·rw[kO];exact jn _ (q3 m lN.1 lN.2)
   ·exact p3 x hx m lN
def Yp(hN:N≤800)(hS:S.length=N)(hm:∀n,∀m∈S.getD n [],m<N)(hb:bs.length=N){ls:List Nat}{ks:List (Nat×Option Nat)}(h:TI N (RS S bs) st ks)(hn:∀n∈ls,n∈bB ks) :
  ∃new,xk [.lst (bu S),⇑ls,.bl∘bs,.dk (bt ks)]=.un\(.lst (ak (bB new)),[.dk (bt (ks++new))])∧TI N (RS S bs) st (ks++new)∧∀n∈ls,∀m,RS S bs n m→m∈bB (ks++new):=by
 let⟨new,o5,o6,q1,q2,q3⟩:=Kh hN hS hm hb (L:=⇑ls) ls (fs:=[]) (o5:=none) (o6:=none) h hn (by simp);refine⟨new,?_,q2,q3⟩;unfold xk rB HF;rw[show(i3 [3] [D.lst (bu S),⇑ls,.bl∘bs,.dk (bt ks)]++List.replicate (7 - [D.lst (bu S),⇑ls,.bl∘bs,.dk (bt ks)].length) none:Ev)=[.al\.lst (bu S),.al\⇑ls,.al\.bl∘bs,.bi\.dk (bt ks),none,none,none] from rfl];rw[ax (e':=[.al\.lst (bu S),.al\⇑ls,.al\.bl∘bs,.bi\.dk (bt ks),.bo\.lst [],none,none]) (by ac_rfl)];rw[ax (e':=[.al\.lst (bu S),.al\⇑ls,.al\.bl∘bs,.bi\.dk (bt (ks++new)),.bo\.lst (ak (bB new)),o5,o6]) (by
  rw[bT,show aW 1 [.al\.lst (bu S),.al\⇑ls,.al\.bl∘bs,.bi\.dk (bt ks),.bo\.lst [],none,none]=[.al\.lst (bu S),.al\⇑ls,.al\.bl∘bs,.bi\.dk (bt ks),.bo\.lst [],none,none] from rfl];simp! [aT,bF,jV,gz,gy,id_eq,oq,b9,oy];exact q1)]
 simp! [aF,jV,gz,gy,id_eq,oq,NR,out,envOf,J.collect,gd,DF,if_true]
end
section
variable {N:Nat}{S:List (List Nat)}{bs gs:List Bool}{st:Nat}
theorem Ju(hN:N≤800){R:Nat→Nat→Prop}(hg:gs.length=N){ks:List (Nat×Option Nat)}(h:TI N R st ks){a0 a1 a3 a5:Qzq}:∀(ls:List Nat) {o6:Qzq},(∀n∈ls,n∈bB ks) →
  ((∀n∈ls,gs.getD n false=false)∧∃o,forL (gN 6) sJ .fr (ak ls) [a0,a1,.al\.bl∘gs,a3,.bo\.dk (bt ks),a5,o6]=some (.nx [a0,a1,.al\.bl∘gs,a3,.bo\.dk (bt ks),a5,o])) ∨
  ∃e' l,forL (gN 6) sJ .fr (ak ls) [a0,a1,.al\.bl∘gs,a3,.bo\.dk (bt ks),a5,o6]=some (.rt e' .un (⇑l))∧Found R st gs l
 |[],o6,_=>.inl ⟨(λn hn=>nomatch hn),o6,rfl⟩
 |n::ls,o6,hn=>by
  have wB:=hn n cg;have wy:=h.lt n wB;let⟨⟨q1,q2⟩,hq,wA⟩:=bQ.mp wB;let⟨j,hj⟩:=List.mem_iff_getElem?.mp hq;simp at wA;subst wA;let⟨l,w1,w2,w3,w4,w5⟩:=TK h ∅ hj;have e1:gN 6 (M.fr,↥q1) [a0,a1,.al\.bl∘gs,a3,.bo\.dk (bt ks),a5,o6]=some [a0,a1,.al\.bl∘gs,a3,.bo\.dk (bt ks),a5,.fr\↥q1]:=rfl;rw[show ak (q1::ls)=↥q1::ak ls from rfl,forL,e1,oq];have ea:=Dh (gs:=gs) (n:=q1) ∅;have hc:(jB (ae au (jV 2) (jV 6))) [a0,a1,.al\.bl∘gs,a3,.bo\.dk (bt ks),a5,.fr\↥q1]=some (gs.getD q1 false):=by
   ac_rfl
  cases hb:gs.getD q1 false with
  |true =>
   refine .inr ⟨[a0,a1,.al\.bl∘gs,a3,.bo\.dk (bt ks),a5,.fr\↥q1],l,?_,w2,w3,⟨q1,w4,hb⟩,w5⟩;rw[show sJ _=_ from bK (hc.trans (dD some hb))]
   ac_rfl
  |false =>
   rw[show sJ _=_ from bL (hc.trans (dD some hb)),show ∀{E:Ev},aS E=some (.nx E)from rfl,oq];rcases Ju hN hg h (a0:=a0) (a1:=a1) (a3:=a3) (a5:=a5) ls (o6:=.fr\↥q1) (λx hx=>hn x (cT _ hx)) with⟨i1,o,i2⟩|⟨e',l,i1,i2⟩
   ·refine .inl ⟨λx hx=>?_,o,i2⟩;rcases dQ.mp hx with rfl|hx
    ·exact hb
    ·exact i1 x hx
   ·exact .inr ⟨e',l,i1,i2⟩
def Wr{S L B:D}{ks:List (Nat×Option Nat)}:jz [3] [4] [(0,0),(1,5),(2,3),(3,4)] [(.al,S),(.fr,L),(.al,B),(.bo,.dk (bt ks))]=true:=by
 simp[jz,List.range_succ,own,gd,hU,DF]
def S5(R:Nat→Nat→Prop)(st:Nat)(gs:List Bool):Prop:=∃C:Nat→Prop,C st∧(∀n m,C n→R n m→C m)∧∀n,C n→gs.getD n false=false
def Ws(hN:N≤800)(hS:S.length=N)(hm:∀n,∀m∈S.getD n [],m<N)(hb:bs.length=N)(hg:gs.length=N)(iw:st<N) :
  (∃l,ot [.lst (bu S),↥st,.bl∘gs,.bl∘bs]=.un\⇑l∧Found (RS S bs) st gs l∧bs.getD st false=false) ∨
  (ot [.lst (bu S),↥st,.bl∘gs,.bl∘bs]=.fr\.non∧(bs.getD st false=true∨S5 (RS S bs) st gs)):=by
 have PL:(jB (ae au (jV 3) (jV 1))) [.al\.lst (bu S),.al\↥st,.al\.bl∘gs,.al\.bl∘bs,none,none,none]=some (bs.getD st false):=by
  simp! [jB,ae,jV,gz,gy,id_eq,oq,cR,Dh (gs:=bs) (n:=st) ∅,oy,bO]
 unfold ot fn Hr;simp only[cA,bE,bH];cases hs:bs.getD st false with
 |true =>
  refine .inr ⟨?_,.inl rfl⟩;rw[dW (by rw[bK (PL.trans (dD some hs))];rfl)];rfl
 |false =>
  rw[gj (PL.trans (dD some hs))];rw[ax (e':=[.al\.lst (bu S),.al\↥st,.al\.bl∘gs,.al\.bl∘bs,.bo\.dk (bt [(st,none)]),none,none]) (by
   ac_rfl)]
  rw[ax (e':=[.al\.lst (bu S),.al\↥st,.al\.bl∘gs,.al\.bl∘bs,.bo\.dk (bt [(st,none)]),.bo\.lst (ak [st]),none]) rfl];have wh:=CB (c:=sM) (b:=wH) (e:=[.al\.lst (bu S),.al\↥st,.al\.bl∘gs,.al\.bl∘bs,.bo\.dk (bt [(st,none)]),.bo\.lst (ak [st]),none]) (n:=2*(N-1)+1)
   (λk e=>∃(ks:List (Nat×Option Nat)) (ls:List Nat) (m5:M) (o:Qzq),(m5=.bo∨m5=.fr)∧e=[.al\.lst (bu S),.al\↥st,.al\.bl∘gs,.al\.bl∘bs,.bo\.dk (bt ks),some (m5,⇑ls),o]∧k=2*(N-ks.length)+(if ls.length=0 then 0 else 1)∧TI N (RS S bs) st ks∧(∀n∈ls,n∈bB ks)∧∀n∈bB ks,n∉ls→gs.getD n false=false∧∀m,RS S bs n m→m∈bB ks)
   (λm d=>m=.un∧∃l,d=⇑l∧Found (RS S bs) st gs l)
   (λk e ⟨ks,ls,m5,o,S6,he,hk,hT,Hf,y0⟩=>by
    subst he;have hlen:sM [.al\.lst (bu S),.al\↥st,.al\.bl∘gs,.al\.bl∘bs,.bo\.dk (bt ks),some (m5,⇑ls),o]=some (decide ((0:Int)<(ls.length:Int))):=by
     unfold sM;simp! [jB,ae,aK,ag,ai,jV,jC,gz,gy,id_eq,oq,dF,dE,oM,bO]
    rw[hlen];by_cases hz:ls=[]
    ·subst hz;exact .inl rfl
    have mh:0<ls.length:=List.length_pos_iff.mpr hz;refine .inr ⟨by rw[eC ∅],?_⟩;have hfz:aW 5 [.al\.lst (bu S),.al\↥st,.al\.bl∘gs,.al\.bl∘bs,.bo\.dk (bt ks),some (m5,⇑ls),o]=[.al\.lst (bu S),.al\↥st,.al\.bl∘gs,.al\.bl∘bs,.bo\.dk (bt ks),.fr\⇑ls,o]:=by
     rcases S6 with rfl|rfl<;>rfl
    have hit:∀{b:Qqq},bT 5 (aT (bF (jV 5)) (gN 6) b) [.al\.lst (bu S),.al\↥st,.al\.bl∘gs,.al\.bl∘bs,.bo\.dk (bt ks),some (m5,⇑ls),o]=forL (gN 6) b .fr (ak ls) [.al\.lst (bu S),.al\↥st,.al\.bl∘gs,.al\.bl∘bs,.bo\.dk (bt ks),.fr\⇑ls,o]:=λ{b}=>by
     rw[bT,hfz];simp! [aT,bF,jV,gz,gy,id_eq,oq,b9,oy]
    rcases Ju hN hg hT (a0:=.al\.lst (bu S)) (a1:=.al\↥st) (a3:=.al\.bl∘bs) (a5:=.fr\⇑ls) ls (o6:=o) Hf with⟨g1,o',g2⟩|⟨e',l,g1,g2⟩
    ·let⟨new,n1,n2,n3⟩:=Yp hN hS hm hb hT Hf;have c2:(bB new).length=new.length:=by simp[bB]
     have t1:=n2.len;rw[fw]at t1;refine .inl ⟨[.al\.lst (bu S),.al\↥st,.al\.bl∘gs,.al\.bl∘bs,.bo\.dk (bt (ks++new)),.fr\.lst (ak (bB new)),o'],_,.inl ?_,⟨ks++new,bB new,.fr,o',.inr rfl,rfl,rfl,n2,λn hn=>?_,λn hn hnn=>?_⟩,?_⟩
     ·unfold wH;rw[ax (by rw[hit];exact g2)];simp! [yp,CQ,ag,ai,jV,gz,gy,oq,id_eq,Wr,if_true,mq,mn,n1,lT,tz,tq]
     ·rw[kO];exact jo _ hn
     ·rw[kO]at hn;rcases iq.mp hn with z|z
      ·by_cases E2:n∈ls
       ·exact⟨g1 n E2,n3 n E2⟩
       ·let⟨d1,d2⟩:=y0 n z E2;exact⟨d1,λm hm=>by rw[kO];exact jn _ (d2 m hm)⟩
      ·exact absurd z hnn
     ·rw[hk,c2,if_neg (show ¬ls.length=0 by omega),fw];split<;>omega
    ·refine .inr ⟨e',.un,⇑l,?_,rfl,l,rfl,g2⟩;unfold wH;rw[dW (by rw[hit];exact g1)])
   ⟨[(st,none)],[st],.bo,none,.inl rfl,rfl,by simp,TI.one iw,λn hn=>by simpa[bB]using hn,λn hn wy=>absurd (by simpa[bB]using hn) wy⟩
  rcases wh with⟨e',k',w1,⟨ks,ls,m5,o,S6,he,_,hT,Hf,y0⟩,w3⟩|⟨e',m,d,w1,rfl,l,rfl,w3⟩
  ·subst he;have hz:ls=[]:=by
    unfold sM at w3;simp! [jB,ae,aK,ag,ai,jV,jC,gz,gy,id_eq,oq,dF,dE,oM,bO]at w3;have:=dP w3;rw[decide_eq_false_iff_not]at this;exact List.length_eq_zero_iff.mp ∅
   subst hz;refine .inr ⟨by rw[ax w1];rfl,.inr ⟨λn=>n∈bB ks,bQ.mpr ⟨(st,none),dH hT.hd,rfl⟩,λn m hn hs=>(y0 n hn (λz=>nomatch z)).2 m hs,λn hn=>(y0 n hn (λz=>nomatch z)).1⟩⟩
  ·refine .inl ⟨l,?_,w3,rfl⟩;rw[dW w1,oq,ui]
end
def ib(rs:List Row)(q:De):List Bool:=rs.map λr=>Row.dX r||gk (sets r) q
def eQ(rs:List Row)(q:De):List Bool:=rs.map λr=>decide (dn r=some q)
@[reducible]def SW(rs:List Row):List (List Nat):=(List.range rs.length).map (dO rs)
def D2{rs:List Row}{n:Nat}(h:n<rs.length):(SW rs).getD n []=dO rs n:=by simp[SW,h]
def D3{rs:List Row}(g:Good rs)(n m:Nat)(h:m∈(SW rs).getD n []):m<rs.length∧aO rs n m:=by
 by_cases hn:n<rs.length
 ·rw[D2 hn]at h;have:=tV g h;let⟨_,_,_,z⟩:=id this;exact⟨z,this⟩
 ·simp[SW,hn]at h
def pF{rs:List Row}{f:Row→Bool}{n:Nat}{r:Row}(h:rs[n]?=some r):(rs.map f).getD n false=f r:=by
 simp[List.getD_eq_getElem?_getD,h]
section
variable {rs:List Row}{j:Nat}{q:De}
def y4(hq:(kn rs)[j]?=some q)(r:Row):fD (kn rs) r j=!decide (dn r=some q):=by
 unfold fD nJ;rw[hq];cases dn r with
 |none=>simp
 |some p=>simp
def D4(hq:(kn rs)[j]?=some q)(r:Row):gK (kn rs) r j=(!decide (dn r=some q)&&(Row.dX r||gk (sets r) q)):=by
 unfold gK cM;rw[y4 hq,hq]
def uB{n:Nat}(h:n<rs.length):∃r,rs[n]?=some r:=⟨_,du h⟩
theorem IJ(g:Good rs)(hq:(kn rs)[j]?=some q):∀{l:List Nat}{st:Nat},qh (RS (SW rs) (eQ rs q)) l→l.head?=some st→(∃x,l.getLast?=some x∧(ib rs q).getD x false=true)→(eQ rs q).getD st false=false→st<rs.length→gR rs j st
  |[],_,_,h,_,_,_=>by cases h
  |[x],st,_,h,⟨y,hy,hg⟩,hb,hs=>by
    cases h;obtain rfl:x=y:=by simpa using hy
    let⟨r,hr⟩:=uB hs;refine .stop hr ?_;rw[D4 hq];rw[eQ,pF hr]at hb;rw[ib,pF hr]at hg;rw[hb,hg];rfl
  |a::b::t,st,⟨B1,hp⟩,h,⟨y,hy,hg⟩,hb,hs=>by
    cases h;let⟨r,hr⟩:=uB hs;let⟨hl,iw⟩:=D3 g _ _ B1.1;refine .step hr ?_ iw (IJ g hq hp rfl ⟨y,by rw[List.getLast?_cons_cons]at hy;exact hy,hg⟩ B1.2 hl);rw[y4 hq];rw[eQ,pF hr]at hb;rw[hb];rfl
def LR(hq:(kn rs)[j]?=some q){n:Nat}(h:gR rs j n):(eQ rs q).getD n false=false:=by
 have:∀{r:Row},rs[n]?=some r→fD (kn rs) r j=true→(eQ rs q).getD n false=false:=λ{r} hr hn=>by
  rw[y4 hq]at hn;rw[eQ,pF hr];simpa using hn
 cases h with
 |stop hr hm=>exact this hr (by unfold gK at hm;exact(Bool.and_eq_true_iff.mp hm).1)
 |step hr hn _ _=>exact this hr hn
def Yq(hq:(kn rs)[j]?=some q){st:Nat}(h:(eQ rs q).getD st false=true∨S5 (RS (SW rs) (eQ rs q)) st (ib rs q)):¬gR rs j st:=by
 intro hM;rcases h with h|⟨C,c0,c1,c2⟩
 ·rw[LR hq hM]at h;cases h
 ·induction hM with
  |stop hr hm =>
   have:=c2 _ c0;rw[ib,pF hr]at this;rw[D4 hq,this,Bool.and_false]at hm;cases hm
  |@step n m r hr hn hs hM ih =>
   refine ih (c1 _ _ c0 ⟨?_,LR hq hM⟩);rw[D2 (bp.mp hr).1];exact J4 hs
def aaY(m n:M)(o:Option De)(q:De):u5 (m,dd o) (n,ao q)=some (.fr,.bl (decide (o=some q))):=by
 cases o with
 |none=>rfl
 |some p =>
  have d1:=xW p;show gF (m,ao p) (n,ao q)=_;unfold gF jS;rw[tW,tW,show oN (ao p) (ao q)=true from rfl,eC (show min (toPy (ao p)).depth (toPy (ao q)).depth≤60 by omega),yE];simp
def aaZ(g:Good rs)(hl:rs.length≤300)(hq:(kn rs)[j]?=some q){a:Int}{m:Nat}(hm:m<rs.length) :
  (∃l,qq [Row.d∘rs,↥j,cV (a,(m:Int))]=.un\⇑l∧Found (RS (SW rs) (eQ rs q)) m (ib rs q) l∧(eQ rs q).getD m false=false) ∨
  (qq [Row.d∘rs,↥j,cV (a,(m:Int))]=.fr\.non∧¬gR rs j m):=by
 have hj:j<(kn rs).length:=(bp.mp hq).1;have eq:L2.bz ((kn rs).map ao) (j:Int)=some (ao q):=by
  rw[J.kE (by simpa using hj),vm,(bp.mp hq).2]
 have F:qq [Row.d∘rs,↥j,cV (a,(m:Int))]=(ot [.lst (bu (SW rs)),↥m,.lst ((ib rs q).map .bl),.lst ((eQ rs q).map .bl)]).bind λx=>out (.rt [.al\Row.d∘rs,.al\↥j,.al\cV (a,(m:Int)),.fr\ao q,.bo\.lst ((ib rs q).map .bl),.bo\.lst ((eQ rs q).map .bl)] x.1 x.2):=by
  unfold qq fn Iw;simp only[cA,bE,bH];rw[ax (e':=[.al\Row.d∘rs,.al\↥j,.al\cV (a,(m:Int)),.fr\ao q,none,none]) (by
   symm;rw[yi ∅];symm;rw[eq];rfl)]
  have fz:∀{x y:Qzq},aW 0 [.al\Row.d∘rs,.al\↥j,.al\cV (a,(m:Int)),.fr\ao q,x,y]=[.al\Row.d∘rs,.al\↥j,.al\cV (a,(m:Int)),.fr\ao q,x,y]:=rfl;have fe:∀{x y:Qzq},f9 [.al\Row.d∘rs,.al\↥j,.al\cV (a,(m:Int)),.fr\ao q,x,y] [3]=[.fr\ao q]:=rfl;rw[ax (e':=[.al\Row.d∘rs,.al\↥j,.al\cV (a,(m:Int)),.fr\ao q,.bo\.lst ((ib rs q).map .bl),none]) (by
   rw[bT,fz];simp! [aw,cv,bF,jV,gz,gy,id_eq,oq,b9,oy,fe];rw[xG (m':=.fr) (f:=λr=>.bl (Row.dX r||gk (sets r) q)) rs λr _=>?_,oq,iH (by rw[ln];omega),oq]
   ·rw[ib,gw];rfl
   ·simp! [mO,ae,aC,ag,ai,jV,jC,gz,gy,id_eq,oq,fB,fV,bO,nH,mq,mn,Ca];cases Row.dX r<;>rfl)]
  rw[ax (e':=[.al\Row.d∘rs,.al\↥j,.al\cV (a,(m:Int)),.fr\ao q,.bo\.lst ((ib rs q).map .bl),.bo\.lst ((eQ rs q).map .bl)]) (by
   rw[bT,fz];simp! [aw,cv,bF,jV,gz,gy,id_eq,oq,b9,oy,fe];rw[xG (m':=.fr) (f:=λr=>.bl (decide (dn r=some q))) rs λr _=>?_,oq,iH (by rw[ln];omega),oq]
   ·rw[eQ,gw];rfl
   ·simp! [ae,aC,ag,ai,jV,gz,gy,id_eq,oq,mq,mn,yf,aaY])]
  simp! [aF,ae,aC,ag,ai,jV,jC,gz,gy,id_eq,oq,mq,mn,Cb (rs:=rs) ∅,p1,X5 g];cases ot [.lst (bu (SW rs)),↥m,.lst ((ib rs q).map .bl),.lst ((eQ rs q).map .bl)]<;>rfl
 rw[F];rcases Ws (N:=rs.length) (S:=SW rs) (bs:=eQ rs q) (gs:=ib rs q) (st:=m) ∅ (by simp[SW]) (λn m h=>(D3 g n m h).1) (by simp[eQ]) (by simp[ib]) hm with⟨l,e,f,hb⟩|⟨e,h⟩
 ·exact .inl ⟨l,by rw[e];rfl,f,hb⟩
 ·exact .inr ⟨by rw[e];rfl,Yq hq h⟩
end
def adU(r:Row):dS (.str r.word) [.str "reckon",.str "copy"]=(sets r).isSome:=by
 cases r with
 |rk x s a b=>exact(by decide +kernel:dS (.str ("reckon" : Str)) [.str "reckon",.str "copy"]=true)
 |cp x a=>exact(by decide +kernel:dS (.str ("copy" : Str)) [.str "reckon",.str "copy"]=true)
 |sy a=>exact(by decide +kernel:dS (.str ("say" : Str)) [.str "reckon",.str "copy"]=false)
 |go t=>exact(by decide +kernel:dS (.str ("go" : Str)) [.str "reckon",.str "copy"]=false)
 |pt a t=>exact(by decide +kernel:dS (.str ("part" : Str)) [.str "reckon",.str "copy"]=false)
 |en=>exact(by decide +kernel:dS (.str ("end" : Str)) [.str "reckon",.str "copy"]=false)
def acT(m n:M)(r:Row):eZ false (m,.str r.word) (n,.tup [.str "reckon",.str "copy"])=some (.fr,.bl (sets r).isSome):=by
 rw[←adU r];rfl
def adV(x y:Str):(y==x)=decide (x=y):=by
 rw[mv,Fy,beq_iff_eq];exact eq_comm
def Od(m n:M)(x:Str)(a b:Ko):eZ false (m,.str x) (n,.tup [kD a,kD b])=some (.fr,.bl (isNm a x||isNm b x)):=by
 cases a<;>cases b<;>simp[eZ,gJ,zp,oZ,kD,dS,isNm,kf,adV]
def E3(m:M)(q:De):iV (m,ao q) (some 1) none=some (aY m,.tup [kD q.2.1,kD q.2.2]):=rfl
def C0(r:Row)(q:De):sW [r.d,ao q]=some (.fr,.bl (gk (sets r) q)):=by
 unfold sW fn Hy;simp! [aF,nD,ae,aV,ag,ai,iD,gP,jh,jV,jC,mq,mn,List.length_cons,List.length_nil,List.replicate,List.cons_append,List.nil_append,Nat.reduceAdd,Nat.sub_self,List.append_nil,gz,gy,id_eq,oq,fB,fT];rw[show kZ [(M.fr,D.str "reckon"),(.fr,.str "copy")]=some (.fr,.tup [.str "reckon",.str "copy"])from rfl,oq,acT,oq];simp! [bO,mX,oq,E3,fT];cases r with
 |rk x s a b =>
  rw[show au (.al,Row.d (.rk x s a b)) (.fr,.int 1)=some (.al,.str x)from rfl];simp! [sets,Option.isSome_some,if_true,oq,oy,E3,fT,Od,uh,gk]
 |cp x a =>
  rw[show au (.al,Row.d (.cp x a)) (.fr,.int 1)=some (.al,.str x)from rfl];simp! [sets,Option.isSome_some,if_true,oq,oy,E3,fT,Od,uh,gk]
 |_=>simp[sets,out,gk]
def aa0{m n:M}(q:De)(l:List De):pj true (m,ao q) (n,ao∘l)=some (.fr,.bl (!decide (q∈l))):=by
 have h1:J.fF (l.map ao)=true:=tJ λd hd=>by let⟨x,_,rfl⟩:=bQ.mp hd;exact tW x
 have h2:=xW q;have h3:(toPy (ao q)).depth≤50:=by omega
 simp only[pj,tW,h1,h3,and_self,if_true,xH,List.any_map];congr 4;rw[mv,pQ,Fy];constructor
 ·rintro⟨y,hy,e⟩;have e':PyData.eqv (toPy (ao y)) (toPy (ao q))=true:=e;rw[yE,Fy]at e';rw[←e'];exact hy
 ·intro hq;exact⟨q,hq,by show PyData.eqv (toPy (ao q)) (toPy (ao q))=true;rw[yE];simp⟩
def Yr{r:Row}{l:List De}(hl:l.length≤500)(A0:Qzq):xh [A0,.bo\ao∘l,.al\r.d]=some (.nx [A0,.bo\.lst ((ko l r).map ao),.al\r.d]):=by
 have s1:l.length<sizeLine:=eD hl (by decide);have c1:(jB (ae aP (ae au (jV 2) (jC (.int 0))) (jC (.str "reckon")))) [A0,.bo\ao∘l,.al\r.d]=some (dn r).isSome:=by
  simp! [jB,ae,jV,jC,gz,gy,id_eq,oq,fB,fV,bO,EZ]
 unfold xh;unfold ko;cases r with
 |rk x s a b =>
  have c2:(dm (jB (ae aP (ae au (jV 2) (jC (.int 0))) (jC (.str "reckon")))) (jB (ae (pj true) (iD iV (jV 2) (gP (jC (.int 2))) jh) (jV 1)))) [A0,.bo\ao∘l,.al\Row.d (.rk x s a b)]=some (!decide ((s,a,b)∈l)):=by
   unfold dm;rw[c1,show(some (dn (.rk x s a b)).isSome:Option Bool)=some true from rfl,oq,if_pos rfl];simp! [jB,ae,iD,gP,jh,jV,jC,gz,gy,id_eq,oq,mX,oy,D0,aa0,bO]
  by_cases hm:(s,a,b)∈l
  ·rw[bL (by rw[c2,eC hm];rfl)];simp only[dn,if_pos hm];rfl
  ·rw[bK (by rw[c2,fI hm];rfl)];simp only[dn,if_neg hm];simp! [cJ,iD,gP,jh,jV,jC,gz,gy,id_eq,oq,mX,oy,D0,fT,uj,aaH,if_true,ft,own,ln,s1,tz,tq,List.map_append,mq,mn]
 |_ =>
  rw[bL (by unfold dm;rw[c1];rfl)];rfl
def Wu{rs:List Row}(hl:rs.length≤400):xx [Row.d∘rs]=some (.un,.lst ((kn rs).map ao)):=by
 let⟨e',l1,o2,he⟩:=dh (g:=gN 2) (b:=xh) (m:=.al) (ds:=rs.map Row.d) (e:=[.al\Row.d∘rs,.bo\.lst ([].map ao),none])
  (λi e=>∃o2,e=[.al\Row.d∘rs,.bo\.lst ((kn (rs.take i)).map ao),o2]) ⟨none,rfl⟩
  (λi d e hd bx=>by
   let⟨o2,he⟩:=bx;subst he;let⟨r,hr,rfl⟩:=C9 hd;have hi:i<rs.length:=(bp.mp hr).1;have BW:=yC rs i;have q:=Yr (r:=r) (l:=kn (rs.take i)) ∅ (.al\Row.d∘rs);rw[←qz rs i r hr]at q;exact⟨_,_,rfl,q,_,rfl⟩)
 subst he;rw[ln,wx]at l1;unfold xx fn Ib;simp only[cA,bE,bH];rw[ax (e':=[.al\Row.d∘rs,.bo\.lst ([].map ao),none]) rfl];rw[ax (e':=[.al\Row.d∘rs,.bo\.lst ((kn rs).map ao),o2]) (by
  rw[bT,show aW 0 [.al\Row.d∘rs,.bo\.lst ([].map ao),none]=[.al\Row.d∘rs,.bo\.lst ([].map ao),none] from rfl];simp! [aT,bF,jV,gz,gy,id_eq,oq,b9,oy];exact l1)]
 rfl
theorem Nf{A0:Qzq}{n:Int}:∀(ms:List Int) (l:List (Int×Int)) (o3:Qzq),l.length+ms.length≤5000→∃fQ,forL (gN 3) wY .fr (ms.map D.int) [A0,.bo\.lst (aZ l),.fr\.int n,o3]=some (.nx [A0,.bo\.lst (aZ (l++ms.map λm=>(n,m))),.fr\.int n,fQ])
 |[],l,o3,_=>⟨o3,by simp[forL]⟩
 |m::ms,l,o3,hl=>by
  rw[f6]at hl;let⟨fQ,q⟩:=Nf (A0:=A0) (n:=n) ms (l++[(n,m)]) (.fr\.int m) (by rw[fw];simp only[List.length_cons,List.length_nil];omega);refine⟨fQ,?_⟩;have hs:l.length<sizeLine:=eD (show l.length≤5000 by omega) (by decide);rw[mq,forL,show gN 3 (M.fr,D.int m) [A0,.bo\.lst (aZ l),.fr\.int n,o3]=some [A0,.bo\.lst (aZ l),.fr\.int n,.fr\.int m] from rfl,oq];have hb:wY [A0,.bo\.lst (aZ l),.fr\.int n,.fr\.int m]=some (.nx [A0,.bo\.lst (aZ (l++[(n,m)])),.fr\.int n,.fr\.int m]):=by
   unfold wY;symm;rw[C4,if_pos hs,J7]
  rw[hb,oq];simpa using q
def aa1{rs:List Row}(hl:rs.length≤800):xo [Row.d∘rs]=some (.un,.lst (aZ (aR rs rs.length))):=by
 have cK:-4611686018427387904≤(rs.length:Int)∧(rs.length:Int)<4611686018427387904:=by omega
 have ht:(rs.length:Int).toNat=rs.length:=by omega
 let⟨e',l1,o2,o3,he⟩:=dh (g:=gN 2) (b:=wZ) (m:=.fr) (ds:=cj 0 rs.length) (e:=[.al\Row.d∘rs,.bo\.lst (aZ (aR rs 0)),none,none])
  (λi e=>∃(o2 o3:Qzq),e=[.al\Row.d∘rs,.bo\.lst (aZ (aR rs i)),o2,o3])
  ⟨none,none,rfl⟩
  (λi d e hd bx=>by
   let⟨o2,o3,he⟩:=bx;subst he;let⟨hi,rfl⟩:=lR hd;rw[show(0:Int)+(i:Int)=(i:Int) by omega];have h1:=ub rs i;have h2:=Cy rs i;have hr:rs[i]?=some (rs[i]'hi):=by simp
   have ef:=C3 rs i _ hr;have er:bA i (rs[i]'hi)=cn rs i:=by unfold cn;rw[hr]
   rw[er]at ef;let⟨fQ,q⟩:=Nf (A0:=.al\Row.d∘rs) (n:=(i:Int)) (cn rs i) (aR rs i) o3 ∅;refine⟨_,[.al\Row.d∘rs,.bo\.lst (aZ (aR rs (i+1))),.fr\↥i,fQ],rfl,?_,_,_,rfl⟩;show wZ [.al\Row.d∘rs,.bo\.lst (aZ (aR rs i)),.fr\↥i,o3]=_;unfold wZ;simp! [aT,bF,aC,ag,ai,jV,gz,gy,id_eq,oq,mq,mn,ef,b9,oy];rw[oD];exact q)
 subst he;rw[kK]at l1;unfold xo fn HL;simp only[cA,bE,bH];rw[ax (e':=[.al\Row.d∘rs,.bo\.lst (aZ (aR rs 0)),none,none]) rfl];rw[ax (e':=[.al\Row.d∘rs,.bo\.lst (aZ (aR rs rs.length)),o2,o3]) (by
  simp! [aT,cf,aK,ag,ai,jV,gz,gy,id_eq,oq,dF,ln,cK,and_self,if_true,ht];exact l1)]
 rfl
theorem Ng{val:Nat→Int}:∀i,(∀a b,a<i→b<i→val a=val b→a=b)→(PyProof.Rows.firstMet val i).length=i
 |0,_=>rfl
 |i+1,h=>by
  have ih:=Ng i λa b ha hb=>h a b ∅ ∅;rw[PyProof.Rows.firstMet_succ,PyProof.Rows.step_length,PyProof.Rows.firstMet_any,if_neg,ih];intro z;let⟨x,hx,e⟩:=pQ.mp z;let⟨a,ha,rfl⟩:=bQ.mp hx;have ha:=iQ.mp ha;have:=h a i ∅ ∅ (by simpa using e);omega
abbrev nI(l:List Nat):List Int:=l.map λ(n:Nat)=>(n:Int)
theorem Jv:∀l:List Nat,k6 (ak l)=some (nI l)
 |[]=>rfl
 |a::l=>by rw[show ak (a::l)=↥a::ak l from rfl,k6,Jv l];rfl
def aa2{l:List Nat}(h:l.Nodup):qa (nI l)=l.length:=by
 unfold qa;rw[Ng]
 ·simp[nI]
 ·intro a b ha hb e;have vG:a<l.length:=by simpa[nI]using ha
  have mQ:b<l.length:=by simpa[nI]using hb
  have e':l[a]=l[b]:=Int.ofNat_inj.mp (by simpa[nI,vG,mQ]using e);exact(List.getElem?_inj vG h).mp (by rw[du vG,du mQ,e'])
theorem Ki:∀l:List Nat,oZ (ak l)=some (l.map λ(n:Nat)=>V.int (n:Int))
 |[]=>rfl
 |a::l=>by rw[show ak (a::l)=↥a::ak l from rfl,oZ,Ki l];rfl
def aa3{m n:M}{x:Nat}{l:List Nat}:eZ true (m,↥x) (n,⇑l)=some (.fr,.bl (!decide (x∈l))):=by
 show((oZ (ak l)).bind λvs=>some (M.fr,D.bl (if true then !dS (V.int (x:Int)) vs else dS (V.int (x:Int)) vs)))=_;rw[Ki,oq,if_pos rfl];congr 4;rw[mv,dS,List.any_map,pQ,decide_eq_true_iff];constructor
 ·rintro⟨y,hy,e⟩;have:((y:Nat):Int)=(x:Int):=by simpa[kf]using e
  rw[←Int.ofNat_inj.mp this];exact hy
 ·intro hx;exact⟨x,hx,by simp[kf]⟩
theorem Nh{R:Nat→Nat→Prop}:∀{l:List Nat}{i a b:Nat},qh R l→l[i]?=some a→l[i+1]?=some b→R a b
 |x::y::t,0,a,b,⟨h,_⟩,h1,h2=>by
  simp at h1 h2;subst h1;subst h2;exact h
 |x::y::t,i+1,a,b,⟨_,h⟩,h1,h2=>Nh (l:=y::t) (i:=i) h (by simpa using h1) (by simpa using h2)
 |[x],i,a,b,_,h1,h2=>by simp at h2
 |[],i,a,b,_,h1,h2=>by simp at h1
theorem LV{R:Nat→Nat→Prop}{P:Nat→Prop}(hR:∀a b,R a b→P b):∀{l:List Nat}{st:Nat},qh R l→l.head?=some st→P st→∀x∈l,P x
  |[],_,_,h,_=>by cases h
  |[y],st,_,h,hp=>λx hx=>by
    cases h;have:x=y:=by simpa using hx
    subst this;exact hp
  |a::b::t,st,⟨h1,h2⟩,h,hp=>λx hx=>by
    cases h;rcases dQ.mp hx with rfl|hx
    · exact hp
    · exact LV hR h2 rfl (hR _ _ h1) x hx
def LW{rs:List Row}(g:Good rs){n:Nat}{r:Row}(h:rs[n]?=some r):oi [Row.d∘rs,↥n]=some (.un,.lst (ak (dO rs n))):=by
 rw[C3 rs n r h,←yy g];unfold cn;rw[h]
def aa4{rs:List Row}(g:Good rs){q:De}{l ah:List Nat}{m y x:Nat}{r:Row}(hr:rs[x]?=some r)(hd:decide (dn r=some q)=false)(hx:x∈ah)(o6:Qzq) :
  ∃e1,gN 6 (M.al,↥x) [.al\Row.d∘rs,.al\ao q,.al\⇑l,.al\↥m,.al\↥y,.bo\⇑ah,o6]=some e1 ∧
   w6 e1=some (.nx [.al\Row.d∘rs,.al\ao q,.al\⇑l,.al\↥m,.al\↥x,.bo\.lst (ak (dO rs x)),.al\↥x]):=by
 refine⟨[.al\Row.d∘rs,.al\ao q,.al\⇑l,.al\↥m,.al\↥y,.bo\⇑ah,.al\↥x],rfl,?_⟩;have ar:=jI hr;unfold w6;rw[ax (e':=[.al\Row.d∘rs,.al\ao q,.al\⇑l,.al\↥m,.al\↥y,.bo\⇑ah,.al\↥x]) (by
  rw[bL (by
   simp! [cQ,eY,jB,aK,ae,ag,ai,jV,jC,gz,gy,id_eq,oq,B6,HC,bO,aa3,decide_eq_true hx];rfl)]
  rfl)]
 rw[ax (e':=[.al\Row.d∘rs,.al\ao q,.al\⇑l,.al\↥m,.al\↥y,.bo\⇑ah,.al\↥x]) (by
  rw[bL (by simp! [jB,aC,ae,ag,ai,jV,gz,gy,id_eq,oq,cR,ar,oy,mq,mn,Dx,bO,hd])];rfl)]
 rw[ax (e':=[.al\Row.d∘rs,.al\ao q,.al\⇑l,.al\↥m,.al\↥x,.bo\⇑ah,.al\↥x]) rfl];simp! [aw,aC,ag,ai,jV,gz,gy,id_eq,oq,mq,mn,LW g hr,kJ,tz,tq]
def U7{rs:List Row}(g:Good rs)(hl:rs.length≤300){q:De}{l:List Nat}{m:Nat}(hf:Found (RS (SW rs) (eQ rs q)) m (ib rs q) l)(hb:(eQ rs q).getD m false=false)(hm:m<rs.length) :
  xq [Row.d∘rs,ao q,⇑l,↥m]=some (.fr,.bl true):=by
 let⟨hp,hh,⟨z,hz,Hg⟩,iz⟩:=hf;have all:∀x∈l,x<rs.length∧(eQ rs q).getD x false=false:=LV (λa b h=>⟨(D3 g a b h.1).1,h.2⟩) hp hh ⟨hm,hb⟩;have hlen:=oA rs.length l iz λx hx=>(all x hx).1;have mh:0<l.length:=by
  cases l with
  |nil=>cases hh
  |cons a t=>simp
 have h0:l[0]?=some m:=by rw[←List.head?_eq_getElem?];exact hh
 let⟨e',l1,y,ah,o6,he,_,hy,_⟩:=dh (g:=gN 6) (b:=w6) (m:=.al) (ds:=ak l) (e:=[.al\Row.d∘rs,.al\ao q,.al\⇑l,.al\↥m,.al\↥m,.bo\.lst (ak [m]),none])
  (λi e=>∃(y:Nat) (ah:List Nat) (o6:Qzq),e=[.al\Row.d∘rs,.al\ao q,.al\⇑l,.al\↥m,.al\↥y,.bo\⇑ah,o6]∧(∀x,l[i]?=some x→x∈ah)∧(∀k,i=k+1→l[k]?=some y)∧True)
  ⟨m,[m],none,rfl,λx hx=>by rw[h0]at hx;cases hx;simp,λk hk=>by omega,trivial⟩
  (λi d e hd bx=>by
   let⟨y,ah,o6,he,h1,_,_⟩:=bx;subst he;obtain⟨x,hx,rfl⟩:∃x,l[i]?=some x∧d=.int ((x:Nat):Int):=by
    unfold ak at hd;rw[cF]at hd;cases e:l[i]? with
    |none=>rw[e]at hd;cases hd
    |some x=>rw[e]at hd;cases hd;exact⟨x,rfl,rfl⟩
   let⟨xl,xb⟩:=all x (dH hx);let⟨r,hr⟩:=uB xl;rw[eQ,pF hr]at xb;let⟨e1,w1,w2⟩:=aa4 g (l:=l) (m:=m) (y:=y) hr xb (h1 x hx) o6;refine⟨e1,_,w1,w2,x,dO rs x,_,rfl,λx' mM=>?_,λk hk=>(by
    obtain rfl:i=k:=by omega
    exact hx),trivial⟩
   have:=(Nh hp hx mM).1;rwa [D2 xl]at this)
 subst he;obtain⟨k,hk⟩:∃k,(ak l).length=k+1:=⟨l.length-1,by rw[dE];omega⟩;have hy:=hy k hk;rw[dE]at hk;have S7:l.getLast?=some y:=by rw[List.getLast?_eq_getElem?,show l.length-1=k by omega];exact hy
 rw[hz]at S7;cases S7;let⟨r,hr⟩:=uB (all z (dH hy)).1;rw[ib,pF hr]at Hg;have ar:=jI hr;unfold xq fn HM;simp only[cA,bE,bH];rw[ax (e':=[.al\Row.d∘rs,.al\ao q,.al\⇑l,.al\↥m,none,none,none]) (by
  rw[bL (by
   have e1:decide ((l.length:Int)=0)=false:=fI ∅;have e2:(nI l).length<4000:=by simp[nI];omega
   simp! [cQ,eY,jB,aK,AH,ae,ag,ai,jV,jC,gz,gy,id_eq,oq,show jj [(M.al,⇑l),(.fr,.ty "list")]=some (.fr,.bl true)from rfl,bO,dF,dE,m8,e1,Jv,e2,if_true,aa2 iz,DP,decide_true];rfl)]
  rfl)]
 rw[ax (e':=[.al\Row.d∘rs,.al\ao q,.al\⇑l,.al\↥m,.al\↥m,none,none]) rfl];rw[ax (e':=[.al\Row.d∘rs,.al\ao q,.al\⇑l,.al\↥m,.al\↥m,.bo\.lst (ak [m]),none]) rfl];rw[ax (e':=[.al\Row.d∘rs,.al\ao q,.al\⇑l,.al\↥m,.al\↥z,.bo\⇑ah,o6]) (by
  rw[bT,show aW 2 [.al\Row.d∘rs,.al\ao q,.al\⇑l,.al\↥m,.al\↥m,.bo\.lst (ak [m]),none]=[.al\Row.d∘rs,.al\ao q,.al\⇑l,.al\↥m,.al\↥m,.bo\.lst (ak [m]),none] from rfl];simp! [aT,bF,jV,gz,gy,id_eq,oq,b9,oy];exact l1)]
 simp! [aF,mO,ae,aC,ag,ai,jV,jC,gz,gy,id_eq,oq,cR,ar,oy,mq,mn,C0,bO,fB,fV,nH];cases hc:gk (sets r) q with
 |true=>rfl
 |false =>
  rw[hc,zM]at Hg;rw[Hg];rfl
def Ni{m n m':M}{p:Nat→Bool}{k j:Nat}(h:j<k):((nC (m,bI p k) (n,↥j)).bind λy=>gD y (m',.int 1))=some (.fr,.int (if p j=true then 1 else 0)):=by
 have e1:nC (m,bI p k) (n,↥j)=some (.fr,.int ((bD p k/2^j:Nat):Int)):=by
  rw[bI,Z2 ∅,rS];rfl
 have e2:(bD p k/2^j)%2=if p j=true then 1 else 0:=by
  have:=kM p k j;rw[Nat.testBit_eq_decide_div_mod_eq,eC h,Bool.true_and]at this;cases hp:p j with
  |true=>rw[hp]at this;simpa using this
  |false =>
   rw[hp]at this;have:¬(bD p k/2^j%2=1):=by simpa using this
   simp;omega
 rw[e1,oq,show(M.fr,D.int ((bD p k/2^j:Nat):Int))=(M.fr,.int ((bD p k/2^j:Nat):Int))from rfl,CP,show(1:Int)=((1:Nat):Int)from rfl,EY,Nat.and_one_is_mod,e2];cases p j<;>rfl
def Nj{f:Int→D}{l:List (Int×Int)}(h:l.Nodup):eO l f=l.map λq=>(pK q,f q.2):=by
 have go:∀(l a:List (Int×Int)),(a++l).Nodup→l.foldl (λd q=>putD d (pK q) (f q.2)) (a.map λq=>(pK q,f q.2))=(a++l).map λq=>(pK q,f q.2):=by
  intro l
  induction l with
  |nil=>intro a _;simp
  |cons q l ih =>
   intro a hn;rw[List.foldl_cons,xV,show(a.map λq=>(pK q,f q.2))++[(pK q,f q.2)]=(a++[q]).map λq=>(pK q,f q.2) by simp,ih (a++[q]) (by simpa using hn)]
   ·simp
   ·intro kv hk e;let⟨x,hx,rfl⟩:=bQ.mp hk;have:x=q:=by
     have e':pK x=pK q:=e;simp only[pK,List.cons.injEq,Key.inl.injEq,and_true]at e';exact Prod.ext e'.1 e'.2
    subst this;exact(rP.mp hn).2.2 x hx x cg rfl
 simpa[eO]using go l [] (by simpa using h)
def Nk{f:Int→D}{l:List (Int×Int)}(h:l.Nodup){q:Int×Int}(hq:q∈l):cS (eO l f) (pK q)=some (f q.2):=by
 refine xI (λkv hk e=>?_) ⟨(pK q,f q.2),by rw[Nj h];exact bQ.mpr ⟨q,hq,rfl⟩,rfl⟩;rw[Yl l kv hk,e];rfl
section
variable {rs:List Row}
def Ys(k:Nat):∀q∈aR rs k,q.1<(k:Int):=by
 induction k with
 |zero =>
  intro q hq;have:q=(-1,0):=by simpa[aR]using hq
  subst this;decide
 |succ k ih =>
  intro q hq;rw[oD]at hq;rcases iq.mp hq with z|z
  ·have:=ih q z;omega
  ·let⟨m,_,rfl⟩:=bQ.mp z;show(k:Int)<_;omega
theorem yF(g:Good rs):∀k,(aR rs k).Nodup
  |0=>by simp[aR]
  |k+1=>by
    rw[oD,rP];refine⟨yF g k,?_,λa ha b hb e=>?_⟩
    · have:(cn rs k).Nodup:=by
        unfold cn;cases h:rs[k]? with
        |none=>exact rL
        |some r =>
          cases r with
          |pt a t =>
            have:=g.np k a t h;show[(k:Int)+1,t].Nodup;simp;omega
          |_=>simp[aL.bA]
      exact List.Pairwise.map _ (λa b B1 e=>B1 (Prod.mk.inj e).2) this
    · subst e
      have:=Ys k a ha;let⟨m,_,rfl⟩:=bQ.mp hb;exact absurd this (Int.lt_irrefl _)
def Yt(g:Good rs){n m:Nat}(h:aO rs n m):((n:Int),(m:Int))∈aR rs rs.length:=by
 let⟨r,hr,hm,_⟩:=h;have hn:=(bp.mp hr).1;unfold aR;refine cT _ (List.mem_flatMap.mpr ⟨n,iQ.mpr hn,bQ.mpr ⟨_,?_,rfl⟩⟩);unfold cn;rw[hr];exact hm
def Yu(g:Good rs){P:Nat→Nat→Bool}(hP:∀n j,n<rs.length→j<(kn rs).length→(P n j=true↔gR rs j n)){j:Nat}{q:De}(hq:(kn rs)[j]?=some q){m:Nat}(hm:m<rs.length)(hM:¬gR rs j m) :
  xi [Row.d∘rs,ao q,↥j,.dt (eO (aR rs rs.length) λm=>bI (λj=>true&&!P m.toNat j) (kn rs).length),↥m]=some (.fr,.bl true):=by
 have hj:j<(kn rs).length:=(bp.mp hq).1;let⟨r,hr⟩:=uB hm;have ar:=jI hr;generalize hW:eO (aR rs rs.length) (λm=>bI (λj=>true&&!P m.toNat j) (kn rs).length)=W;unfold xi fn Hz;simp only[cA,bE,bH];have c1:(jB (aC qv (ag (ae au (jV 0) (jV 4)) (ag (jV 1) ai)))) [.al\Row.d∘rs,.al\ao q,.al\↥j,.al\.dt W,.al\↥m,none]=some (decide (dn r=some q)):=by
  simp! [jB,aC,ae,ag,ai,jV,gz,gy,id_eq,oq,cR,ar,oy,mq,mn,Dx,bO]
 by_cases hd:dn r=some q
 ·rw[dW (by rw[bK (c1.trans (dD some (eC hd)))];rfl)];rfl
 have nd:=y4 hq r;rw[fI hd]at nd;have hmd:(Row.dX r||gk (sets r) q)=false:=by
  have:=D4 hq r;rw[fI hd]at this;cases hx:(Row.dX r||gk (sets r) q) with
  |false=>rfl
  |true=>rw[hx]at this;exact absurd (gR.stop hr this) hM
 let⟨he,hc⟩:=Bool.or_eq_false_iff.mp hmd;rw[ax (by rw[bL (c1.trans (dD some (fI hd)))];rfl)];rw[ax (e':=[.al\Row.d∘rs,.al\ao q,.al\↥j,.al\.dt W,.al\↥m,none]) (by
  rw[bL (by
   simp! [cQ,jB,aC,ae,ag,ai,jV,jC,gz,gy,id_eq,oq,cR,ar,oy,mq,mn,C0,bO,hc,fB,fV,nH,he];rfl)]
  rfl)]
 let⟨e',l1,o5,F5⟩:=dh (g:=gN 5) (b:=wR) (m:=.fr) (ds:=ak (dO rs m)) (e:=[.al\Row.d∘rs,.al\ao q,.al\↥j,.al\.dt W,.al\↥m,none])
  (λ_ e=>∃o5,e=[.al\Row.d∘rs,.al\ao q,.al\↥j,.al\.dt W,.al\↥m,o5]) ⟨none,rfl⟩
  (λi d e nU bx=>by
   let⟨o5,he⟩:=bx;subst he;obtain⟨x,hx,rfl⟩:∃x∈dO rs m,d=.int ((x:Nat):Int):=by
    let⟨x,hx,e⟩:=bQ.mp (dH nU);exact⟨x,hx,e.symm⟩
   have hs:=tV g hx;let⟨_,_,_,hxl⟩:=id hs;have SJ:¬gR rs j x:=λz=>hM (.step hr nd hs z);have hPx:P x j=false:=by
    cases hp:P x j with
    |false=>rfl
    |true=>exact absurd ((hP x j hxl hj).mp hp) SJ
   have hv:cS W [.inl (m:Int),.inl (x:Int)]=some (bI (λj=>true&&!P x j) (kn rs).length):=by
    have:=Nk (f:=λm=>bI (λj=>true&&!P m.toNat j) (kn rs).length) (yF g rs.length) (Yt g hs);rw[hW]at this;simp only[Int.toNat_natCast]at this;exact this
   have hb:=Ni (m:=aY .al) (n:=.al) (m':=.fr) (p:=λj=>true&&!P x j) hj;refine⟨_,[.al\Row.d∘rs,.al\ao q,.al\↥j,.al\.dt W,.al\↥m,.fr\↥x],rfl,?_,_,rfl⟩;show wR [.al\Row.d∘rs,.al\ao q,.al\↥j,.al\.dt W,.al\↥m,.fr\↥x]=_;unfold wR;rw[bL (by
    simp! [jB,ae,k7,aV,ag,ai,jV,jC,gz,gy,id_eq,oq];rw[show kZ [(M.al,↥m),(.fr,↥x)]=some (.fr,.tup [↥m,↥x])from rfl];simp! [oq,ml,show lg (D.tup [↥m,↥x])=some [.inl (m:Int),.inl (x:Int)] from rfl,hv];rw[hb,hPx];rfl)]
   rfl)
 subst F5;rw[ax (e':=[.al\Row.d∘rs,.al\ao q,.al\↥j,.al\.dt W,.al\↥m,o5]) (by
  simp! [aT,bF,aC,ag,ai,jV,gz,gy,id_eq,oq,mq,mn,LW g hr,b9,oy];exact l1)]
 rfl
end
def acU(ns:List Int):(J.cut ns (some 2) (some 22)).length≤20:=by
 unfold J.cut;rw[mw,List.length_drop];unfold HT.bh;simp;omega
theorem Kj{f:Int×Int→D}:∀l:List (Int×Int),rF (l.map λq=>(pK q,f q))=some l
 |[]=>rfl
 |q::l=>by
  rw[mq];show(rF _).bind _=_;rw[Kj l];rfl
theorem Kk:∀l:List (Int×Int),rE (aZ l)=some l
 |[]=>rfl
 |q::l=>by
  show(rE (aZ l)).bind _=_;rw[Kk l];rfl
def sorts{m:M}{f:Int→D}{l:List (Int×Int)}(h:l.Nodup):mY [(.bo,.dt (eO l f))]=kl l∧mY [(m,.lst (aZ l))]=kl l:=by
 constructor
 ·show(if own .bo=true∨M.bo=.un then (rF (eO l f)).bind kl else none)=_;rw[if_pos (.inl rfl),Nj h,Kj (f:=λq=>f q.2)];rfl
 ·show(rE (aZ l)).bind kl=_;rw[Kk];rfl
section
variable {rs:List Row}{P:Nat→Nat→Bool}{A0:Qzq}
def Wd(rs:List Row)(P:Nat→Nat→Bool):List (List Key×D):=eO (aR rs rs.length) λm=>bI (λj=>true&&!P m.toNat j) (kn rs).length
def Oe(g:Good rs){q:Int×Int}(hq:q∈aR rs rs.length):cS (Wd rs P) (pK q)=some (bI (λj=>true&&!P q.2.toNat j) (kn rs).length):=Nk (f:=λm=>bI (λj=>true&&!P m.toNat j) (kn rs).length) (yF g _) hq
def aa5(g:Good rs)(hl:rs.length≤300){q:Int×Int}(hq:q∈aR rs rs.length):yd [A0,.bo\Row.d∘rs,.fr\.lst (aZ (aR rs rs.length)),.bo\.lst ((kn rs).map ao),.bo\.dt (Wd rs P),.fr\cV q,none,none,none]=some (.nx [A0,.bo\Row.d∘rs,.fr\.lst (aZ (aR rs rs.length)),.bo\.lst ((kn rs).map ao),.bo\.dt (Wd rs P),.fr\cV q,none,none,none]):=by
 have hk:=qW rs;have hv:=Oe (P:=P) g hq;have aX:=yB (λj=>true&&!P q.2.toNat j) (kn rs).length;have e1:decide ((0:Int)≤((bD (λj=>true&&!P q.2.toNat j) (kn rs).length:Nat):Int))=true:=eC ∅;have e2:decide (((bD (λj=>true&&!P q.2.toNat j) (kn rs).length:Nat):Int)<((2^(kn rs).length:Nat):Int))=true:=eC (Int.ofNat_lt.mpr aX);unfold yd;rw[bL (by
  simp! [cQ,eY,jB,aK,k7,mW,ae,ag,ai,jV,jC,gz,gy,id_eq,oq,ml,DB,hv,bI,B6,bO,DT,e1,if_true,dF,ln,C6 (show(kn rs).length≤1000 by omega),DS,e2];rfl)]
 rfl
def aa6(g:Good rs)(hl:rs.length≤300)(hP:∀n j,n<rs.length→j<(kn rs).length→(P n j=true↔gR rs j n)){j:Nat}{d:De}(hd:(kn rs)[j]?=some d){q:Int×Int}(hq:q∈aR rs rs.length)(o8:Qzq) :
  ∃fC,ye [A0,.bo\Row.d∘rs,.fr\.lst (aZ (aR rs rs.length)),.fr\.lst ((kn rs).map ao),.bo\.dt (Wd rs P),.fr\cV q,.fr\↥j,.fr\ao d,o8]=some (.nx [A0,.bo\Row.d∘rs,.fr\.lst (aZ (aR rs rs.length)),.fr\.lst ((kn rs).map ao),.bo\.dt (Wd rs P),.fr\cV q,.fr\↥j,.fr\ao d,fC]):=by
 have hj:j<(kn rs).length:=(bp.mp hd).1;let⟨q0,q1⟩:=M9 g hq;let⟨a,z⟩:=q;obtain⟨m,rfl⟩:∃m:Nat,z=(m:Int):=⟨z.toNat,by have:(0:Int)≤z:=q0;omega⟩;have hm:m<rs.length:=by have:((m:Nat):Int)<rs.length:=q1;omega
 have hv:=Oe (P:=P) g hq;have hb:=Ni (m:=aY .bo) (n:=.fr) (m':=.fr) (p:=λj=>true&&!P m j) hj;have hc:∀{x:Qzq},(jB (ae aP (ae gD (ae nC (k7 (jV 4) (jV 5)) (jV 6)) (jC (.int 1))) (jC (.int 0)))) [A0,.bo\Row.d∘rs,.fr\.lst (aZ (aR rs rs.length)),.fr\.lst ((kn rs).map ao),.bo\.dt (Wd rs P),.fr\cV (a,(m:Int)),.fr\↥j,.fr\ao d,x]=some (P m j):=λ{x}=>by
  simp! [jB,ae,k7,jV,jC,gz,gy,id_eq,oq,ml,DB,hv,Int.toNat_natCast];rw[hb];simp! [oq,m8,bO];cases P m j<;>rfl
 have S8:∀{mm n:M},au (mm,cV (a,(m:Int))) (n,.int 1)=some (aY mm,↥m):=λ{mm n}=>rfl;unfold ye;rcases aaZ g hl hd (a:=a) hm with⟨l,e,hf,S9⟩|⟨e,hn⟩
 ·have hM:=IJ g hd hf.1 hf.2.1 hf.2.2.1 S9 hm;have hp:=(hP m j hm hj).mpr hM;refine⟨some (.bo,⇑l),?_⟩;rw[ax (e':=[A0,.bo\Row.d∘rs,.fr\.lst (aZ (aR rs rs.length)),.fr\.lst ((kn rs).map ao),.bo\.dt (Wd rs P),.fr\cV (a,(m:Int)),.fr\↥j,.fr\ao d,.bo\⇑l]) (by ac_rfl)];rw[bK (hc.trans (dD some hp)),bL (by
   simp! [eY,jB,aC,ag,ai,ae,jV,jC,gz,gy,id_eq,oq,S8,mq,mn,U7 g hl hf S9 hm,bO,oy,Bool.not_true])]
  rfl
 ·have hp:P m j=false:=by
   cases hx:P m j with
   |false=>rfl
   |true=>exact absurd ((hP m j hm hj).mp hx) hn
  refine⟨some (.fr,.non),?_⟩;rw[ax (e':=[A0,.bo\Row.d∘rs,.fr\.lst (aZ (aR rs rs.length)),.fr\.lst ((kn rs).map ao),.bo\.dt (Wd rs P),.fr\cV (a,(m:Int)),.fr\↥j,.fr\ao d,.fr\.non]) (by ac_rfl)];rw[bL (hc.trans (dD some hp)),bL (by
   simp! [cQ,eY,jB,aC,ag,ai,ae,jV,jC,gz,gy,id_eq,oq,Nc,S8,mq,mn,Wd,Yu g hP hd hm hn,bO,oy,Bool.not_true];rfl)]
  rfl
end
def Wv(ns:List Int)(hn:ns.length≤63):∃m,yZ [.int∘ns]=some (m,.bl true):=by
 let⟨rs,e1,g,hl,AA⟩:=Ui ns (J.cut ns (some 2) (some 22)) (acU ns);let⟨P,e4,hP⟩:=U6 g ∅;have e4:tU [Row.d∘rs]=some (.un,.dt (Wd rs P)):=e4;have e2:=aa1 (rs:=rs) ∅;have e3:=Wu (rs:=rs) ∅;have eM:xF [.int∘ns]=some (.un,Row.d∘rs):=by
  unfold xF fn IC;simp only[cA,bE,bH];simp! [aF,aC,ag,ai,iD,gP,jV,jC,gz,id_eq,oq,mX,oy,Lh,mq,mn,e1,ui]
 let⟨x1,l1,o5,h1⟩:=dh (g:=gN 5) (b:=yd) (m:=.fr) (ds:=aZ (aR rs rs.length)) (e:=[.al\.int∘ns,.bo\Row.d∘rs,.fr\.lst (aZ (aR rs rs.length)),.bo\.lst ((kn rs).map ao),.bo\.dt (Wd rs P),none,none,none,none])
  (λ_ e=>∃o5,e=[.al\.int∘ns,.bo\Row.d∘rs,.fr\.lst (aZ (aR rs rs.length)),.bo\.lst ((kn rs).map ao),.bo\.dt (Wd rs P),o5,none,none,none]) ⟨none,rfl⟩
  (λi d e hd bx=>by
   let⟨o5,he⟩:=bx;subst he;let⟨q,hq,rfl⟩:=oI hd;exact⟨_,_,rfl,aa5 g ∅ (dH hq),_,rfl⟩)
 subst h1;let⟨x2,l2,dA,o6,o7,o8,h2⟩:=dh (g:=gT 2 (bR (gN 6) (bR (gN 7) dJ))) (b:=CZ) (m:=.fr) (ds:=bY ((kn rs).map ao)) (e:=[.al\.int∘ns,.bo\Row.d∘rs,.fr\.lst (aZ (aR rs rs.length)),.fr\.lst ((kn rs).map ao),.bo\.dt (Wd rs P),o5,none,none,none])
  (λ_ e=>∃o5 o6 o7 o8,e=[.al\.int∘ns,.bo\Row.d∘rs,.fr\.lst (aZ (aR rs rs.length)),.fr\.lst ((kn rs).map ao),.bo\.dt (Wd rs P),o5,o6,o7,o8]) ⟨o5,none,none,none,rfl⟩
  (λj d e hd bx=>by
   let⟨o5,o6,o7,o8,he⟩:=bx;subst he;let⟨dq,hdq,rfl⟩:=Ke hd;let⟨x3,l3,dA,fC,h3⟩:=dh (g:=gN 5) (b:=ye) (m:=.fr) (ds:=aZ (aR rs rs.length)) (e:=[.al\.int∘ns,.bo\Row.d∘rs,.fr\.lst (aZ (aR rs rs.length)),.fr\.lst ((kn rs).map ao),.bo\.dt (Wd rs P),o5,.fr\↥j,.fr\ao dq,o8])
    (λ_ e=>∃o5 o8,e=[.al\.int∘ns,.bo\Row.d∘rs,.fr\.lst (aZ (aR rs rs.length)),.fr\.lst ((kn rs).map ao),.bo\.dt (Wd rs P),o5,.fr\↥j,.fr\ao dq,o8]) ⟨o5,o8,rfl⟩
    (λi d e hd bx=>by
     let⟨o5,o8,he⟩:=bx;subst he;let⟨q,hq,rfl⟩:=oI hd;let⟨fC,w⟩:=aa6 (A0:=.al\.int∘ns) g ∅ hP hdq (dH hq) o8;exact⟨_,_,rfl,w,_,fC,rfl⟩)
   subst h3;refine⟨[.al\.int∘ns,.bo\Row.d∘rs,.fr\.lst (aZ (aR rs rs.length)),.fr\.lst ((kn rs).map ao),.bo\.dt (Wd rs P),o5,.fr\↥j,.fr\ao dq,o8],_,rfl,?_,dA,.fr\↥j,.fr\ao dq,fC,rfl⟩;unfold CZ;rw[bT,show aW 2 [.al\.int∘ns,.bo\Row.d∘rs,.fr\.lst (aZ (aR rs rs.length)),.fr\.lst ((kn rs).map ao),.bo\.dt (Wd rs P),o5,.fr\↥j,.fr\ao dq,o8]=[.al\.int∘ns,.bo\Row.d∘rs,.fr\.lst (aZ (aR rs rs.length)),.fr\.lst ((kn rs).map ao),.bo\.dt (Wd rs P),o5,.fr\↥j,.fr\ao dq,o8] from rfl];simp! [aT,bF,jV,gz,gy,id_eq,oq,b9,oy];exact l3)
 subst h2;refine⟨.fr,?_⟩;unfold yZ fn N7;simp only[cA,bE,bH];have cl:∀{F:Qqk}{d:D}{e:Ev}{k i:Nat}{x:D}{mm:M},F [x]=some (.un,d)→e[i]?=some (some (mm,x))→aw k (aC F (ag (jV i) ai)) e=some (.nx (e.set k (.bo\d))):=λ{F d e k i x mm} h1 h2=>by
  simp! [aw,aC,ag,ai,jV,h2,id_eq,oq,mq,mn,h1,kJ]
 rw[ax (cl eM rfl),ax (cl e2 rfl),ax (cl e3 rfl),ax (cl e4 rfl)];simp! [tz,tq];rw[ax (e':=[.al\.int∘ns,.bo\Row.d∘rs,.bo\.lst (aZ (aR rs rs.length)),.bo\.lst ((kn rs).map ao),.bo\.dt (Wd rs P),none,none,none,none]) (by
  let⟨s1,s2⟩:=sorts (m:=.bo) (f:=λm=>bI (λj=>true&&!P m.toNat j) (kn rs).length) (yF g rs.length);rw[bL (by
   simp! [cQ,eY,jB,aK,ae,ag,ai,jV,jC,gz,gy,id_eq,oq,show jj [(M.bo,D.dt (Wd rs P)),(.fr,.ty "dict")]=some (.fr,.bl true)from rfl,bO,oy,Bool.not_true,Bool.false_eq_true,if_false,s2];rw[show mY [(M.bo,D.dt (Wd rs P))]=kl (aR rs rs.length)from s1,show kl (aR rs rs.length)=some (.un,.lst (aZ ((fU (aR rs rs.length)).map λi=>(aR rs rs.length).getD i (0,0)))) by unfold kl;rw[if_pos AA,aZ,gw];rfl,oq,oq,aaK (UZ _) (U0 _)];rfl)]
  rfl)]
 rw[ax (by
  rw[bT,show aW 2 [.al\.int∘ns,.bo\Row.d∘rs,.bo\.lst (aZ (aR rs rs.length)),.bo\.lst ((kn rs).map ao),.bo\.dt (Wd rs P),none,none,none,none]=[.al\.int∘ns,.bo\Row.d∘rs,.fr\.lst (aZ (aR rs rs.length)),.bo\.lst ((kn rs).map ao),.bo\.dt (Wd rs P),none,none,none,none] from rfl];simp! [aT,bF,jV,gz,gy,id_eq,oq,b9,oy];exact l1)]
 rw[ax (by
  rw[bT,show aW 3 [.al\.int∘ns,.bo\Row.d∘rs,.fr\.lst (aZ (aR rs rs.length)),.bo\.lst ((kn rs).map ao),.bo\.dt (Wd rs P),o5,none,none,none]=[.al\.int∘ns,.bo\Row.d∘rs,.fr\.lst (aZ (aR rs rs.length)),.fr\.lst ((kn rs).map ao),.bo\.dt (Wd rs P),o5,none,none,none] from rfl];simp! [aT,gb,ag,jV,ai,gz,gy,oq,id_eq,b9,oy];exact l2)]
 rfl
end aL
namespace aL
open PySem PySem.Spec L2 My J
def walk {l:PySem.W.OpenLaw}{q:Program}{loose:List Str}{XP:(Str→Option Value)→Heap→Prop}{YP:World→Heap→Prop}{d:DefRec}{K:Params→PySem.W.Frag} (hn:l.most=some 63) (vF:d.params.defaults=[]) (hd:d.name = "law")
  (hY:∀(w:World) (h:Heap),YP w h→(K w.params).In h) (F:∀(w:World),C.A5 (K w.params) zB∧C.A6 (K w.params) bs∧C.A7 (K w.params) gs) :
  PySem.W.WalkO q loose XP YP l.row.toRowW d [] (λf vs=>PySem.call f vs) :=
 L2.W0 (n:=63) (k:=7) (x := "_law_script") (CX:=λ_=>mK) (sp:=λw=>p5 (K w.params) 1 yZ) hn (by decide) vF ⟨rfl,by decide,by decide⟩ hY (λw mg fa h X G GW=>C.ab2 X G (hd▸GW) (F w).2.1 (F w).2.2 (F w).1 ba ok e47 λ_ _ _ _ _ _ _ _=>.of_eq rfl) (λ_ _ a ns hl _ hS=>ZZ hS (Wv ns hl)) λ_ _ _ _ _ z=>z
end aL
namespace PySem.W.Fast
def tw13001249832598393426:=0
def tw14418185288866035956:=0
def tw1901312104939899291:=0
def tw6897030686865808688:=0
def tw16323396792281769602:=0
def tw10512672002542803999:=0
def tw15969696090016315699:=0
def tw2811715735856238313:=0
def tw9643185199122010963:=0
def tw16373395831879496878:=0
def tw4163570171895760396:=0
def tw3767990053917547390:=0
def tw8088079901018892502:=0
def tw12521327219005688866:=0
def tw6522540431164542563:=0
def tw6181454624439863331:=0
def tw15644058318889497392:=0
def tw7272726728306048864:=0
def tw4627737817950241599:=0
def tw18317409883380799779:=0
def tw7911907381700118617:=0
def tw15388350284255105582:=0
def tw3408968332328650537:=0
def tw11170060130329340362:=0
def tw4604378973803493079:=0
def tw3357326959750373466:=0
def tw17247191421065656427:=0
def tw5565705635132558328:=0
def tw7750257310484981393:=0
def tw5723616814152628793:=0
def tw1790154061445538281:=0
def tw5853515137874180176:=0
def tw2813702915241322198:=0
def tw17287151295883167408:=0
def tw5987139311401207308:=0
def tw10630378341745834839:=0
def tw15189972697640801404:=0
def tw15984329139626055673:=0
def tw17853264816809849765:=0
def tw11299736974758503630:=0
def tw12896823711117426748:=0
def tw4578385604192539337:=0
def tw13202012799338336512:=0
def tw3057567560725929172:=0
def tw13608413190375578213:=0
def tw3692551670275939210:=0
def tw14133601689370580288:=0
def tw4155614550517365249:=0
def tw8325099198902990501:=0
def tw7530949537060348079:=0
def tw2163967505187809629:=0
def tw14012368637949661174:=0
def tw15502359371316425545:=0
def tw18019009529467690164:=0
def tw15187634758722495546:=0
def tw16940985497007916431:=0
def tw15360672790968527816:=0
def tw2577372065879800931:=0
def tw11543726714928112494:=0
def tw3176219849325156924:=0
def tw9625272769685049714:=0
def tw16007247505873946832:=0
def tw17837241944339787604:=0
def tw13448510376120238462:=0
def tw7312919401728870741:=0
def tw6205996207674860011:=0
def tw7746884981514896794:=0
def tw3100424204214494070:=0
def tw12501495161071051678:=0
def tw2548627890128030261:=0
def tw15658779823847000431:=0
def tw16589372390274122292:=0
def tw11573700412366387288:=0
def tw15269967149839497596:=0
def tw18440648642949998922:=0
def tw10010097943069352593:=0
def tw7868306600917132872:=0
def tw6799013920973741365:=0
def tw7232446500683720105:=0
def tw14071014535413488110:=0
def tw9126422893461970029:=0
def tw8859179901473166995:=0
def tw14233959235169531735:=0
def tw15073477366372087817:=0
def tw4143734726194826909:=0
def tw2413384246130031895:=0
def tw8352545769891238917:=0
def tw1358568902904134318:=0
def tw5620842831425372176:=0
def tw2779026931789852207:=0
def tw14947412922971124930:=0
def tw16901172055161926223:=0
def tw1831495543527028697:=0
def tw16396142712232584543:=0
def tw7552271521125823496:=0
def tw2349144383825686020:=0
def tw6731192122450772355:=0
def tw4739880117913764508:=0
def tw7077489759976289597:=0
def tw16291964737727553590:=0
def tw12852590883149797636:=0
def tw3967601323724499669:=0
def tw6958201794638889313:=0
def tw16042014732701403078:=0
def tw4970389888650384506:=0
def tw509892900801641985:=0
def tw16082463267586417958:=0
def tw2774179942346325688:=0
def tw10822395947012792458:=0
def tw6560176525509792495:=0
def tw1829399723813094090:=0
def tw14291978145025624898:=0
def tw10080671779862810439:=0
def tw18366656399011015251:=0
def tw11019355951712604419:=0
def tw6123271276721627979:=0
def tw568394512226077269:=0
def tw1865326619228583575:=0
def tw16077453084789378574:=0
def tw1013579863832348324:=0
def tw16668872633203651057:=0
def tw15935042354057061347:=0
def tw8534126576517780784:=0
def tw6356760450911681413:=0
def tw17166897038499034578:=0
def tw6874834083839290843:=0
def tw13628367344346276657:=0
def tw263415544667087896:=0
def tw12001828309731024891:=0
def tw13474958784249803425:=0
def tw4628241708695875073:=0
def tw1243401911237986506:=0
def tw4992358869471327819:=0
def tw14420904150432874488:=0
def tw5609663204300321993:=0
def tw13017692512142020235:=0
def tw17610585549175062524:=0
def tw5057093812947501858:=0
def tw14047982543196980644:=0
def tw12314472205201936952:=0
def tw13806106352426275919:=0
def tw17069939676251969062:=0
def tw7657017962597583005:=0
def tw6876412807120931842:=0
def tw7486438344424818558:=0
def tw7859982067876511682:=0
def tw17790524635138973408:=0
def tw975720326731134339:=0
def tw14891500778243743739:=0
def tw14612690842181837763:=0
def tw309810398482035154:=0
def tw13153856772480382318:=0
def tw9330702229881903802:=0
def tw10945269214021149295:=0
def tw2915480330942194203:=0
def tw12298774995522792000:=0
def tw1027548635393796557:=0
def tw3377491943342502623:=0
def tw5855069001788329507:=0
def tw12372877195760748970:=0
def tw15896570827223263148:=0
def tw17788919387093107377:=0
def tw11144982041919709383:=0
def tw12264402523686634627:=0
def tw11324297219039629679:=0
def tw6341916561954717877:=0
def tw12047326792167015402:=0
def tw16177328239920802947:=0
def tw16092687830867797720:=0
def tw4773505393337640045:=0
def tw536795334925887238:=0
def tw13700251703187141181:=0
def tw4610522992160657362:=0
def tw1494493027088877922:=0
def tw6311830574242813266:=0
def tw18419420164554625544:=0
def tw660489747741957173:=0
def tw11253069369454237813:=0
def tw1298413664917031758:=0
end PySem.W.Fast
open PySem PySem.W PyProof.Rows
set_option maxRecDepth 100000 in
set_option maxHeartbeats 0 in
theorem PySem.Challenge.cw_lazyhoist_k31_whole_wanted_or_a_way_holds : PySem.Challenge.rw_lazyhoist_k31_whole_wanted_or_a_way.Holds := by
  w_on; o_law; k_head; (case hw => w_witness2)
  k_fill
  refine aL.walk (l := PySem.Challenge.rw_lazyhoist_k31_whole_wanted_or_a_way) rfl rfl rfl (λw h Y => PySem.W.kIn_of Y) ?F
  case F =>
    intro w;refine ⟨⟨(?_:C.DE _ "law" (aL.top 52) none), (?_:C.DE _ "_law_goes_on" (aL.top 51) none), (?_:C.DE _ "_law_walked" (aL.top 50) none), (?_:C.DE _ "_law_made" (aL.top 49) none), (?_:C.DE _ "_law_known" (aL.top 48) none), (?_:C.DE _ "_law_changes" (aL.top 47) none), (?_:C.DE _ "_law_has" (aL.top 46) none), (?_:C.DE _ "_law_places" (aL.top 45) none), (?_:C.DE _ "_law_program" (aL.top 43) none), (?_:C.DE _ "_law_any_program" (aL.top 42) none), (?_:C.DE _ "_law_mended" (aL.top 41) none), (?_:C.DE _ "_law_comes_to" (aL.top 40) none), (?_:C.DE _ "_law_followers" (aL.top 44) none), (?_:C.DE _ "_law_any_row" (aL.top 39) none), (?_:C.DE _ "_law_stairs" (aL.top 38) none), (?_:C.DE _ "_law_with_else" (aL.top 37) none), (?_:C.DE _ "_law_with_while" (aL.top 36) none), (?_:C.DE _ "_law_goal" (aL.top 35) none), (?_:C.DE _ "_law_rough" (aL.top 33) none), (?_:C.DE _ "_law_number" (aL.top 34) none), (?_:C.DE _ "_law_last" (aL.top 32) none), (?_:C.DE _ "_law_row" (aL.top 31) none), (?_:C.DE _ "_law_deeds" (aL.top 30) none), (?_:C.DE _ "_law_operand" (aL.top 29) none), (?_:C.DE _ "_law_names" (aL.top 28) none), (?_:C.DE _ "_law_is_free" (aL.top 27) none), (?_:C.DE _ "_law_mixed" (aL.top 26) none), (?_:C.DE _ "_law_cell" (aL.top 25) none), (?_:C.DE _ "unwanted" (aL.top 23) none), (?_:C.DE _ "wanted" (aL.top 21) none), (?_:C.DE _ "unwanted_bits" (aL.top 22) none), (?_:C.DE _ "shortest_way" (aL.top 17) none), (?_:C.DE _ "way_back" (aL.top 19) none), (?_:C.DE _ "next_layer" (aL.top 18) none), (?_:C.DE _ "spread" (aL.top 15) none), (?_:C.DE _ "changed_bits" (aL.top 14) none), (?_:C.DE _ "reckoned_bits" (aL.top 13) none), (?_:C.DE _ "every_bit" (aL.top 12) none), (?_:C.DE _ "bits_of" (aL.top 11) none), (?_:C.DE _ "turned" (aL.top 9) none), (?_:C.DE _ "reckonings" (aL.top 8) none), (?_:C.DE _ "places" (aL.top 7) none), (?_:C.DE _ "all_followers" (aL.top 6) none), (?_:C.DE _ "followers" (aL.top 5) none), (?_:C.DE _ "changes" (aL.top 3) none), (?_:C.DE _ "sets" (aL.top 2) none), (?_:C.DE _ "reckoning_of" (aL.top 1) none), trivial⟩, ⟨?qz0, ?qz1, ?qz2, ?qz3, ?qz4, ?qz5, ?qz6, ?qz7, ?qz8, ?qz9, ?adW, ?adX, trivial⟩, trivial⟩
    iterate 47 (refine' C.adC ?a ?l ?c ?k; (case a => k_is); (case l => k_is); (case c => k_is); (case k => k_is))
    case qz0 => (show PySem.W.nsIn _ mainGlobals "bool" = some none); k_is
    case qz1 => (show PySem.W.nsIn _ mainGlobals "dict" = some none); k_is
    case qz2 => (show PySem.W.nsIn _ mainGlobals "enumerate" = some none); k_is
    case qz3 => (show PySem.W.nsIn _ mainGlobals "int" = some none); k_is
    case qz4 => (show PySem.W.nsIn _ mainGlobals "isinstance" = some none); k_is
    case qz5 => (show PySem.W.nsIn _ mainGlobals "len" = some none); k_is
    case qz6 => (show PySem.W.nsIn _ mainGlobals "list" = some none); k_is
    case qz7 => (show PySem.W.nsIn _ mainGlobals "max" = some none); k_is
    case qz8 => (show PySem.W.nsIn _ mainGlobals "range" = some none); k_is
    case qz9 => (show PySem.W.nsIn _ mainGlobals "set" = some none); k_is
    case adW => (show PySem.W.nsIn _ mainGlobals "sorted" = some none); k_is
    case adX => (show PySem.W.nsIn _ mainGlobals "sum" = some none); k_is
